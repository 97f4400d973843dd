import PyProof.Rows.All
import Wide.All
import OpenK.AllK
import Wide.FinOn
import Lean
import PyProof.EqAt
import PyProof.EqKinds
import PyProof.TupleCall
import KE.KRevIter
import PyProof.NeKinds
import PyProof.Draws
import PyProof.EnumMake
import KE.KSortTup
import PyProof.ZipIter
import KE.KDictList
import PyProof.AttrMissHeap
import KE.KDictOf
import PyProof.Rows.SetFrom
import PyProof.Rows.SortRunsK
import PyProof.IsRules
import PyProof.SetRoads
import KE.KSortKey
import PyProof.RulesDel
import PyProof.DelItemList
import PySem.Challenge.RW_wordwishes_k58_kinds_learnt
set_option Elab.async false
set_option linter.all false
set_option maxRecDepth 100000
set_option maxHeartbeats 4000000
set_option bootstrap.genMatcherCode false
set_option compiler.extract_closed false
noncomputable section
open PySem renaming wpAny_bind->o0,Value->M0,wpAny_pure->M9,Shared->N1,sizeLine->N7,Addr->O1,starEach->O5,sizeLine_eq->O7,FuncData->P5,wpAny->P6,Program->Q7,Builtin->Q8,Heap->Q9,SetTable->R1,mainGlobals->R3,model->R4,Expr->R6,Around->S0,wpAny_newObj_type->S3,foldedSetIterable->T0,Spec->T6,wpAny_call_entry->U3,PassesOwn->U5,World->U9,compareOp->V4,wpAny_callSpecial?_slot->V6,wpAny_holding->W5,wpAny_mono->X9,NameKind->aa2,mem_of_lookup->aa5,codeAny_builtin->ab8,attributeBase->ac0,wpAny_Call_Name_kw->ad1,backTo->ad7,binaryOp->ad8,wpAny_truthy_bool->ae1,assignEach->ae3,behindInMarks->ae6,Stmt->af0,Paired->af1,wpAny_loadPart'->af2,wpAny_typeNameOfWhole_itemiter->af6,cLine->af7,eval->af8,bootBuiltins->ag4,wpAny_setField->ag6,wpAny_setState_of->ag8,rawInt->ah1,swapsWith->ai1,codeAny_mono->ai3,tupleKind_room_in1->ai4,scanBound->ai5,wpAny_field->ai9,sysModules->aj3,wpAny_passesOwn->aj4,wpAny_ite_false->aj9,fits_of_scanBound->ak0,wpAny_getItem_str_slice->ak6,plainId_quiet->ak7,wpAny_setEntries_of->ak9,firstArgMember->al9,Scope->am0,wpAny_setField_rec->am6,codeAny->am8,wpAny_specialOf->an1,pickOrder->an3,wpAny_pyIter_list->an6,tupleKind->ao4,wpAny_fieldsOf->ao5,wpAny_isInstance->ao8,wpAny_forIn_list->ao9,wpAny_rule->ap3,letOwnedTupleGo->ap7,wpAny_pyIter_tuple->aq1,wpAny_attempt->aq4,sliceBounds->ar2,IsItemIter->ar5,wpAny_pyIter_slot->ar6,wpAny_storeSet_of->ar7,pyNext->as1,DictEntry->as2,wpAny_typeOf->as3,wpAny_askSetting->as9,wpAny_standAt->at3,Comprehension->at5,holding->at7,wpAny_execs_nil->at8,keywordEach->at9,Keyword->au0,codeAny_of_tree->au2,post_val_or_str->au3,wpAny_of_eq->au4,assign->au8,pyIter->au9,call_meets->av5,getItem->av8,compEnvC->aw0,unsupported->aw1,relayAll->aw3,setSearchFrom->aw5,Within->aw9,seqItems?->ax2,setAddHashed->ax4,typeIs_int->ax9,CmpOp->ay2,standAt->ay3,IsRangeIter->ay4,subscripted->ay5,callerA->ay6,GenState->az0,IsPart->az1,backToKw->az2,wpAny_load->az3,Walks->az4,BindsTo->az5,wpAny_call->az6,valueAt->az8,strKind_is->az9,Result->aA0,Operator->aA1,spliced->aA3,inplaceOp->aA4,cellsFrom->aA5,putSet_of->aA7,setNext->aA8,Code->aA9
open List renaming length_map->s0,getElem?_eq_getElem->N0,getElem?_eq_some_iff->N4,map_cons->N5,mem_singleton->N8,size_toArray->O0,length_cons->O2,length_append->O6,mem_cons->O9,mem_append->P0,nil_append->P1,mem_of_getElem?->P3,mem_map->P4,map_append->P7,map_map->P9,range->Q0,getElem?_map->Q6,mem_range->R0,map_congr_left->R5,replicate->R7,take_add_one->S1,length_take->S2,getD_eq_getElem?_getD->S5,take_length->S6,mem_cons_of_mem->S7,mem_append_right->S8,getElem?_eq_none->S9,drop_eq_getElem_cons->T5,filter_eq_self->U0,getElem_mem->V0,lookup_cons->V3,length_nil->V5,getElem?_append_left->V7,mem_cons_self->V8,mem_filter->W4,sum_cons->W8,filterMap_cons->W9,nodup_cons->Z1,all_eq_true->Z3,mem_flatMap->Z4,length_range->Z5,drop_eq_nil_of_le->Z8,find?_cons_of_neg->Z9,append_nil->aa4,foldl_cons->aa6,sum_append->aa7,length_filter_le->aa8,any_eq_true->ab0,filter_cons->ab1,getElem?_cons_succ->ab4,mem_append_left->ab5,find?_cons_of_pos->ab7,not_mem_nil->ac3,nodup_append->ac7,take_append_drop->ac8,mem_zipIdx_iff_getElem?->ad0,length->ad2,any_cons->ad3,mem_iff_getElem->ad6,getElem?_append_right->ad9,take_of_length_le->ae0,replicate_succ->ae4,flatMap_cons->ae5,pairwise_iff_getElem->ae8,length_singleton->af3,mem_iff_getElem?->af4,getElem?_take_of_lt->ag0,length_eq_zero_iff->ag2,find?_cons->ah2,flatMap_append->ah4,mem_reverse->ah8,map_flatMap->ah9,mem_filterMap->ai2,lookup->ai7,mem_of_mem_take->aj2,flatten_cons->aj6,append_assoc->aj7,getElem?_replicate->ak5,getElem?_cons_zero->al0,length_reverse->al2,length_flatMap->al3,mem_map_of_mem->al4,length_drop->al6,perm_middle->al7,getElem?_set_self->am1,pairwise_lt_range->am4,map_nil->an0,all_map->an2,ext_getElem?->an7,pairwise_map->an8,foldl_append->ao1,getElem?_append->ao3,drop_zero->ao6,getElem?_range->ap0,length_pos_iff->ap1,all_cons->ap8,range_succ->aq0,cons->aq2,getElem?_drop->aq5,pairwise_cons->aq6,length_zipIdx->aq8,any_map->as7,cons_append->at0,Pairwise->at4,map_take->at6,take_zero->av2,Perm->av6,map_drop->aw6,filter->ay8,foldl->az7
open PySem.W renaming Frag->u8,nsIn->T7,mg_none_of->U1,findIn->aa9,mg_of->ac1,emptyDict->ac5,keepIn->ag5,instObj->ah0,fnOf->ak2,hasDictIn->ar0,plainGet->as8,codeIn->av1
open PySem.Heap renaming get?_push_of_some->M7,get?_push_size->N6,lt_size->P2,SameBut->S4,size_push->W1,get?_update_self->W6,get?_update_other->am2,ExtBut->aw2
open Nat renaming le_refl->N2,le_trans->N3,zero_le->O3,lt_of_lt_of_le->O4,ne_of_lt->P8,le_of_lt->T8,lt_or_ge->U6,le_succ_of_le->U7,pow_le_pow_right->W3,lt_succ_of_lt->X7,lt_succ_self->ab9,mul_le_mul_right->ag1,lt_irrefl->ai0,pow_succ->ai6,min_eq_left->ak1,lt_of_le_of_lt->am5,mul_comm->am9,ne_of_gt->ap2,mod_lt->ap5,le_succ->ar1,lt_trichotomy->ar9,zero_add->as6,pow_add->au5,add_assoc->aw4,succ_mul->ax0,add_zero->ax5,succ_pos->ax6,sub_self->ax7,succ->aA2
open Bool renaming false_eq_true->N9,and_eq_true->V2,false_ne_true->V9,eq_iff_iff->W0,false_xor->ae9,not_true->al1,not_false->ao7
open Array renaming length_toList->O8,getElem?_eq_getElem->R9,getElem?_toList->W7,getD_eq_getD_getElem?->X8,getD->ac6,getElem?_setIfInBounds->ag3,getElem?_eq_some_iff->ah6,forIn_toList->aq7,toList_push->ar8,replicate->au6
open PySem.PassesOwn renaming never->Q5
open Or renaming inl->R8,inr->as5
open Option.some renaming inj->T4,injEq->ar4
open PySem.F renaming called_set->T9,slot_dict_itemiterator_next->ac2,slot_tuple_iterator_next->ah7,slot_tuple_hash->ao2,slot_int_rmul->au1
open Int renaming toNat_natCast->U2,eq_ofNat_of_zero_le->Z0,zero_add->an4,natCast_add->au7,le_of_lt->av0,add_zero->ax8,le_refl->ay7
open PySem.Value renaming ref->U4,none->X1,type->aa0,int->aw7,str->ay9
open PySem.Heap.SameBut renaming update->U8
open Option renaming some->V1,isSome_iff_exists->X5,map_some->ah3,bind_some->at2
open Classical renaming byContradiction->X0
open PyProof.Rows renaming callWith_type1->X4,slot_tuple_getitem->X6,KeyOrd->ak3,seqObj->aq9,kindOf->av4,AllBare->av7,IsTup->aw8,envOfC->ay0
open PySem.Builtin.Tuple renaming tupleHashOf->Z6,tupleExact->aa1,tupleItemsOf->ah5
open PySem.Around renaming under_plainId->Z7
open Ne renaming symm->aa3
open PySem.SeqAt renaming EqAt->ab2
open PySem.Builtin.Range renaming rangeSize->ab3
open PySem.Str renaming ofString->ab6
open Inhabited renaming default->ac4
open PySem.Builtin.Dict_items renaming ownsTuple->ac9
open ForInStep renaming yield->ad4
open PyProof.Rows.F renaming plain_set_update_loop->ad5,entry_set_update_loop->ak8
open False renaming elim->ae2
open PySem.NameKind renaming free->ae7,cell->ap9
open List.cons renaming injEq->af5
open PySem.Calls renaming spliced_cons->af9,spliced_nil->ag7,callWith_builtin->am3
open Function renaming comp_def->ag9
open PySem.Builtin.Slice renaming slicePlaces->ai8
open PySem.Builtin.SmallTypes renaming nextOf->aj0
open PySem.SetTable renaming grown->aj1,fresh->as0,below->av3
open PySem.Obj renaming mapSeq->aj5,mapFields->ao0,putSet->ap4
open PyProof.Rows.KeyOrd renaming kle_refl->aj8,kle_of_klt->an9,kle_trans->at1
open PySem.Builtin.Str renaming occurrences->ak4
open Pure renaming pure->al5
open True renaming intro->al8
open Sum renaming inl->am7,inr->ay1
open PySem.Code renaming compLoop->an5
open PySem.Paired renaming length->ap6
open PySem.Shared renaming TypeIs->aq3
open List.Pairwise renaming imp->ar3
open PySem.Txt renaming slice->as4,slice_le->ax1
open PySem.Data renaming seq->av9
open Nat.succ renaming inj->ax3
open LawfulMonad renaming pure_bind->aA6
set_option compiler.extract_closed false
namespace L2
open PySem PySem.Spec PyProof.Rows
abbrev Key:=Sum Int Str
noncomputable def rh:Key->M0->Bool
 |.inl k,v=>M0.isInt k v
 |.inr x,v=>M0.isStrOf x v
noncomputable def Mq(w:U9):Key->Int
 |.inl k=>hashInt k
 |.inr x=>hashStr w x
theorem bP:∀{k:Key}{v:M0},rh k v=true->(∃i t,k=am7 i/\v=aw7 i t)∨(∃x t,k=ay1 x/\v=ay9 x t)
 |.inl i,v,h=>by
  obtain⟨t,e⟩:=M0.isInt_shape (k:=i) (v:=v) h;exact .inl ⟨i,t,rfl,e⟩
 |.inr x,v,h=>by
  obtain⟨t,e⟩:=M0.isStrOf_shape (x:=x) (v:=v) h;exact .inr ⟨x,t,rfl,e⟩
theorem Br(i:Int)(t:Tok):rh (.inl i) (.int i t)=true:=by simp[rh,M0.isInt]
theorem AQ(x:Str)(t:Tok):rh (.inr x) (.str x t)=true:=by simp[rh,M0.isStrOf]
theorem Jp(a b:Int):decide ((am7 a:Key)=am7 b)=(a==b):=by
 by_cases e:a=b
 ·subst e;simp
 ·have h:¬ (am7 a:Key)=am7 b:=λq=>e (am7.inj q);rw[decide_eq_false h];exact(beq_eq_false_iff_ne.mpr e).symm
theorem HM(a b:Str):decide ((ay1 a:Key)=ay1 b)=decide (a=b):=by
 by_cases e:a=b
 ·subst e;simp
 ·have h:¬ (ay1 a:Key)=ay1 b:=λq=>e (ay1.inj q);rw[decide_eq_false h,decide_eq_false e]
theorem IM(a:Int)(b:Str):decide ((am7 a:Key)=ay1 b)=false:=decide_eq_false (λq=>nomatch q)
theorem Ik(a:Str)(b:Int):decide ((ay1 a:Key)=am7 b)=false:=decide_eq_false (λq=>nomatch q)
def bo(prog:Q7)(w:U9):PySem.KeyKind prog w Key where
 is:=rh
 hash:=Mq w
 inj:=λv a b l g=>by
  rcases bP l with⟨i,t,rfl,rfl⟩|⟨x,t,rfl,rfl⟩
  ·rcases bP g with⟨j,u,rfl,e⟩|⟨y,u,rfl,e⟩
   ·injection e with c _;rw[c]
   ·exact nomatch e
  ·rcases bP g with⟨j,u,rfl,e⟩|⟨y,u,rfl,e⟩
   ·exact nomatch e
   ·injection e with c _;rw[c]
 byValue:=λk v h=>by
  rcases bP h with⟨i,t,rfl,rfl⟩|⟨x,t,rfl,rfl⟩<;>rfl
 pyHash:=λf h=>by
  rcases bP f with⟨i,t,rfl,rfl⟩|⟨x,t,rfl,rfl⟩
  ·exact wpAny_pyHash_int h
  ·exact wpAny_pyHash_str h
 eqBool:=λm f h=>by
  rcases bP m with⟨i,t,rfl,rfl⟩|⟨x,t,rfl,rfl⟩
  ·rcases bP f with⟨j,u,rfl,rfl⟩|⟨y,u,rfl,rfl⟩
   ·rw[Jp]at h;exact wpAny_eqBool_int h
   ·rw[IM]at h;exact ab2.int_str i t y u _ _ _ _ h
  ·rcases bP f with⟨j,u,rfl,rfl⟩|⟨y,u,rfl,rfl⟩
   ·rw[Ik]at h;exact ab2.str_int x t j u _ _ _ _ h
   ·rw[HM]at h;exact wpAny_eqBool_str h
 «strs»:=λk x t v h=>by
  rcases bP h with⟨i,u,rfl,e⟩|⟨y,u,rfl,e⟩
  ·exact nomatch e
  ·injection e with c _
   subst c;cases v<;>rfl
theorem wo(prog:Q7)(w:U9)(i:Int)(t:Tok):(bo prog w).is (.inl i) (.int i t)=true:=Br i t
theorem wQ(prog:Q7)(w:U9)(x:Str)(t:Tok):(bo prog w).is (.inr x) (.str x t)=true:=AQ x t
inductive V where
 |non|bl (b:Bool)|int (i:Int)|str (x:Str)|byt (b:Array UInt8)|flt (b:UInt64)|ref (a:O1)|ty (n:String)
 deriving DecidableEq
def aQ:V->M0->Prop
 |.non,u=>u=X1
 |.bl b,u=>u=M0.bool b
 |.int i,u=>∃t,u=aw7 i t
 |.str x,u=>∃t,u=ay9 x t
 |.byt b,u=>∃t,u=M0.bytes b t
 |.flt b,u=>∃t,u=M0.float b t
 |.ref a,u=>u=U4 a
 |.ty n,u=>u=aa0 n
abbrev aH:List V->List M0->Prop:=af1 aQ
theorem aH.length{xs:List V}{a:List M0}(r:aH xs a):xs.length=a.length:=ap6 r
theorem aH.get:∀{xs:List V}{a:List M0}{i:Nat}{x:V},aH xs a->xs[i]?=some x->∃u,a[i]?=some u/\aQ x u
 |_,_,_,_,.nil,e=>by simp at e
 |_,_,0,_,.cons r _,e=>by simp at e;subst e;exact⟨_,rfl,r⟩
 |_,_,i+1,x,.cons _ t,e=>by
  obtain⟨u,c,f⟩:=aH.get (i:=i) (x:=x) t (by simpa using e);exact⟨u,by simpa using c,f⟩
theorem aH.set{x:V}{u:M0}(r:aQ x u):∀{xs:List V}{a:List M0}(i:Nat),aH xs a->aH (xs.set i x) (a.set i u)
 |_,_,_,.nil=>.nil
 |_,_,0,.cons _ t=>.cons r t
 |_,_,i+1,.cons q t=>.cons q (aH.set r i t)
theorem aH.append:∀{xs c:List V}{a ws:List M0},aH xs a->aH c ws->aH (xs++c) (a++ws)
 |_,_,_,_,.nil,s=>s
 |_,_,_,_,.cons r t,s=>.cons r (aH.append t s)
theorem aH.take:∀{xs:List V}{a:List M0}(n:Nat),aH xs a->aH (xs.take n) (a.take n)
 |_,_,0,_=>.nil
 |_,_,_+1,.nil=>.nil
 |_,_,n+1,.cons r t=>.cons r (aH.take n t)
theorem aH.drop:∀{xs:List V}{a:List M0}(n:Nat),aH xs a->aH (xs.drop n) (a.drop n)
 |_,_,0,r=>r
 |_,_,_+1,.nil=>.nil
 |_,_,n+1,.cons _ t=>aH.drop n t
def ku:Option V->Option M0->Prop
 |some v,some u=>aQ v u
 |none,none=>True
 |_,_=>False
def KV{κ:Type}:List (κ×V)->List (κ×M0)->Prop:=af1 λ(p:κ×V) (q:κ×M0)=>p.1=q.1/\aQ p.2 q.2
noncomputable def kV:Key->V
 |.inl i=>.int i
 |.inr x=>.str x
inductive HO where
 |lst (xs:List V)
 |tup (xs:List V)
 |dK (kvs:List (Key×V))|dT (kvs:List (List Key×V))
 |set (S:Int->Bool) (n:Nat)
 |ins (C dx:O1) (fs:List (Str×V))
 |own (x:O1)
 |xd (fs:List (Str×V))
 |met (f x:O1)
 |rng (lo hi:Int)
 |frz (o:Obj) (u:HO)
 |tbl (ps:Array M0)
 |ext (φ:Q9->Prop)
abbrev Hp:=O1->Option HO
noncomputable def upd(H:Hp)(a:O1)(o:HO):Hp:=λb=>if b=a then some o else H b
theorem aO{H:Hp}{a:O1}{o:HO}:upd H a o a=some o:=by unfold upd;rw[if_pos rfl]
theorem aX{H:Hp}{a b:O1}{o:HO}(h:b≠a):upd H a o b=H b:=by unfold upd;rw[if_neg h]
theorem Gv{H:Hp}{a b:O1}{o u:HO}(h:H a=some o)(h':H b=some u)(d:o≠u):a≠b:=by
 intro e;subst e;rw[h]at h';exact d (T4 h')
theorem cR{H:Hp}{a b:O1}{o:HO}(h:H a=some o)(h':H b=none):a≠b:=by
 intro e;subst e;rw[h]at h';cases h'
def pR(h:Q9)(a:O1)(xs:Array M0):Prop:=∃o,h.get? a=some o/\o.cls=.type "tuple"/\(∃n,o.data=.seq xs n)/\o.dict=none
theorem pR.tup{h:Q9}{a:O1}{xs:Array M0}(x:pR h a xs):aw8 h a xs:=let⟨o,e,c,d,_⟩:=x;⟨o,e,c,d⟩
theorem pR.lt{h:Q9}{a:O1}{xs:Array M0}(x:pR h a xs):a<h.objs.size:=let⟨_,e,_⟩:=x;P2 e
theorem pR.new(h:Q9)(xs:Array M0):pR (h.push { cls:=.type "tuple",data:=.seq xs }) h.objs.size xs:=⟨_,N6 h rfl,rfl,⟨_,rfl⟩,rfl⟩
section
variable(P:Q7) (w:U9)
def cu(H:Hp)(h:Q9)(a:O1):HO->Prop
 |.lst g=>g.length<=N7/\∃(e:List M0) (n:Nat),aH g e/\h.get? a=some { cls:=.type "list",data:=.seq e.toArray n }
 |.tup g=>g.length<=N7/\∃e:List M0,aH g e/\pR h a e.toArray
 |.dK c=>c.length<=N7/\(a==aj3)=false/\∃A,KV c A/\h.DictOf (bo P w) a A
 | .dT c => c.length ≤ N7 ∧ (a == aj3) = false ∧ ∃ g:List (List Key × O1 × M0),
   af1 (λ(p:List Key×V) (q:List Key×O1×M0)=>p.1=q.1/\H q.2.1=some (.tup (p.1.map kV))/\aQ p.2 q.2.2) c g /\
   ∃o z B,h.get? a=some o/\o.ExactDict/\o.data=.dict z B/\z.toList=g.map (entryOfKey (ao4 (bo P w)))/\(g.map (·.1)).Nodup
 |.set S n=>h.SetOf (intKind P w) a S n
 | .ins C j fs => H j = some (.own a) ∧ fs.length ≤ 1000 ∧ j ≠ a ∧ h.get? a = some (ah0 C j) ∧
   ∃i,h.Ns1 j i/\(∀f,ku (fs.lookup f) (i f))/\aw9 i (fs.map (·.1))
 |.own _=>∃o,h.get? a=some o
 |.xd fs=>∃i,h.Ns1 a i/\∀f,ku (fs.lookup f) (i f)
 |.rng lo E=>∃t u v,h.get? a=some { cls:=.type "range",data:=.fields #[.int lo t,.int E u,.int 1 v] }
 |.frz o u=>h.get? a=some o/\cu H h a u
 |.tbl G=>h.get? a=some { cls:=.none,data:=.fields G }
 |.met f x=>h.get? a=some (PySem.W.methodObj (.ref f) (.ref x))
 |.ext l=>l h/\(∃o,h.get? a=some o)/\∀m s:Q9,l m->(∀o,m.get? a=some o->s.get? a=some o)->l s
def HOk(H:Hp)(h:Q9):Prop:=∀a o,H a=some o->cu P w H h a o
end
section
variable{P:Q7}{w:U9}{H I:Hp}{h h':Q9}{a:O1}{o:HO}
theorem cu.lt(x:cu P w H h a o):a<h.objs.size:=by
 cases o with
 |lst g=>obtain⟨_,_,_,_,e⟩:=x;exact P2 e
 |tup g=>obtain⟨_,_,_,p⟩:=x;exact p.lt
 |dK c=>obtain⟨_,_,_,_,o,_,_,e,_⟩:=x;exact P2 e
 |dT c=>obtain⟨_,_,_,_,o,_,_,e,_⟩:=x;exact P2 e
 |set S n=>obtain⟨o,_,_,_,e,_⟩:=x;exact P2 e
 |ins C m fs=>obtain⟨_,_,_,e,_⟩:=x;exact P2 e
 |own y=>obtain⟨_,e⟩:=x;exact P2 e
 |xd fs=>obtain⟨_,⟨_,_,_,e,_⟩,_⟩:=x;exact P2 e
 |rng lo l=>obtain⟨_,_,_,e⟩:=x;exact P2 e
 |frz i u=>obtain⟨e,_⟩:=x;exact P2 e
 |tbl q=>exact P2 (show h.get? a=some _ from x)
 |met f y=>exact P2 (show h.get? a=some _ from x)
 |ext j=>obtain⟨_,⟨_,e⟩,_⟩:=x;exact P2 e
theorem af1.mapP{g h:Type}{F G:g->h->Prop}:∀{e:List g}{c:List h},af1 F e c->(∀a b,F a b->G a b)->af1 G e c
 |_,_,.nil,_=>.nil
 |_,_,.cons r t,f=>.cons (f _ _ r) (af1.mapP t f)
theorem af1.imp'{g h:Type}{F G:g->h->Prop}(f:∀a b,F a b->G a b){e:List g}{c:List h}(r:af1 F e c):af1 G e c:=af1.mapP r f
theorem cu.stay(x:cu P w H h a o)(k:∀b u,(b=a∨H b=some (.own a))->h.get? b=some u->h'.get? b=some u)
  (E:∀b,H b=some (.own a)->I b=some (.own a)) (M:∀b xs,H b=some (.tup xs)->I b=some (.tup xs)):cu P w I h' a o:=by
 induction o with
 |lst xs=>obtain⟨z,l,n,r,e⟩:=x;exact⟨z,l,n,r,k _ _ (.inl rfl) e⟩
 |tup xs=>obtain⟨z,l,r,g,e,c⟩:=x;exact⟨z,l,r,g,k _ _ (.inl rfl) e,c⟩
 |dK s=>obtain⟨z,y,G,r,g,i,j,e,c⟩:=x;exact⟨z,y,G,r,g,i,j,k _ _ (.inl rfl) e,c⟩
 |dT s =>
  obtain⟨z,y,xs,r,g,i,j,e,c⟩:=x;exact⟨z,y,xs,af1.mapP r λp q z=>⟨z.1,M _ _ z.2.1,z.2.2⟩,g,i,j,k _ _ (.inl rfl) e,c⟩
 |set S n=>obtain⟨g,i,j,t,e,c⟩:=x;exact⟨g,i,j,t,k _ _ (.inl rfl) e,c⟩
 |ins C Q fs =>
  obtain⟨d,z,L,e,m,⟨A,i,j,J,c⟩,r⟩:=x;exact⟨E _ d,z,L,k _ _ (.inl rfl) e,m,⟨A,i,j,k _ _ (.inr d) J,c⟩,r⟩
 |own y=>obtain⟨g,e⟩:=x;exact⟨g,k _ _ (.inl rfl) e⟩
 |xd fs=>obtain⟨m,⟨A,i,j,e,c⟩,r⟩:=x;exact⟨m,⟨A,i,j,k _ _ (.inl rfl) e,c⟩,r⟩
 |rng lo O=>obtain⟨t,u,v,e⟩:=x;exact⟨t,u,v,k _ _ (.inl rfl) e⟩
 |frz g u ih=>obtain⟨e,q⟩:=x;exact⟨k _ _ (.inl rfl) e,ih q⟩
 |tbl B =>
  have e:h.get? a=some { cls:=.none,data:=.fields B }:=x;show h'.get? a=some { cls:=.none,data:=.fields B };exact k a _ (.inl rfl) e
 |met f y =>
  have e:h.get? a=some (PySem.W.methodObj (.ref f) (.ref y)):=x;show h'.get? a=some (PySem.W.methodObj (.ref f) (.ref y));exact k a _ (.inl rfl) e
 |ext N=>obtain⟨p,⟨o,e⟩,st⟩:=x;exact⟨st _ _ p λo q=>k _ _ (.inl rfl) q,⟨o,k _ _ (.inl rfl) e⟩,st⟩
theorem HOk.lt(x:HOk P w H h)(e:H a=some o):a<h.objs.size:=(x a o e).lt
theorem HOk.fresh(x:HOk P w H h)(e:h.objs.size<=a):H a=none:=by
 cases q:H a with
 |none=>rfl
 |some u=>exact absurd (O4 (x.lt q) e) (ai0 _)
theorem HOk.kept(x:HOk P w H h)(k:∀b u,h.get? b=some u->h'.get? b=some u):HOk P w H h':=λa o e =>
 (x a o e).stay (λb u _ q=>k b u q) (λ_ q=>q) λ_ _ q=>q
theorem HOk.laid(x:HOk P w H h)(k:∀b u,h.get? b=some u->h'.get? b=some u)(i:h.objs.size<=a)(new:cu P w (upd H a o) h' a o):HOk P w (upd H a o) h':=λb u e=>by
 have g:=x.fresh i
 by_cases f:b=a
 ·subst f;rw[aO]at e;cases e;exact new
 ·rw[aX f]at e;exact(x b u e).stay (λc v _ q=>k c v q) (λc q=>by rw[aX (cR q g)];exact q) λc j q=>by rw[aX (cR q g)];exact q
end
def Rd(H:Hp)(a:O1)(u:HO):Prop:=H a=some u∨∃o,H a=some (.frz o u)
theorem Rd.ok{P:Q7}{w:U9}{H:Hp}{h:Q9}{a:O1}{u:HO}(r:Rd H a u)(x:HOk P w H h):cu P w H h a u:=by
 rcases r with r|⟨o,r⟩
 ·exact x a u r
 ·obtain⟨_,q⟩:=x a _ r;exact q
def Mut:Option HO->Prop
 |some (.lst _)=>True
 |some (.dK _)=>True
 |some (.dT _)=>True
 |some (.set _ _)=>True
 |some (.ins _ _ _)=>True
 |some (.ext _)=>True
 |_=>False
section
variable{P:Q7}{w:U9}{H:Hp}{h h':Q9}{x e:O1}{G:HO}
theorem HOk.write(ok:HOk P w H h)(l:Mut (H x))(he:e=x∨H e=some (.own x))(k:∀b u,b≠e->h.get? b=some u->h'.get? b=some u)(n:∃u,h'.get? e=some u)
  (new:cu P w (upd H x G) h' x G):HOk P w (upd H x G) h':=λb u q=>by
 have f:∀c y,H c=some (.own y)->c≠x:=λc y r z=>by subst z;rw[r]at l;exact l
 have g:∀c m,H c=some (.tup m)->c≠x:=λc m r z=>by subst z;rw[r]at l;exact l
 by_cases j:b=x
 ·subst j;rw[aO]at q;cases q;exact new
 ·rw[aX j]at q
  by_cases a:b=e
  ·have o:H b=some (.own x):=by
    rcases he with z|z
    ·exact absurd (a.trans z) j
    ·rw[a];exact z
   rw[q]at o;cases o;obtain⟨v,p⟩:=n;exact⟨v,by rw[a];exact p⟩
  ·refine(ok b u q).stay (λc v i r=>k c v ?_ r) (λc r=>by rw[aX (f c b r)];exact r) λc m r=>by rw[aX (g c m r)];exact r
   rcases i with rfl|i
   ·exact a
   ·rintro rfl;rcases he with z|z
    ·exact f c b i z
    ·rw[i]at z;cases z;exact j rfl
end
structure Un(fs ex:List O1) (H H':Hp) (h h':Q9):Prop where
 keep:∀b o,h.get? b=some o->H b=none->b∉fs->b∉ex->h'.get? b=some o
 slot:∀b o,h.get? b=some o->H b=none->b∈fs->b∉ex->∃sl,h'.get? b=some { o with slots:=sl }
 free:∀b o,h.get? b=some o->H b=none->b∉ex->H' b=none
 there:∀b o,h.get? b=some o->b∉ex->∃o',h'.get? b=some o'
 tups:∀b xs,H b=some (.tup xs)->H' b=some (.tup xs)
 frzs:∀b o u,H b=some (.frz o u)->H' b=some (.frz o u)
 tbls:∀b ps,H b=some (.tbl ps)->∃more,H' b=some (.tbl (ps++more))
section
variable{fs I y L:List O1}{H N Y:Hp}{h G h2 h':Q9}{a x e:O1}{o:HO}
theorem Un.any(u:Un fs y H N h G){b:O1}{ob:Obj}(q:h.get? b=some ob)(n:H b=none)(c:b∉y):∃e,G.get? b=some { ob with slots:=e }:=by
 by_cases a:b∈fs
 ·exact u.slot b ob q n a c
 ·exact⟨ob.slots,u.keep b ob q n a c⟩
theorem Un.kept(k:∀b u,h.get? b=some u->h'.get? b=some u):Un fs y H H h h' :=
 ⟨λb a q _ _ _=>k b a q,λb a q _ _ _=>⟨a.slots,k b a q⟩,λ_ _ _ n _=>n,λb a q _=>⟨a,k b a q⟩,λ_ _ q=>q,λ_ _ _ q=>q,λ_ c q=>⟨#[],by rw[q];simp⟩⟩
theorem Un.refl:Un fs y H H h h:=Un.kept λ_ _ q=>q
theorem Un.laid(k:∀b u,h.get? b=some u->h'.get? b=some u)(e:h.objs.size<=a)(hn:H a=none):Un fs y H (upd H a o) h h' where
 keep:=λb u q _ _ _=>k b u q
 slot:=λb u q _ _ _=>⟨u.slots,k b u q⟩
 free:=λb u q n _=>by rw[aX (P8 (O4 (P2 q) e))];exact n
 there:=λb u q _=>⟨u,k b u q⟩
 tups:=λb c q=>by rw[aX (cR q hn)];exact q
 frzs:=λb u c q=>by rw[aX (cR q hn)];exact q
 tbls:=λb f q=>⟨#[],by rw[aX (cR q hn),q];simp⟩
theorem Un.write(c:Mut (H x))(he:e=x∨H e=some (.own x))(k:∀b u,b≠e->h.get? b=some u->h'.get? b=some u)(g:∃u,h'.get? e=some u):Un fs y H (upd H x o) h h':=by
 have j:∀b,H b=none->b≠x:=λb n z=>by subst z;rw[n]at c;exact c
 have i:∀b,H b=none->b≠e:=λb n z=>by
  subst z;rcases he with r|r
  ·exact j b n r
  ·rw[n]at r;cases r
 have f:∀b u,H b=some u->¬ Mut (some u)->b≠x:=λb u q l z=>by subst z;rw[q]at c;exact l c
 refine⟨λb u q n _ _=>k b u (i b n) q,λb u q n _ _=>⟨u.slots,k b u (i b n) q⟩,λb u q n _=>by rw[aX (j b n)];exact n,λb u q _=>?_,
  λb m q=>by rw[aX (f b _ q λz=>z)];exact q,λb u m q=>by rw[aX (f b _ q λz=>z)];exact q,λb p q=>⟨#[],by rw[aX (f b _ q λz=>z),q];simp⟩⟩
 by_cases a:b=e
 ·subst a;exact g
 ·exact⟨u,k b u a q⟩
end
noncomputable def trk(h:Q9)(H:Hp):List O1:=(Q0 h.objs.size).filter λa=>(H a).isSome
noncomputable def vb(h:Q9)(H:Hp):Q9:=PySem.W.hideAll h (trk h H)
theorem Bj(h:Q9)(H:Hp):(vb h H).objs.size=h.objs.size:=PySem.W.hideAll_size _ _
theorem Cy{h:Q9}{H:Hp}{b:O1}{o:Obj}(e:h.get? b=some o)(n:H b=none):(vb h H).get? b=some o :=
 PySem.W.hideAll_get _ e λa=>by
  have q:(H b).isSome=true:=(W4.mp a).2;rw[n]at q;simp at q
theorem Fp{h:Q9}{H:Hp}{b:O1}{o:Obj}(e:(vb h H).get? b=some o):h.get? b=some o/\H b=none:=by
 have a:h.get? b=some o:=PySem.W.of_hideAll (trk h H) e;refine⟨a,?_⟩;cases q:H b with
 |none=>rfl
 |some x =>
  have c:b∈trk h H:=W4.mpr ⟨R0.mpr (P2 a),by simp[q]⟩;have z:(vb h H).get? b=none:=PySem.W.hideAll_none (trk h H) c;rw[z]at e;cases e
structure Mod(K:u8) (mg:Str->Option M0) (base:Q9):Prop where
 kin:K.In base
 glob:base.Ns R3 mg
 blt:∃mb,base.Ns builtinsNs mb/\∀x:Str,x≠"__name__"->mb x=ag4 x
 nolimit:base.NoLimit
structure Cx where
 prog:Q7
 w:U9
 K:u8
 mg:Str->Option M0
 base:Q9
 A:S0
 N:List Str
 s₀:N1
 H₀:Hp
 env:Env
 outer:List Env
 stack:List Env
 ex:List O1
 fn:Str->Bool
 calm:Bool
 pn:List (O1×Obj)
 xe:M0->N1->Prop
noncomputable def frs(l:List Env):List O1:=l.filterMap (·.frame)
noncomputable abbrev Cx.fs(X:Cx):List O1:=frs X.outer
def Vis(a:am0)(x:Str):Prop:=a.names.lookup x=some .local∨a.names.lookup x=some .cell∨a.names.lookup x=some .free
def Loc(a:am0)(x:Str):Prop:=a.names.lookup x=some .local∨a.names.lookup x=some .cell
def L6(env:Env)(h:Q9)(m:Str->Option M0)(x:Str)(u:M0):Prop :=
 (env.kindOf x=some .local/\m x=some u)∨((env.kindOf x=some .cell∨env.kindOf x=some .free)/\∃c,env.cells.lookup x=some c/\h.IsCell c (some u))
structure Cx.Ok(X:Cx):Prop where
 mod:Mod X.K X.mg X.base
 kind:X.env.scope.kind=.function
 glob:X.env.globals=R3
 blt:X.env.builtins=builtinsNs
 above:X.s₀.heap.objs.size<=X.env.locals
 inj:∀x y c,X.env.cells.lookup x=some c->X.env.cells.lookup y=some c->x=y
 has:∀x,(X.env.kindOf x=some .cell∨X.env.kindOf x=some .free)->∃c,X.env.cells.lookup x=some c
 cab:∀x c,X.fn x=true->X.env.cells.lookup x=some c->X.s₀.heap.objs.size<=c
 hd:X.calm=true->X.A.handled=none
 frames:X.A.frames=some X.stack
 stk:X.stack=X.outer∨(X.stack=X.env::X.outer/\X.env.frame=some X.env.locals)
 exf:∀b∈X.ex,b≠X.env.locals/\∀x c,X.env.cells.lookup x=some c->c≠b
 bs:∀b o,X.base.get? b=some o->X.s₀.heap.get? b=some o/\X.H₀ b=none
 bsz:X.base.objs.size<=X.s₀.heap.objs.size
 noex:∀b o,X.base.get? b=some o->b∉X.ex
 exfs:∀b∈X.ex,b∉X.fs
 funs:X.s₀.heap.FunFrames X.base X.outer
 frf:∀b∈X.fs,X.H₀ b=none
structure Inv(X:Cx) (af:List (O1×Obj)) (σ:List (Option V)) (H:Hp) (s:N1):Prop where
 ok:X.Ok
 os:s.os=X.s₀.os
 bare:av7 s.gens
 base:Un X.fs X.ex X.H₀ H X.s₀.heap s.heap
 loc:∃m,s.heap.Ns X.env.locals m/\∀(i:Nat) (x:Str) (v:V),X.N[i]?=some x->σ[i]?=some (some v)->Vis X.env.scope x->∃u,aQ v u/\L6 X.env s.heap m x u
 cell:∀x c,X.env.cells.lookup x=some c->∃v,s.heap.IsCell c v
 free:H X.env.locals=none
 freeC:∀x c,X.env.cells.lookup x=some c->H c=none
 pin:∀p∈X.pn++af,s.heap.get? p.1=some p.2/\H p.1=none/\p.1≠X.env.locals/\p.1∉X.fs/\∀v,p.2.data≠.cell v
 hok:HOk X.prog X.w H s.heap
 len:σ.length=X.N.length
section
variable{X:Cx}{G:List (O1×Obj)}{σ:List (Option V)}{H Y:Hp}{s:N1}{h':Q9}
theorem Cx.Ok.nofr(ok:X.Ok){b:O1}{o:Obj}(e:X.base.get? b=some o):b∉X.fs:=λa=>by
 have:=(ok.funs.mem a).1;rw[e]at this;cases this
theorem Inv.bs(I:Inv X G σ H s):∀b o,X.base.get? b=some o->s.heap.get? b=some o/\H b=none:=λb o e =>
 ⟨I.base.keep b o (I.ok.bs b o e).1 (I.ok.bs b o e).2 (I.ok.nofr e) (I.ok.noex b o e),I.base.free b o (I.ok.bs b o e).1 (I.ok.bs b o e).2 (I.ok.noex b o e)⟩
theorem Inv.bk(I:Inv X G σ H s):∀b o,X.base.get? b=some o->s.heap.get? b=some o:=λb o e=>(I.bs b o e).1
theorem Inv.mod(I:Inv X G σ H s):Mod X.K X.mg X.base:=I.ok.mod
theorem Inv.kIn(I:Inv X G σ H s):X.K.In s.heap:=I.ok.mod.kin.keeps I.bk
theorem Inv.lt(I:Inv X G σ H s):X.env.locals<s.heap.objs.size:=let⟨_,a,_⟩:=I.loc;a.lt
theorem Inv.sz(I:Inv X G σ H s):X.s₀.heap.objs.size<=s.heap.objs.size:=N3 I.ok.above (T8 I.lt)
theorem Inv.nofs(I:Inv X G σ H s){a:O1}(h:s.heap.objs.size<=a):a∉X.fs:=λe=>by
 obtain⟨_,o,c,_⟩:=I.ok.funs.mem e;exact absurd (O4 (P2 c) (N3 I.sz h)) (ai0 _)
theorem Inv.cne(I:Inv X G σ H s):∀x c,X.env.cells.lookup x=some c->c≠X.env.locals:=λx c e z=>by
 obtain⟨v,o,g,h⟩:=I.cell x c e;obtain⟨m,⟨l,i,j,a,f,_⟩,_⟩:=I.loc;rw[z,a]at g;cases g;rw[f]at h;cases h
theorem Inv.funs(I:Inv X G σ H s):s.heap.FunFrames X.base X.outer:=by
 have all:∀(l:List Env),(∀b∈frs l,b∈X.fs)->X.s₀.heap.FunFrames X.base l->s.heap.FunFrames X.base l:=by
  intro l
  induction l with
  |nil=>intro _ _;trivial
  |cons h r ih =>
   intro g m;obtain⟨n,⟨L,o,a,p,j,i⟩,q⟩:=m;have f:L∈X.fs:=g L (by unfold frs;rw[W9,a];exact V8);obtain⟨u,e⟩:=I.base.slot L o j (I.ok.frf L f) f λz=>I.ok.exfs L z f;exact⟨n,⟨L,_,a,p,e,i⟩,ih (λb c=>g b (by unfold frs;rw[W9,a];exact S7 _ c)) q⟩
 exact all X.outer (λ_ c=>c) I.ok.funs
theorem Inv.stack(I:Inv X G σ H s):s.heap.FunFrames X.base X.stack:=by
 rcases I.ok.stk with e|⟨e,a⟩
 ·rw[e];exact I.funs
 ·rw[e];obtain⟨m,c,_⟩:=I.loc;refine .cons (by rw[I.ok.kind];decide) a c ?_ I.funs;exact Q9.get?_none_of_le (N3 I.ok.bsz I.ok.above)
theorem Inv.stkSub(I:Inv X G σ H s):∀b∈frs X.stack,b∈X.env.locals::X.fs:=λb a=>by
 rcases I.ok.stk with e|⟨e,c⟩
 ·rw[e]at a;exact S7 _ a
 ·rw[e]at a;unfold frs at a;rw[W9,c]at a;exact a
theorem Inv.stkFree(I:Inv X G σ H s):∀b∈frs X.stack,H b=none:=λb a=>by
 rcases O9.mp (I.stkSub b a)with e|a
 ·rw[e];exact I.free
 ·obtain⟨_,o,c,_⟩:=I.ok.funs.mem a;exact I.base.free b o c (I.ok.frf b a) λz=>I.ok.exfs b z a
theorem Inv.step{g':Array az0}{t':Nat}{d':Drawn}{ch:List O1}(I:Inv X G σ H s)
  (f:∀b∈ch,(b∈X.ex∨X.s₀.heap.objs.size<=b)/\b≠X.env.locals/\(∀x c,X.env.cells.lookup x=some c->c≠b)/\∀p∈X.pn++G,p.1≠b)
  (keep:∀b o,b≠X.env.locals->b∉X.fs->b∉ch->s.heap.get? b=some o->H b=none->h'.get? b=some o)
  (slot:∀b o,b≠X.env.locals->b∈X.fs->b∉ch->s.heap.get? b=some o->H b=none->∃R,h'.get? b=some { o with slots:=R }) (free:∀b o,b∉ch->s.heap.get? b=some o->H b=none->Y b=none)
  (B:∀b o,b∉ch->s.heap.get? b=some o->∃N,h'.get? b=some N)
  (L:∀b xs,H b=some (.tup xs)->Y b=some (.tup xs)) (O:∀b o u,H b=some (.frz o u)->Y b=some (.frz o u)) (E:∀b ps,H b=some (.tbl ps)->∃more,Y b=some (.tbl (ps++more)))
  (ns:∀m,s.heap.Ns X.env.locals m->h'.Ns X.env.locals m) (S:HOk X.prog X.w Y h') (hg:av7 g') :
  Inv X G σ Y { s with heap:=h',gens:=g',drawn:=d',toks:=t' }:=by
 have J:∀b o,X.s₀.heap.get? b=some o->b≠X.env.locals:=λb o e=>P8 (O4 (P2 e) I.ok.above);have j:∀b o,X.s₀.heap.get? b=some o->b∉X.ex->b∉ch:=λb o e a A=>by
  rcases(f b A).1 with z|z
  ·exact a z
  ·exact absurd (O4 (P2 e) z) (ai0 _)
 have h:∀x c,X.env.cells.lookup x=some c->∀v,s.heap.IsCell c v->h'.IsCell c v:=λx c e v ⟨o,C,P⟩=>by
  have g:c∉ch:=λz=>(f c z).2.2.1 x c e rfl
  by_cases T:c∈X.fs
  ·obtain⟨R,q⟩:=slot c o (I.cne x c e) T g C (I.freeC x c e);exact⟨_,q,P⟩
  ·exact⟨o,keep c o (I.cne x c e) T g C (I.freeC x c e),P⟩
 refine⟨I.ok,I.os,hg,⟨λb o e n A a=>?_,λb o e n A a=>?_,λb o e n a=>?_,λb o e a=>?_,λb xs e=>L b xs (I.base.tups b xs e),λb o xs e=>O b o xs (I.base.frzs b o xs e),λb ps e=>?_⟩,?_,λx c e=>?_,?_,λx c e=>?_,λp hp=>?_,S,I.len⟩
 ·exact keep b o (J b o e) A (j b o e a) (I.base.keep b o e n A a) (I.base.free b o e n a)
 ·obtain⟨R,w⟩:=I.base.slot b o e n A a;obtain⟨Q,M⟩:=slot b _ (J b o e) A (j b o e a) w (I.base.free b o e n a);exact⟨Q,M⟩
 ·obtain⟨N,w⟩:=I.base.there b o e a;exact free b N (j b o e a) w (I.base.free b o e n a)
 ·obtain⟨N,w⟩:=I.base.there b o e a;exact B b N (j b o e a) w
 ·obtain⟨m1,w⟩:=I.base.tbls b ps e;obtain⟨m2,M⟩:=E b _ w;exact⟨m1++m2,by rw[M,Array.append_assoc]⟩
 ·obtain⟨m,hn,hl⟩:=I.loc;refine⟨m,ns m hn,λi x v w M e3=>?_⟩;obtain⟨u,r,l⟩:=hl i x v w M e3;refine⟨u,r,?_⟩;rcases l with l|⟨k,c,e,z⟩
  ·exact .inl l
  ·exact .inr ⟨k,c,e,h x c e _ z⟩
 ·obtain⟨v,z⟩:=I.cell x c e;exact⟨v,h x c e v z⟩
 ·obtain⟨m,⟨o,_,_,C,_⟩,_⟩:=I.loc;exact free _ o (λz=>(f _ z).2.1 rfl) C I.free
 ·obtain⟨v,o,C,P⟩:=I.cell x c e;exact free c o (λz=>(f c z).2.2.1 x c e rfl) C (I.freeC x c e)
 ·obtain⟨e,n,Z,U,d⟩:=I.pin p hp;have g:p.1∉ch:=λz=>(f p.1 z).2.2.2 p hp rfl;exact⟨keep p.1 p.2 Z U g e n,free p.1 p.2 g e n,Z,U,d⟩
theorem Inv.un{t':Nat}(I:Inv X G σ H s)(u:Un X.fs [] H Y s.heap h')(c:HOk X.prog X.w Y h'):Inv X G σ Y { s with heap:=h',toks:=t' }:=by
 obtain⟨m,⟨o,q,w,i,r⟩,_⟩:=id I.loc;obtain⟨A,p⟩:=u.any i I.free (by simp);exact I.step (g':=s.gens) (d':=s.drawn) (ch:=[]) (λ_ z=>nomatch z) (λb o _ f _ e n=>u.keep b o e n f (by simp)) (λb o _ f _ e n=>u.slot b o e n f (by simp)) (λb o _ e n=>u.free b o e n (by simp)) (λb o _ e=>u.there b o e (by simp)) u.tups u.frzs u.tbls (λB j=>by
  obtain⟨x,g,h,a,l⟩:=j;rw[i]at a;cases a;exact⟨_,g,h,p,l⟩) c I.bare
theorem Inv.call{g':Array az0}{t':Nat}{d':Drawn}{ch:List O1}(I:Inv X G σ H s)(u:Un (frs X.stack) ch H Y s.heap h')(h:HOk X.prog X.w Y h')(hg:av7 g')
  (f:∀b∈ch,(b∈X.ex∨X.s₀.heap.objs.size<=b)/\b≠X.env.locals/\(∀x c,X.env.cells.lookup x=some c->c≠b)/\∀p∈X.pn++G,p.1≠b) :
  Inv X G σ Y { s with heap:=h',gens:=g',drawn:=d',toks:=t' }:=by
 obtain⟨m,⟨o,C,E,q,r⟩,_⟩:=id I.loc;obtain⟨L,j⟩:=u.any q I.free λz=>(f _ z).2.1 rfl;exact I.step (ch:=ch) f (λb o j A a e n=>u.keep b o e n (λz=>(O9.mp (I.stkSub b z)).elim j A) a) (λb o _ _ a e n=>u.any e n a) (λb o a e n=>u.free b o e n a) (λb o a e=>u.there b o e a) u.tups u.frzs u.tbls (λM w=>by
  obtain⟨J,i,l,g,B⟩:=w;rw[q]at g;cases g;exact⟨_,i,l,j,B⟩) h hg
theorem Inv.turned{t':Nat}{it:O1}(I:Inv X G σ H s)(k:∀b o,b≠it->s.heap.get? b=some o->h'.get? b=some o)(hn:H it=none)(g:it≠X.env.locals)
  (i:it∈X.ex∨X.s₀.heap.objs.size<=it) (B:∀x c,X.env.cells.lookup x=some c->c≠it) (C:∀p∈X.pn++G,p.1≠it):Inv X G σ H { s with heap:=h',toks:=t' }:=by
 have f:∀b u,H b=some u->b≠it:=λb u e z=>by rw[z,hn]at e;cases e
 refine I.step (g':=s.gens) (d':=s.drawn) (ch:=[it]) (λb A=>?_) (λb o _ _ a e _=>k b o (λz=>a (by simp[z])) e) (λb o _ _ a e _=>⟨o.slots,k b o (λz=>a (by simp[z])) e⟩) (λ_ _ _ _ n=>n)
  (λb o a e=>⟨o,k b o (λz=>a (by simp[z])) e⟩) (λ_ _ e=>e) (λ_ _ _ e=>e) (λb E e=>⟨#[],by rw[e];simp⟩) (λm h=>?_) (λb u e=>?_) I.bare
 ·have e:b=it:=by simpa using A
  subst e;exact⟨i,g,B,C⟩
 ·obtain⟨o,j,w,l,r⟩:=h;exact⟨o,j,w,k _ o (aa3 g) l,r⟩
 ·refine(I.hok b u e).stay (λc v a q=>k c v ?_ q) (λ_ q=>q) λ_ _ q=>q;rcases a with z|z
  ·rw[z];exact f b u e
  ·exact f c _ z
theorem Inv.tok(I:Inv X G σ H s)(t:Nat):Inv X G σ H { s with toks:=t }:=I.un (h':=s.heap) (t':=t) Un.refl I.hok
theorem Inv.kept{t':Nat}(I:Inv X G σ H s)(k:∀b u,s.heap.get? b=some u->h'.get? b=some u):Inv X G σ H { s with heap:=h',toks:=t' }:=I.un (Un.kept k) (I.hok.kept k)
theorem Inv.laid{a:O1}{o:HO}{t':Nat}(I:Inv X G σ H s)(k:∀b u,s.heap.get? b=some u->h'.get? b=some u)(c:s.heap.objs.size<=a)(new:cu X.prog X.w (upd H a o) h' a o):
  Inv X G σ (upd H a o) { s with heap:=h',toks:=t' }:=I.un (Un.laid k c (I.hok.fresh c)) (I.hok.laid k c new)
theorem Inv.write{x e:O1}{o:HO}{t':Nat}(I:Inv X G σ H s)(c:Mut (H x))(he:e=x∨H e=some (.own x))(k:∀b u,b≠e->s.heap.get? b=some u->h'.get? b=some u)(a:∃u,h'.get? e=some u)
  (new:cu X.prog X.w (upd H x o) h' x o):Inv X G σ (upd H x o) { s with heap:=h',toks:=t' }:=I.un (Un.write c he k a) (I.hok.write c he k a new)
theorem Inv.pins_of{a:List (O1×Obj)}(I:Inv X G σ H s)(h:∀p∈a,s.heap.get? p.1=some p.2/\H p.1=none/\p.1≠X.env.locals/\p.1∉X.fs/\∀v,p.2.data≠.cell v):Inv X a σ H s :=
 ⟨I.ok,I.os,I.bare,I.base,I.loc,I.cell,I.free,I.freeC,λp c=>(P0.mp c).elim (λz=>I.pin p (ab5 _ z)) (h p),I.hok,I.len⟩
theorem wc{N:List Str}(e:N.Nodup){i j:Nat}{x:Str}(a:N[i]?=some x)(b:N[j]?=some x):i=j:=by
 obtain⟨g,f⟩:=N4.mp a;obtain⟨h,c⟩:=N4.mp b;exact(List.getElem_inj e).mp (f.trans c.symm)
theorem sI{M:Model}{A:S0}{E:M0->N1->Prop}{i:Nat}{x:Str}{v:V}{u:M0}{Q:Unit->N1->Prop}(I:Inv X G σ H s)(hN:X.N.Nodup)(Y:X.N[i]?=some x)(B:Loc X.env.scope x)(r:aQ v u)
  (h:∀s',Inv X G (σ.set i (some v)) H s'->(∃a,S4 a s.heap s'.heap/\(a=X.env.locals∨X.env.cells.lookup x=some a))->Q () s') (hf:X.fn x=true∨X.env.scope.names.lookup x=some .local:=by first|exact .inl rfl|exact .inr rfl|assumption):P6 M A (storeName X.env x u) Q E s:=by
 obtain⟨m,hn,hl⟩:=id I.loc;have T:(X.env.scope.kind==.class || (X.env.scope.kind==.module&&X.env.locals != X.env.globals))=false:=by rw[I.ok.kind];rfl
 have L:i<σ.length:=by rw[I.len];exact(N4.mp Y).1
 have cne:=I.cne;have g:∀{a:O1} {h':Q9},(∃o,s.heap.get? a=some o/\H a=none)->S4 a s.heap h'->HOk X.prog X.w H h':=λ{a h'} ha f b ob e=>by
  obtain⟨_,_,C⟩:=ha;refine(I.hok b ob e).stay (λc w' w q=>(f.2 c ?_).trans q) (λ_ q=>q) λ_ _ q=>q;rintro rfl;rcases w with rfl|w
  ·rw[C]at e;cases e
  ·rw[C]at w;cases w
 rcases B with N|N
 ·refine wpAny_storeName_local N hn (λh' a2 f=>?_) T;obtain⟨oL,_,_,a1,_⟩:=id hn;refine h _ ⟨I.ok,I.os,I.bare,⟨λb o e n R B=>?_,λb o e n R B=>?_,I.base.free,λb o e B=>?_,I.base.tups,I.base.frzs,I.base.tbls⟩,⟨_,a2,λj y v' l J e3=>?_⟩,λy c e=>?_,I.free,I.freeC,λp hp=>?_,g ⟨oL,a1,I.free⟩ f,by simpa using I.len⟩ ⟨_,f,.inl rfl⟩
  ·exact(f.2 b (P8 (O4 (P2 e) I.ok.above))).trans (I.base.keep b o e n R B)
  ·obtain⟨sl,l⟩:=I.base.slot b o e n R B;exact⟨sl,(f.2 b (P8 (O4 (P2 e) I.ok.above))).trans l⟩
  ·obtain⟨o',l⟩:=I.base.there b o e B;exact⟨o',(f.2 b (P8 (O4 (P2 e) I.ok.above))).trans l⟩
  ·by_cases P:j=i
   ·subst P;rw[Y]at l;cases l;rw[am1 L]at J;cases J;exact⟨u,r,.inl ⟨N,by simp⟩⟩
   ·rw[List.getElem?_set_ne (aa3 P)]at J;obtain⟨u',r',q⟩:=hl j y v' l J e3;refine⟨u',r',?_⟩;rcases q with⟨k,e⟩|⟨k,c,e,z⟩
    ·refine .inl ⟨k,?_⟩;have:y≠x:=λe=>P (wc hN l (e▸Y));simp[this,e]
    ·exact .inr ⟨k,c,e,z.sameBut f (cne y c e)⟩
  ·obtain⟨w',z⟩:=I.cell y c e;exact⟨w',z.sameBut f (cne y c e)⟩
  ·obtain⟨e,n,ne,nf,d⟩:=I.pin p hp;exact⟨(f.2 p.1 ne).trans e,n,ne,nf,d⟩
 ·have O:X.fn x=true:=by
   rcases hf with z|z
   ·exact z
   ·rw[z]at N;cases N
  obtain⟨c,w⟩:=I.ok.has x (.inl N);obtain⟨w',z⟩:=I.cell x c w;refine wpAny_storeName_cell I.ok.kind N w z (λh' S f=>?_);obtain⟨oc,a0,Z⟩:=id z;refine h { s with heap:=h' } ⟨I.ok,I.os,I.bare,⟨λb o e n R B=>?_,λb o e n R B=>?_,I.base.free,λb o e B=>?_,I.base.tups,I.base.frzs,I.base.tbls⟩,⟨m,hn.sameBut f (aa3 (cne x c w)),λj y v' l J e3=>?_⟩,λy c' e=>?_,I.free,I.freeC,λp hp=>?_,g ⟨oc,a0,I.freeC x c w⟩ f,by simpa using I.len⟩ ⟨c,f,.inr w⟩
  ·exact(f.2 b (P8 (O4 (P2 e) (I.ok.cab x c O w)))).trans (I.base.keep b o e n R B)
  ·obtain⟨sl,l⟩:=I.base.slot b o e n R B;exact⟨sl,(f.2 b (P8 (O4 (P2 e) (I.ok.cab x c O w)))).trans l⟩
  ·obtain⟨o',l⟩:=I.base.there b o e B;exact⟨o',(f.2 b (P8 (O4 (P2 e) (I.ok.cab x c O w)))).trans l⟩
  ·by_cases P:j=i
   ·subst P;rw[Y]at l;cases l;rw[am1 L]at J;cases J;exact⟨u,r,.inr ⟨.inl N,c,w,S⟩⟩
   ·rw[List.getElem?_set_ne (aa3 P)]at J;obtain⟨u',r',q⟩:=hl j y v' l J e3;refine⟨u',r',?_⟩;rcases q with q|⟨k,c',e,z'⟩
    ·exact .inl q
    ·refine .inr ⟨k,c',e,z'.sameBut f ?_⟩;rintro rfl;exact P (wc hN l (I.ok.inj _ _ _ e w▸Y))
  ·by_cases U:c'=c
   ·subst U;exact⟨_,S⟩
   ·obtain⟨w2,z2⟩:=I.cell y c' e;exact⟨w2,z2.sameBut f U⟩
  ·obtain⟨e,n,ne,nf,d⟩:=I.pin p hp;refine⟨(f.2 p.1 ?_).trans e,n,ne,nf,d⟩;intro q;rw[q,a0]at e;have q':oc=p.2:=T4 e;exact d w' (by rw[<-q'];exact Z)
theorem qS{M:Model}{A:S0}{E:M0->N1->Prop}{i:Nat}{x:Str}{v:V}{u:M0}{Q:Unit->N1->Prop}(I:Inv X G σ H s)(e:X.N.Nodup)(f:X.N[i]?=some x)(g:Loc X.env.scope x)(r:aQ v u)
  (h:∀s',Inv X G (σ.set i (some v)) H s'->Q () s') (c:X.fn x=true∨X.env.scope.names.lookup x=some .local:=by first|exact .inl rfl|exact .inr rfl|assumption):P6 M A (storeName X.env x u) Q E s :=
 sI I e f g r (λs' a _=>h s' a) c
theorem Inv.call'{s':N1}{ch:List O1}(I:Inv X G σ H s)(l:s'.os=s.os)(u:Un (frs X.stack) ch H Y s.heap s'.heap)(f:HOk X.prog X.w Y s'.heap)(hg:av7 s'.gens)
  (a:∀b∈ch,(b∈X.ex∨X.s₀.heap.objs.size<=b)/\b≠X.env.locals/\(∀x c,X.env.cells.lookup x=some c->c≠b)/\∀p∈X.pn++G,p.1≠b):Inv X G σ Y s':=by
 obtain⟨h',g,h,i,j⟩:=s';have e:j=s.os:=l;subst e;exact I.call (g':=g) (t':=i) (d':=h) u f hg a
end
abbrev XK:=M0->Option O1->Hp->Prop
noncomputable abbrev St:=List (Option V)
abbrev VK:=V->Hp->Prop
abbrev TE:=St->Hp->VK->Prop
abbrev TT:=St->Hp->(Bool->Hp->Prop)->Prop
abbrev TA:=St->Hp->(List V->Hp->Prop)->Prop
structure xt where
 nx:St->Hp->Prop
 rt:VK
 bk:St->Hp->Prop:=λ_ _=>False
 ct:St->Hp->Prop:=λ_ _=>False
abbrev TS:=xt->St->Hp->Prop
def EP(X:Cx)(c:List (O1×Obj))(σ:St)(Q:VK)(u:M0)(s':N1):Prop:=∃v a,Inv X c σ a s'/\aQ v u/\Q v a
def TP(X:Cx)(c:List (O1×Obj))(σ:St)(Q:Bool->Hp->Prop)(b:Bool)(s':N1):Prop:=∃a,Inv X c σ a s'/\Q b a
def AP(X:Cx)(e:List (O1×Obj))(σ:St)(Q:List V->Hp->Prop)(f:List M0)(s':N1):Prop:=∃a c,Inv X e σ c s'/\aH a f/\Q a c
theorem EP.el{X:Cx}{e:List (O1×Obj)}{σ:St}{Q:VK}{u:M0}{s:N1}{P:Prop}(h:EP X e σ Q u s)(f:∀(v:V) (H:Hp),Inv X e σ H s->aQ v u->Q v H->P):P:=by
 obtain⟨g,i,a,b,c⟩:=h;exact f g i a b c
theorem AP.el{X:Cx}{e:List (O1×Obj)}{σ:St}{Q:List V->Hp->Prop}{u:List M0}{s:N1}{P:Prop}(h:AP X e σ Q u s)(f:∀(v:List V) (H:Hp),Inv X e σ H s->aH v u->Q v H->P):P:=by
 obtain⟨g,i,a,b,c⟩:=h;exact f g i a b c
theorem TP.el{X:Cx}{c:List (O1×Obj)}{σ:St}{Q:Bool->Hp->Prop}{u:Bool}{s:N1}{P:Prop}(h:TP X c σ Q u s)(f:∀(H:Hp),Inv X c σ H s->Q u H->P):P:=by
 obtain⟨e,a,b⟩:=h;exact f e a b
def SP(X:Cx)(e:List (O1×Obj))(D:xt)(f:Flow)(s':N1):Prop :=
 match f with
 |.next=>∃ a c,Inv X e a c s'/\D.nx a c
 |.brk=>∃ a c,Inv X e a c s'/\D.bk a c
 |.cont=>∃ a c,Inv X e a c s'/\D.ct a c
 |.ret u=>∃v a c,Inv X e a c s'/\aQ v u/\D.rt v c
def PE(X:Cx)(e:R6)(t:TE):Prop :=
 ∀(c:List (O1×Obj)) (s:N1) (a:St) (H:Hp) (Q:VK),Inv X c a H s->t a H Q->P6 (R4 X.prog X.w) X.A (af8 e X.env) (EP X c a Q) X.xe s
def PT(X:Cx)(e:R6)(t:TT):Prop :=
 ∀(c:List (O1×Obj)) (s:N1) (a:St) (H:Hp) (Q:Bool->Hp->Prop),Inv X c a H s->t a H Q->P6 (R4 X.prog X.w) X.A (isTrue e X.env (af8 e X.env)) (TP X c a Q) X.xe s
def PW(X:Cx)(e:R6)(t:TT):Prop :=
 ∀(a:Sem M0) (f:List (O1×Obj)) (s:N1) (c:St) (H:Hp) (Q:Bool->Hp->Prop),Inv X f c H s->t c H Q->P6 (R4 X.prog X.w) X.A (isTrue e X.env a) (TP X f c Q) X.xe s
theorem PW.pt{X:Cx}{e:R6}{t:TT}(h:PW X e t):PT X e t:=h _
def PA(X:Cx)(es:List R6)(t:TA):Prop :=
 ∀(c:Pos) (e:List (O1×Obj)) (s:N1) (a:St) (H:Hp) (Q:List V->Hp->Prop),Inv X e a H s->t a H Q->P6 (R4 X.prog X.w) X.A (aA3 (ad7 c (O5 es X.env))) (AP X e a Q) X.xe s
def PS(X:Cx)(st:af0)(t:TS):Prop :=
 ∀(c:List (O1×Obj)) (s:N1) (a:St) (H:Hp) (D:xt),Inv X c a H s->t D a H->P6 (R4 X.prog X.w) X.A (exec st X.env) (SP X c D) X.xe s
def PSs(X:Cx)(st:List af0)(t:TS):Prop :=
 ∀(c:List (O1×Obj)) (s:N1) (a:St) (H:Hp) (D:xt),Inv X c a H s->t D a H->P6 (R4 X.prog X.w) X.A (execs st X.env) (SP X c D) X.xe s
theorem thn{c:Type}{t:Sem c}{Q e:c->N1->Prop}{M:Model}{A:S0}{E:M0->N1->Prop}{s:N1}(h:P6 M A t Q E s)(f:∀a s,Q a s->e a s):P6 M A t e E s:=X9 h f λ_ _ x=>x
section
variable{X:Cx}
def LI(i:Nat):TE:=λa H Q=>∃v,a[i]?=some (some v)/\Q v H
def tC(v:V):TE:=λ_ H Q=>Q v H
theorem Jz{i:Nat}{x:Str}{y:Pos}(z:X.N[i]?=some x)(C:Vis X.env.scope x)(n:(x==("__debug__":Str))=false:=by decide)(j:(x==("__classdict__":Str))=false:=by decide):PE X (.Name x y) (LI i):=by
 intro B s A H Q I h;obtain⟨v,e,h⟩:=h;obtain⟨m,p,w⟩:=I.loc;obtain⟨u,r,l⟩:=w i x v z e C;have f:EP X B A Q u s:=⟨v,H,I,r,h⟩;rcases l with⟨g,q⟩|⟨g,c,o,a⟩
 ·exact wpAny_Name (wpAny_loadName_local I.ok.kind g p q f) n
 ·rcases g with g|g
  ·exact wpAny_Name (wpAny_loadName_cell I.ok.kind g o a f) n
  ·exact wpAny_Name (wpAny_loadName_free I.ok.kind g o a f j) n
theorem Js{i j y}:PE X (.Constant (.int i) j y) (tC (.int i)):=λ_ _ _ H _ I h=>wpAny_Constant_int ⟨.int i,H,I.tok _,⟨_,rfl⟩,h⟩
theorem JI{b j y}:PE X (.Constant (.bool b) j y) (tC (.bl b)):=λ_ _ _ H _ I h=>Constant_bool ⟨.bl b,H,I,rfl,h⟩
theorem Hr{j y}:PE X (.Constant .none j y) (tC .non):=λ_ _ _ H _ I h=>Constant_none ⟨.non,H,I,rfl,h⟩
theorem Je{x j y}:PE X (.Constant (.str x) j y) (tC (.str x)):=λ_ _ _ H _ I h=>Calls.Constant_str ⟨.str x,H,I.tok _,⟨_,rfl⟩,h⟩
def Gl(X:Cx)(x:Str):Prop:=X.env.kindOf x=some .globalImplicit
theorem uX{E:M0->N1->Prop}{e:List (O1×Obj)}{s:N1}{σ:St}{H:Hp}{x:Str}{u:M0}{y:Pos}{Q:M0->N1->Prop}(I:Inv X e σ H s)(hg:Gl X x)(c:X.mg x=some u)(h:Q u s)
  (a:(x==("__debug__":Str))=false:=by decide):P6 (R4 X.prog X.w) X.A (af8 (.Name x y) X.env) Q E s :=
 Calls.Name_function_global I.ok.kind hg (Calls.loadGlobal_global (by rw[I.ok.glob];exact I.mod.glob.keeps I.bk) c h) a
theorem gn{E:M0->N1->Prop}{i:List (O1×Obj)}{s:N1}{σ:St}{H:Hp}{x:Str}{u:M0}{y:Pos}{Q:M0->N1->Prop}(I:Inv X i σ H s)(hg:Gl X x)(a:X.mg x=none)(f:ag4 x=some u)(h:Q u s)
  (hn:x≠"__name__":=by decide) (e:(x==("__debug__":Str))=false:=by decide):P6 (R4 X.prog X.w) X.A (af8 (.Name x y) X.env) Q E s:=by
 obtain⟨j,c,g⟩:=I.mod.blt;exact Calls.Name_function_global I.ok.kind hg (Calls.loadGlobal_builtin (by rw[I.ok.glob];exact I.mod.glob.keeps I.bk) a (by rw[I.ok.blt];exact c.keeps I.bk) ((g x hn).trans f) h) e
theorem uj{x:Str}{v:V}{u:M0}{y:Pos}(hg:Gl X x)(a:X.mg x=some u)(r:aQ v u)(c:(x==("__debug__":Str))=false:=by decide):PE X (.Name x y) (tC v) :=
 λ_ _ _ H _ I h=>uX I hg a ⟨v,H,I,r,h⟩ c
theorem Ef{x:Str}{v:V}{u:M0}{y:Pos}(hg:Gl X x)(a:X.mg x=none)(c:ag4 x=some u)(r:aQ v u)(hn:x≠"__name__":=by decide)(e:(x==("__debug__":Str))=false:=by decide):PE X (.Name x y) (tC v) :=
 λ_ _ _ H _ I h=>gn I hg a c ⟨v,H,I,r,h⟩ hn e
variable{a b:R6}{G tb:TE}{y:Pos}
def PC(X:Cx)(h:ay2)(a b:R6)(t:TE):Prop :=
 ∀(g:List (O1×Obj)) (s:N1) (f:St) (H:Hp) (Q:VK),Inv X g f H s->t f H Q ->
  P6 (R4 X.prog X.w) X.A (af8 a X.env) (λv c=>P6 (R4 X.prog X.w) X.A (af8 b X.env) (λu e=>P6 (R4 X.prog X.w) X.A (V4 h v u) (EP X g f Q) X.xe e) X.xe c) X.xe s
theorem qW(b:R6){a:ay2}(h:a≠.In)(f:a≠.NotIn):ae6 a b=false:=by
 have e:(a==ay2.In)=false:=by cases a<;>first|rfl|exact absurd rfl h
 have c:(a==ay2.NotIn)=false:=by cases a<;>first|rfl|exact absurd rfl f
 cases b<;>simp[ae6,e,c]
def tB(t:TE):TT:=λa H Q=>t a H λx e=>∃c,x=.bl c/\Q c e
theorem JD{c:ay2}{t:TE}(h:PC X c a b t)(f:ae6 c b=false:=by first|exact qW _ (by decide) (by decide)|rfl):PE X (.Compare a [c] [b] y) t:=λg s e H Q I i=>wpAny_Compare1 (h g s e H Q I i) f
theorem Hl{g:ay2}{t:TE}(h:PC X g a b t)(f:ae6 g b=false:=by first|exact qW _ (by decide) (by decide)|rfl):PT X (.Compare a [g] [b] y) (tB t):=by
 intro w s n H Q I m;refine wpAny_isTrue_Compare1 (thn (h w s n H _ I m) λv z f=>thn f λu A o=>thn o λc B e=>e.el λx p l j i=>?_) f;obtain⟨d,rfl,q⟩:=i;cases j;exact ae1 ⟨p,l,q⟩
theorem HV{e:R6}{t:TE}(h:PE X e t)(he:∀a,isTrue e X.env a=(do let v <-a;ay3 e.pos;at7 [v] (truthy v)):=by intro _;rfl):PT X e (tB t):=by
 intro m s j H Q I i;refine isTrue_plain (thn (h m s j H _ I i) λv o c=>c.el λx l g n f=>?_) (he _);obtain⟨d,rfl,q⟩:=f;cases n;exact ae1 ⟨l,g,q⟩
variable{L Y:TT}{z:List R6}
def L8(t u:TT):TT:=λa H Q=>t a H λc e=>if c=true then u a e Q else Q false e
def tOr(t u:TT):TT:=λa H Q=>t a H λc e=>if c=true then Q true e else u a e Q
def L9(t:TT):TT:=λa H Q=>t a H λc e=>Q (!c) e
theorem EZ(ha:PT X a L):PW X (.BoolOp .And [a] y) L:=by
 intro i g s f H Q I h;refine isTrue_and (thn (ha g s f H Q I h) λc j e=>?_);cases c with
 |true=>exact isTrue_and_nil e
 |false=>exact e
theorem IE(ha:PT X a L):PW X (.BoolOp .Or [a] y) L:=by
 intro i g s f H Q I h;refine isTrue_or (thn (ha g s f H Q I h) λc j e=>?_);cases c with
 |false=>exact isTrue_or_nil e
 |true=>exact e
theorem Hu(ha:PT X a L)(n:PW X (.BoolOp .And (b::z) y) Y):PW X (.BoolOp .And (a::b::z) y) (L8 L Y):=by
 intro m i s g H Q I h;refine isTrue_and (thn (ha i s g H _ I h) λc o e=>e.el λj f l=>?_);cases c with
 |true=>exact n m i o g j Q f l
 |false=>exact⟨j,f,l⟩
theorem JP(ha:PT X a L)(n:PW X (.BoolOp .Or (b::z) y) Y):PW X (.BoolOp .Or (a::b::z) y) (tOr L Y):=by
 intro m i s g H Q I h;refine isTrue_or (thn (ha i s g H _ I h) λc o e=>e.el λj f l=>?_);cases c with
 |true=>exact⟨j,f,l⟩
 |false=>exact n m i o g j Q f l
theorem I0(ha:PT X a L):PT X (.UnaryOp .Not a y) (L9 L):=by
 intro g s e H Q I h;exact isTrue_not (ha g s e H (λc f=>Q (!c) f) I h)
def LF(G tb:TE):TE:=λa H Q=>G a H λx e=>∃c,x=.bl c/\if c=true then tb a e Q else Q (.bl false) e
def Kp(G:TE):TE:=λa H Q=>G a H λx e=>∃c,x=.bl c/\Q (.bl (!c)) e
theorem HQ{op}{t:TE}(h:PE X a t):PE X (.BoolOp op [a] y) t:=λe s c H Q I f=>BoolOp_one (h e s c H Q I f)
theorem Ii(ha:PE X a G)(n:PE X (.BoolOp .And (b::z) y) tb):PE X (.BoolOp .And (a::b::z) y) (LF G tb):=by
 intro l s i H Q I h;refine BoolOp_and (thn (ha l s i H _ I h) λv o f=>f.el λx j g m e=>?_);obtain⟨c,rfl,e⟩:=e;cases m;refine ae1 ?_;cases c with
 |true=>exact n l o i j Q g e
 |false=>exact⟨.bl false,j,g,rfl,e⟩
theorem HN(ha:PE X a G):PE X (.UnaryOp .Not a y) (Kp G):=by
 intro l s g H Q I h;refine UnaryOp_ (thn (ha l s g H _ I h) λv n e=>e.el λx i j m f=>?_);obtain⟨c,rfl,f⟩:=f;cases m;exact not_of (ae1 ⟨.bl (!c),i,j,rfl,f⟩)
def tIf(t:TT)(G tb:TE):TE:=λa H Q=>t a H λc e=>if c=true then G a e Q else tb a e Q
theorem BI{c:R6}(n:PT X c L)(ha:PE X a G)(o:PE X b tb):PE X (.IfExp c a b y) (tIf L G tb):=by
 intro g s f H Q I h;refine wpAny_IfExp (thn (n g s f H _ I h) λd j e=>e.el λl i m=>?_);cases d with
 |true=>exact ha g j f l Q i m
 |false=>exact o g j f l Q i m
end
def SqL(K:u8)(H:Hp)(a:O1)(xs:List V):Prop :=
 Rd H a (.lst xs) ∨
  ∃(o:Obj) (c:Array M0) (n:Nat),K.lookup a=some o/\o.cls=.type "list"/\o.dict=none/\o.data=.seq c n/\c.size<=N7/\aH xs c.toList
def SqT(K:u8)(H:Hp)(a:O1)(xs:List V):Prop :=
 Rd H a (.tup xs) ∨
  ∃(o:Obj) (c:Array M0) (n:Nat),K.lookup a=some o/\(o.cls=.type "tuple"/\o.dict=none)/\o.data=.seq c n/\c.size<=N7/\aH xs c.toList
noncomputable def L1:M0->Option V
 |.none=>some .non
 |.bool b=>some (.bl b)
 |.int i _=>some (.int i)
 |.str x _=>some (.str x)
 |.bytes b _=>some (.byt b)
 |.float b _=>some (.flt b)
 |.ref a=>some (.ref a)
 |.type n=>some (.ty n)
 |_=>none
theorem aQ.abs{x:V}{u:M0}(r:aQ x u):L1 u=some x:=by
 cases x with
 |non=>cases r;rfl
 |bl _=>cases r;rfl
 |int _=>obtain⟨t,rfl⟩:=r;rfl
 |str _=>obtain⟨t,rfl⟩:=r;rfl
 |byt _=>obtain⟨t,rfl⟩:=r;rfl
 |flt _=>obtain⟨t,rfl⟩:=r;rfl
 |ref _=>cases r;rfl
 |ty _=>cases r;rfl
theorem aQ.inj{x y:V}{u:M0}(r:aQ x u)(q:aQ y u):x=y:=T4 (r.abs.symm.trans q.abs)
theorem aH.inj:∀{xs c:List V}{a:List M0},aH xs a->aH c a->xs=c
 |_,_,_,.nil,.nil=>rfl
 |_,_,_,.cons r t,.cons e f=>by rw[r.inj e,aH.inj t f]
section
variable{X:Cx}{y:List (O1×Obj)}{σ:St}{H:Hp}{s:N1}{a:O1}{xs G:List V}
theorem SqL.of{K:u8}(h:H a=some (.lst xs)):SqL K H a xs:=.inl (.inl h)
theorem Inv.list(I:Inv X y σ H s)(h:SqL X.K H a xs):∃c:List M0,aH xs c/\PlainL s.heap a c.toArray/\xs.length<=N7:=by
 rcases h with h|⟨o,c,n,j,i,g,f,l,r⟩
 ·obtain⟨z,c,n,r,e⟩:=h.ok I.hok;exact⟨c,r,⟨_,n,e,rfl,rfl,rfl⟩,z⟩
 ·refine⟨c.toList,r,⟨o,n,I.kIn a o j,i,g,by simpa using f⟩,?_⟩;have e:=r.length;simp only[O8]at e
  lia
theorem Inv.tuple(I:Inv X y σ H s)(h:SqT X.K H a xs):∃c:List M0,aH xs c/\aw8 s.heap a c.toArray/\xs.length<=N7:=by
 rcases h with h|⟨o,c,n,i,g,f,j,r⟩
 ·obtain⟨z,c,r,p⟩:=h.ok I.hok;exact⟨c,r,p.tup,z⟩
 ·refine⟨c.toList,r,⟨o,I.kIn a o i,g.1,n,by simpa using f⟩,?_⟩;have e:=r.length;simp only[O8]at e
  lia
theorem Inv.list_inj(I:Inv X y σ H s)(h:SqL X.K H a xs)(h':SqL X.K H a G):xs=G:=by
 obtain⟨f,r,⟨o,n,e,_,_,d⟩,_⟩:=I.list h;obtain⟨c,j,⟨p,m,g,_,_,i⟩,_⟩:=I.list h';rw[e]at g;cases g;rw[d]at i;injection i with l _
 have:f=c:=by simpa using congrArg Array.toList l
 subst this;exact r.inj j
theorem Inv.tuple_inj(I:Inv X y σ H s)(h:SqT X.K H a xs)(h':SqT X.K H a G):xs=G:=by
 obtain⟨f,r,⟨o,e,_,n,d⟩,_⟩:=I.tuple h;obtain⟨c,j,⟨p,g,_,m,i⟩,_⟩:=I.tuple h';rw[e]at g;cases g;rw[d]at i;injection i with l _
 have:f=c:=by simpa using congrArg Array.toList l
 subst this;exact r.inj j
end
noncomputable abbrev Cx.wish(X:Cx)(E:M0->N1->Prop):Cx:={ X with xe:=E }
noncomputable abbrev Cx.nox(X:Cx):Cx:=X.wish λ_ _=>False
theorem Cx.Ok.wish{X:Cx}(ok:X.Ok)(E:M0->N1->Prop):(X.wish E).Ok :=
 ⟨ok.mod,ok.kind,ok.glob,ok.blt,ok.above,ok.inj,ok.has,ok.cab,ok.hd,ok.frames,ok.stk,ok.exf,ok.bs,ok.bsz,ok.noex,ok.exfs,ok.funs,ok.frf⟩
theorem Cx.Ok.unwish{X:Cx}{E:M0->N1->Prop}(ok:(X.wish E).Ok):X.Ok :=
 ⟨ok.mod,ok.kind,ok.glob,ok.blt,ok.above,ok.inj,ok.has,ok.cab,ok.hd,ok.frames,ok.stk,ok.exf,ok.bs,ok.bsz,ok.noex,ok.exfs,ok.funs,ok.frf⟩
section
variable{X:Cx}{y:List (O1×Obj)}{σ:St}{H:Hp}{s:N1}{E:M0->N1->Prop}
theorem Inv.wish(I:Inv X y σ H s)(E:M0->N1->Prop):Inv (X.wish E) y σ H s:=⟨I.ok.wish E,I.os,I.bare,I.base,I.loc,I.cell,I.free,I.freeC,I.pin,I.hok,I.len⟩
theorem Inv.unwish(I:Inv (X.wish E) y σ H s):Inv X y σ H s:=⟨I.ok.unwish,I.os,I.bare,I.base,I.loc,I.cell,I.free,I.freeC,I.pin,I.hok,I.len⟩
theorem SP.unwish{D:xt}{f:Flow}{s':N1}(h:SP (X.wish E) y D f s'):SP X y D f s':=by
 cases f with
 |next=>obtain⟨a,c,I,q⟩:=h;exact⟨a,c,I.unwish,q⟩
 |brk=>obtain⟨a,c,I,q⟩:=h;exact⟨a,c,I.unwish,q⟩
 |cont=>obtain⟨a,c,I,q⟩:=h;exact⟨a,c,I.unwish,q⟩
 |ret u=>obtain⟨v,a,c,I,r,q⟩:=h;exact⟨v,a,c,I.unwish,r,q⟩
theorem PSs.nox{st:List af0}{t:TS}(h:PSs X.nox st t):PSs X st t:=λy s σ H D I a =>
 X9 (h y s σ H D (I.wish _) a) (λ_ _ q=>q.unwish) λ_ _ z=>ae2 z
end
section
variable{X:Cx}{st:af0}{z:List af0}{t u:TS}{e:R6}{te:TE}{y:Pos}
def JM:TS:=λD a H=>D.nx a H
def LS(t u:TS):TS:=λD a H=>t { D with nx:=u D } a H
theorem EV:PSs X [] JM:=λ_ _ a H _ I h=>at8 ⟨a,H,I,h⟩
theorem BC(g:PS X st t)(m:PSs X z u):PSs X (st::z) (LS t u):=by
 intro c s j H D I h;refine wpAny_execs_cons (thn (g c s j H { D with nx:=u D } I h) λf l q=>?_);cases f with
 |next =>
  obtain⟨a,e,i,q⟩:=q;exact m c l a e D i q
 |ret v=>exact q
 |brk=>exact q
 |cont=>exact q
theorem Ep(c:PS X st t):PSs X [st] t:=by
 intro e s a H D I h;refine wpAny_execs_cons (thn (c e s a H D I h) λf g q=>?_);cases f with
 |next=>exact at8 q
 |ret v=>exact q
 |brk=>exact q
 |cont=>exact q
theorem Inv.quiet{a:List (O1×Obj)}{σ:St}{H:Hp}{s:N1}(I:Inv X a σ H s):interactive X.env=false:=by simp[interactive,I.ok.kind]
def JV(te:TE):TS:=λD a H=>te a H λ_ c=>D.nx a c
theorem Er(he:PE X e te)(hs:ai1 e none y.line X.env=al5 false:=by rfl):PS X (.Expr e y) (JV te):=by
 intro j s c H D I h;exact wpAny_Expr_any (thn (he j s c H _ I h) λv l a=>a.el λx g i m f=>⟨c,g,i,f⟩) I.quiet hs
def Mb(te:TE):TS:=λD a H=>te a H D.rt
theorem yR(he:PE X e te):PS X (.Return (some e) y) (Mb te):=by
 intro j s c H D I h;exact wpAny_Return_some (thn (he j s c H _ I h) λv m a=>a.el λx g i l f=>⟨x,c,g,i,l,f⟩)
def Ml(c:TT)(t u:TS):TS:=λD a H=>c a H λb e=>if b=true then t D a e else u D a e
theorem Lw{c:R6}{a b:List af0}{tc:TT}(o:PT X c tc)(ha:PSs X a t)(n:PSs X b u):PS X (.If c a b y) (Ml tc t u):=by
 intro g s f H D I h;refine wpAny_If (thn (o g s f H _ I h) λd i e=>e.el λl j m=>?_);cases d with
 |true=>exact ha g i f l D j m
 |false=>exact n g i f l D j m
end
abbrev TG:=V->St->Hp->(St->Hp->Prop)->Prop
abbrev TGs:=List V->St->Hp->(St->Hp->Prop)->Prop
def PG(X:Cx)(a:R6)(t:TG):Prop :=
 ∀(g:List (O1×Obj)) (s:N1) (e:St) (H:Hp) (v:V) (u:M0) (Q:St->Hp->Prop),Inv X g e H s->aQ v u->t v e H Q ->
  P6 (R4 X.prog X.w) X.A (au8 a X.env u) (λ_ h=>∃ c f,Inv X g c f h/\Q c f) X.xe s
def PGs(X:Cx)(j:List R6)(t:TGs):Prop :=
 ∀(h:List (O1×Obj)) (s:N1) (c:St) (H:Hp) (g:List V) (e:List M0) (Q:St->Hp->Prop),Inv X h c H s->aH g e->t g c H Q ->
  P6 (R4 X.prog X.w) X.A (assignInOrder ((ae3 j X.env).map (·.2)) e) (λ_ i=>∃ a f,Inv X h a f i/\Q a f) X.xe s
abbrev Ha:=V->V->V->Hp->(Hp->Prop)->Prop
def KW(X:Cx)(t:Ha):Prop :=
 ∀(g:List (O1×Obj)) (s:N1) (c:St) (H:Hp) (o i v:V) (a f u:M0) (Q:Hp->Prop),Inv X g c H s->aQ o a->aQ i f->aQ v u->t o i v H Q ->
  P6 (R4 X.prog X.w) X.A (setItem a f u) (λ_ h=>∃e,Inv X g c e h/\Q e) X.xe s
abbrev TIp:=V->V->Hp->VK->Prop
def PIp(X:Cx)(e:aA1)(t:TIp):Prop :=
 ∀(c:List (O1×Obj)) (s:N1) (a:St) (H:Hp) (x y:V) (v u:M0) (Q:VK),Inv X c a H s->aQ x v->aQ y u->t x y H Q ->
  P6 (R4 X.prog X.w) X.A (aA4 e v u) (EP X c a Q) X.xe s
section
variable{X:Cx}{G:Pos}
def wY(i:Nat):TG:=λv a H Q=>Q (a.set i (some v)) H
theorem Ah{i:Nat}{x:Str}(f:X.N.Nodup)(c:X.N[i]?=some x)(g:Loc X.env.scope x)(e:X.fn x=true∨X.env.scope.names.lookup x=some .local:=by first|exact .inl rfl|exact .inr rfl|assumption):PG X (.Name x G) (wY i):=by
 intro m s l H v u Q I r h;exact wpAny_assign_Name (qS I f c g r (λj a=>⟨_,H,a,h⟩) e)
def Im:TGs:=λc a H Q=>c=[]/\Q a H
def BJ(t:TG)(u:TGs):TGs:=λf c H Q=>∃v r,f=v::r/\t v c H λa e=>u r a e Q
theorem zx:PGs X [] Im:=by
 intro g s a H f c Q I r h;obtain⟨e,h⟩:=h;subst e;cases r;exact assignInOrder_nil ⟨a,H,I,h⟩
theorem xD{e:R6}{es:List R6}{t:TG}{u:TGs}(i:PG X e t)(j:PGs X es u)
  (hs:(ae3 (e::es) X.env).map (·.2)=au8 e X.env::(ae3 es X.env).map (·.2):=by rfl):PGs X (e::es) (BJ t u):=by
 intro c s m H x w Q I r h;obtain⟨v,q,n,h⟩:=h;subst n;cases r with
 |cons r p =>
  rw[hs];refine assignInOrder_cons (thn (i c s m H _ _ _ I r h) λ_ f ⟨a,o,l,g⟩=>?_);exact j c f a o _ _ Q l p g
def Jn(K:u8)(n:Nat)(t:TGs):TG:=λv e H Q=>∃a c,v=.ref a/\SqT K H a c/\c.length=n/\t c e H Q
theorem DI{es:List R6}{k:Nat}{t:TGs}{n:Nat}(w:X.calm=true)(h:PGs X es t)
  (hn:(ae3 es X.env).length=n:=by rfl) (f:(ae3 es X.env).findIdx? (·.1)=none:=by rfl):PG X (.Tuple es k G) (Jn X.K n t):=by
 intro l s i H v u Q I r c;obtain⟨a,A,B,x,m,c⟩:=c;subst B;cases r;obtain⟨p,g,z,J⟩:=I.tuple x;refine assign_Tuple_tuple (I.ok.hd w) z (by simp[hn,<-m,g.length]) f λC E=>?_;have q:Inv X l i H { s with heap:=C }:=I.kept (t':=s.toks) λb o e=>E b o (P8 (P2 e)) e;exact h l _ i H A _ Q q (by simpa using g) c
def LP(e f:TE)(t:Ha):TG:=λv a H Q=>e a H λo g=>f a g λi c=>t o i v c λh=>Q a h
theorem G8{o i:R6}{j l:TE}{t:Ha}(q:PE X o j)(A:PE X i l)(hs:KW X t)
  (ha:∀ v,au8 (.Subscript o i G) X.env v = (do
   let c <-at7 [v] (af8 o X.env)
   let e <-at7 [v,c] (af8 i X.env)
   ay3 G
   at7 [v,c,e] (setItem c e v)
   release [v,c,e] []):=by intro _;rfl):PG X (.Subscript o i G) (LP j l t):=by
 intro g s f H v u Q I r h;rw[ha];refine o0 (W5 (thn (q g s f H _ I h) λc w a=>a.el λx L p N m=>?_));refine o0 (W5 (thn (A g w f L _ p m) λe C a=>a.el λy z O E J=>?_));refine o0 (at3 (o0 (W5 (thn (hs g C f z x y v c e u _ O N E r J) λ_ P ⟨M,B,n⟩=>?_))));exact wpAny_release ⟨f,M,B,n⟩
def Jm(te:TE)(g:TG):TS:=λD a H=>te a H λx c=>g x a c D.nx
theorem Df{a e:R6}{te:TE}{g:TG}(he:PE X e te)(hg:PG X a g)(hs:swapsWithSole [a] e G.line X.env=al5 false:=by rfl)(n:swappedStores [a] e X.env=al5 none:=by rfl)
  (l:(ae3 [a] X.env).map (·.2)=[au8 a X.env]:=by rfl):PS X (.Assign [a] e G) (Jm te g):=by
 intro i s f H D I h;refine wpAny_Assign_stores (thn (he i s f H _ I h) λv o c=>c.el λx p m u j=>?_) hs n;rw[l];exact thn (hg i o f p x v _ m u j) λ_ w q=>q
theorem JB{i:Nat}{x:Str}{e:R6}{te:TE}{a:Pos}(l:X.N.Nodup)(n:X.N[i]?=some x)(p:Loc X.env.scope x)(he:PE X e te)(hs:ai1 e (some (.Name x a)) G.line X.env=al5 false:=by rfl)(g:X.fn x=true∨X.env.scope.names.lookup x=some .local:=by first|exact .inl rfl|exact .inr rfl|assumption):
  PS X (.Assign [.Name x a] e G) (Jm te (wY i)):=by
 intro q s m H D I h;refine wpAny_Assign_Name (thn (he q s m H _ I h) λv z c=>c.el λy o j u f=>?_) hs;exact qS j l n p u (λA w=>⟨_,o,w,f⟩) g
def LZ(i:Nat)(te:TE)(e:TIp):TS:=λD a H=>∃x,a[i]?=some (some x)/\te a H λy f=>e x y f λz c=>D.nx (a.set i (some z)) c
theorem Hf{i:Nat}{x:Str}{e:R6}{te:TE}{B:aA1}{E:TIp}{n:Pos}(R:X.N.Nodup)(J:X.N[i]?=some x)(q:Loc X.env.scope x)(he:PE X e te)(S:PIp X B E)(P:X.fn x=true∨X.env.scope.names.lookup x=some .local:=by first|exact .inl rfl|exact .inr rfl|assumption):
  PS X (.AugAssign (.Name x n) B e G) (LZ i te E):=by
 intro A s C H D I h;obtain⟨v,e1,h⟩:=h;obtain⟨m,hn,Z⟩:=I.loc;have p:Vis X.env.scope x:=by rcases q with k|k;exact .inl k;exact .inr (.inl k)
 obtain⟨u,r,l⟩:=Z i x v J e1 p;refine wpAny_AugAssign_Name ?_;have L:P6 (R4 X.prog X.w) X.A (af8 e X.env) (λw o=>P6 (R4 X.prog X.w) X.A (aA4 B u w) (λr j=>P6 (R4 X.prog X.w) X.A (storeName X.env x r) (λ_=>SP X A D .next) X.xe j) X.xe o) X.xe s:=by
  refine thn (he A s C H _ I h) λw U f=>f.el λy H1 Q O N=>?_;refine thn (S A U C H1 v y u w _ Q r O N) λz s2 f=>f.el λzv Y I2 r2 q2=>?_;exact qS I2 R J q r2 (λs3 I3=>⟨_,Y,I3,q2⟩) P
 rcases l with⟨a,M⟩|⟨a,c,T,g⟩
 ·exact wpAny_loadName_local I.ok.kind a hn M L
 ·rcases a with a|a
  ·exact wpAny_loadName_cell I.ok.kind a T g L
  ·rcases q with k|k
   ·have:X.env.scope.names.lookup x=some .free:=a;rw[k]at this;cases this
   ·have:X.env.scope.names.lookup x=some .free:=a;rw[k]at this;cases this
def ipI(f:Int->Int->Int):TIp:=λx y H Q=>∃i j,x=.int i/\y=.int j/\Q (.int (f i j)) H
theorem Jc:PIp X .Add (ipI λi j=>i+j):=by
 intro f s e H x y v u Q I r1 r2 h;obtain⟨i,j,c,a,q⟩:=h;subst c;subst a;obtain⟨t,rfl⟩:=r1;obtain⟨g,rfl⟩:=r2;exact iadd_int ⟨.int _,H,I.tok _,⟨_,rfl⟩,q⟩
end
section
variable{X:Cx}{y:Pos}
def IJ(c:TT)(i:TS):TS:=λD a H=>∃W:Nat->St->Hp->Prop,(∃m,W m a H)/\∀m a H,W m a H ->
 c a H λb g=>if b=true then ∃N:St->Hp->Prop,(∀ e f,N e f->∃h,h<m/\W h e f)/\i { D with nx:=N,ct:=N,bk:=D.nx } a g else D.nx a g
theorem BF{c:R6}{g:List af0}{tc:TT}{B:TS}(G:U5 (R4 X.prog X.w) X.A X.env X.xe)(Q:PT X c tc)(hb:PSs X g B):PS X (.While c g [] y) (IJ tc B):=by
 intro u s Y H D I h;obtain⟨W,⟨Z,O⟩,j⟩:=h;refine wpAny_While (codeAny_whileLoop (λn S=>∃ i C,Inv X u i C S/\W n i C) ?_ Z ⟨Y,H,I,O⟩);rintro n R ⟨e,J,U,P⟩;refine aj4 G (thn (Q u R e J _ U (j n e J P)) λb T w=>w.el λE L o=>?_);cases b with
 |true =>
  obtain⟨N,M,o⟩:=o;rw[if_pos rfl];refine aj4 G (thn (hb u T e E _ L o) λf s3 m=>?_);cases f with
  |next =>
   obtain⟨a,l,q,z⟩:=m;obtain⟨A,x,p⟩:=M a l z;exact⟨A,x,a,l,q,p⟩
  |cont =>
   obtain⟨a,l,q,z⟩:=m;obtain⟨A,x,p⟩:=M a l z;exact⟨A,x,a,l,q,p⟩
  |brk=>exact m
  |ret v=>exact m
 |false =>
  rw[if_neg V9];exact at8 ⟨e,E,L,o⟩
end
structure It where
 go:Nat->Hp->Prop
 yld:Nat->Hp->V->Hp->Prop
 stop:Nat->Hp->Prop
def gx(X:Cx)(a:List (O1×Obj))(H:Hp)(b:O1):Prop :=
 H b=none/\b≠X.env.locals/\b∉X.fs/\(b∈X.ex∨X.s₀.heap.objs.size<=b)/\(∀x c,X.env.cells.lookup x=some c->c≠b)/\∀p∈X.pn++a,p.1≠b
theorem Inv.fpOk{X:Cx}{g:List (O1×Obj)}{σ:St}{H f:Hp}{s:N1}{b:O1}(I:Inv X g σ H s)(a:s.heap.objs.size<=b)(hn:f b=none):gx X g f b:=by
 refine⟨hn,ap2 (O4 I.lt a),I.nofs a,.inr (N3 I.sz a),λx c e z=>?_,λp h z=>?_⟩
 ·obtain⟨v,q⟩:=I.cell x c e;exact absurd (O4 q.lt (by rw[z];exact a)) (ai0 _)
 ·exact absurd (O4 (P2 (I.pin p h).1) (by rw[z];exact a)) (ai0 _)
structure m8(P:Q7) (w:U9) (K:u8) (tg:R6) (J:It) (fp:List O1) (it:O1) (tn:Nat->Q9->Prop):Prop where
 mem:it∈fp
 obj:∀i h,tn i h->∀b∈fp,∃o,h.get? b=some o/\∀v,o.data≠.cell v
 keep:∀i h h',tn i h->(∀b∈fp,∀o,h.get? b=some o->h'.get? b=some o)->tn i h'
 item:∀(X:Cx),X.prog=P->X.w=w->X.K=K->X.calm=true->∀(i:Nat) (af:List (O1×Obj)) (s:N1) (σ:St) (H:Hp) (E:M0->N1->Prop),Inv X af σ H s->(∀b∈fp,gx X af H b)->tn i s.heap->J.go i H ->
  P6 (R4 P w) X.A (as1 (.ref it)) (λr s1=>∃u,r=some u /\
   P6 (R4 P w) X.A (ap7 tg (.ref it) u) (λ_ s2=>∃x H',Inv X af σ H' s2/\aQ x u/\J.yld i H x H'/\tn (i+1) s2.heap/\∀b∈fp,H' b=none) E s1) E s
 done:∀(X:Cx),X.prog=P->X.w=w->X.K=K->X.calm=true->∀(i:Nat) (af:List (O1×Obj)) (s:N1) (σ:St) (H:Hp) (E:M0->N1->Prop),Inv X af σ H s->(∀b∈fp,gx X af H b)->tn i s.heap->J.stop i H ->
  P6 (R4 P w) X.A (as1 (.ref it)) (λr s1=>r=none/\Inv X af σ H s1) E s
 self:∀(A:S0) (i:Nat) (s:N1) (Q:M0->N1->Prop) (E:M0->N1->Prop),tn i s.heap->Q (.ref it) s->P6 (R4 P w) A (au9 (.ref it)) Q E s
abbrev TI:=St->Hp->(It->Hp->Prop)->Prop
def PIE(X:Cx)(i:List (O1×Obj))(σ:St)(j:R6)(R:It->Hp->Prop)(a:M0)(e:N1):Prop :=
 ∃(f:O1) (g:List O1) (h:Nat->Q9->Prop) (J:It) (c:Hp),a=.ref f/\Inv X i σ c e/\m8 X.prog X.w X.K j J g f h/\h 0 e.heap/\(∀b∈g,gx X i c b)/\R J c
def PI(X:Cx)(e iter:R6)(wi:TI):Prop :=
 ∀(c:List (O1×Obj)) (s:N1) (a:St) (H:Hp) (R:It->Hp->Prop),Inv X c a H s->wi a H R ->
  P6 (R4 X.prog X.w) X.A (af8 iter X.env) (λv f=>P6 (R4 X.prog X.w) X.A (au9 v) (PIE X c a e R) X.xe f) X.xe s
theorem sJ{M:Model}{A:S0}{E:M0->N1->Prop}{s:N1}{c:R6}{it:O1}{u:M0}{o:Obj}{n:String}{e:Array M0}{Q:Unit->N1->Prop}(f:s.heap.get? it=some o)(g:o.cls=.type n)(i:o.data=.fields e)
    (hn:["enumerate","zip","dict_itemiterator","dict_reverseitemiterator","odict_iterator","itertools.zip_longest","itertools.pairwise"].contains n=false) (a:Q () s):P6 M A (ap7 c (.ref it) u) Q E s:=by
  unfold ap7;cases c<;>first
    |exact M9 a
    |(cases u<;>first
        |exact M9 a
        | (refine o0 (az3 f ?_)
           rw[g,i];show P6 M A (if(["enumerate","zip","dict_itemiterator","dict_reverseitemiterator","odict_iterator","itertools.zip_longest","itertools.pairwise"].contains n&&e[0]?==some (ah1 _))=true then _ else _) Q E s;rw[if_neg (by intro h;rw[hn,Bool.false_and]at h;cases h)];exact M9 a))
noncomputable def Itl(K:u8)(a:O1):It :=
 ⟨λi H=>∃c x,SqL K H a c/\c[i]?=some x,λi H x e=>e=H/\∀c,SqL K H a c->c[i]?=some x,λi H=>∃c,SqL K H a c/\c.length<=i⟩
noncomputable def Itt(K:u8)(a:O1):It :=
 ⟨λi H=>∃c x,SqT K H a c/\c[i]?=some x,λi H x e=>e=H/\∀c,SqT K H a c->c[i]?=some x,λi H=>∃c,SqT K H a c/\c.length<=i⟩
noncomputable def Itr(lo:Int)(n:Nat):It:=⟨λi _=>i<n,λi H x a=>a=H/\x=.int (lo+i),λi _=>n<=i⟩
theorem sF{P:Q7}{w:U9}{K:u8}{Y:R6}(a it:O1):m8 P w K Y (Itl K a) [it] it (λi h=>h.IsListIter it a i) where
 mem:=by simp
 obj:=λi h st b f=>by
  have e:b=it:=by simpa using f
  subst e;obtain⟨o,e,c,d⟩:=st;exact⟨o,e,λv z=>by rw[d]at z;cases z⟩
 keep:=λi h n st k=>st.at λo e=>k it (by simp) o e
 item:=by
  intro X L M hK R i S s T H E I l st q;subst L M hK;obtain⟨xs,x,m,J⟩:=q;obtain⟨A,B,p,Z⟩:=I.list m;obtain⟨u,hu,U⟩:=B.get J;obtain⟨Q,G,f2,O,C,N⟩:=l it (by simp);refine wpAny_pyNext_list_item st p.isList (x:=u) (by simpa using hu) λn j sb=>?_;have I1:Inv X S T H { s with heap:=n }:=I.turned (t':=s.toks) (λb o f e=>(sb.2 b f).trans e) Q G O C N;obtain⟨o,e,c,d⟩:=id j;exact⟨u,rfl,sJ (s:={ s with heap:=n }) e c d (by decide) ⟨x,H,I1,U,⟨rfl,λys hy=>by rw[I.list_inj hy m];exact J⟩,j,λb f=>(l b f).1⟩⟩
 done:=by
  intro X L M hK R i S s T H E I l st q;subst L M hK;obtain⟨xs,m,J⟩:=q;obtain⟨A,B,p,Z⟩:=I.list m;obtain⟨Q,G,f2,O,C,N⟩:=l it (by simp);have hl:=B.length;exact wpAny_pyNext_list_end (I.ok.hd R) st p.isList (by simp;lia) λn eb=>⟨rfl,I.turned (t':=s.toks) (λb o f e=>eb b o f e) Q G O C N⟩
 self:=λ_ _ _ _ _ st h=>wpAny_pyIter_listiter st h
theorem yN{P:Q7}{w:U9}{K:u8}{Y:R6}(a it:O1):m8 P w K Y (Itt K a) [it] it (λi h=>h.IsTupleIter it a i) where
 mem:=by simp
 obj:=λi h st b g=>by
  have e:b=it:=by simpa using g
  subst e;obtain⟨o,e,c,d⟩:=st;exact⟨o,e,λv z=>by rw[d]at z;cases z⟩
 keep:=λi h q st k=>st.at λo e=>k it (by simp) o e
 item:=by
  intro X L M hK R i S s T H E I m st A;subst L M hK;obtain⟨xs,x,n,J⟩:=A;obtain⟨f,B,p,Z⟩:=I.tuple n;obtain⟨u,hu,U⟩:=B.get J;obtain⟨Q,G,f2,O,C,N⟩:=m it (by simp);refine wpAny_pyNext_tuple_item st (show s.heap.IsTuple a f.toArray from p) (x:=u) (by simpa using hu) λq l sb=>?_;have I1:Inv X S T H { s with heap:=q }:=I.turned (t':=s.toks) (λb o g e=>(sb.2 b g).trans e) Q G O C N;obtain⟨o,e,c,d⟩:=id l;exact⟨u,rfl,sJ (s:={ s with heap:=q }) e c d (by decide) ⟨x,H,I1,U,⟨rfl,λys hy=>by rw[I.tuple_inj hy n];exact J⟩,l,λb g=>(m b g).1⟩⟩
 done:=by
  intro X L M hK R i S s T H E I m st A;subst L M hK;obtain⟨xs,n,J⟩:=A;obtain⟨f,B,p,Z⟩:=I.tuple n;obtain⟨Q,G,f2,O,C,N⟩:=m it (by simp);have hl:=B.length;exact wpAny_pyNext_tuple_end (I.ok.hd R) st (show s.heap.IsTuple a f.toArray from p) (by simp;lia) λq eb=>⟨rfl,I.turned (t':=s.toks) (λb o g e=>eb b o g e) Q G O C N⟩
 self:=λ_ _ _ _ _ st h=>wpAny_pyIter_tupleiter st h
theorem xI{P:Q7}{w:U9}{K:u8}{M:R6}(it:O1)(lo:Int)(n:Nat):m8 P w K M (Itr lo n) [it] it (λi h=>ay4 h it (lo+(i:Nat)*1) ((n:Int)-(i:Nat)) 1) where
 mem:=by simp
 obj:=λi h st b a=>by
  have e:b=it:=by simpa using a
  subst e;exact⟨_,st,λv z=>by
   have N:Data.fields _=Data.cell v:=z;cases N⟩
 keep:=λi h j st k=>k it (by simp) _ st
 item:=by
  intro X u x hK m i J s L H E I g st l;subst u x hK;obtain⟨C,q,S,B,p,A⟩:=g it (by simp);have W:=az4.range (prog:=X.prog) (w:=X.w) (I.ok.hd m) it lo 1 n;refine W.item i s _ _ l st λv j G R f Q=>?_;obtain⟨t,rfl⟩:=R;have O:Inv X J L H { s with heap:=j,toks:=G }:=I.turned (λb o a e=>Q b o (by simpa using a) e) C q B p A;refine⟨_,rfl,sJ (s:={ s with heap:=j,toks:=G }) (n:="range_iterator") f rfl rfl (by decide) ⟨.int (lo+i),H,O,⟨t,?_⟩,⟨rfl,rfl⟩,f,λb a=>(g b a).1⟩⟩;rw[Int.mul_one]
 done:=by
  intro X u x hK m i J s L H E I g st l;subst u x hK;obtain⟨C,q,S,B,p,A⟩:=g it (by simp);exact wpAny_pyNext_range_end (I.ok.hd m) st (by have:n<=i:=l;lia) λj T=>⟨rfl,I.turned (t':=s.toks) (λb o a e=>T b o a e) C q B p A⟩
 self:=λ_ _ _ _ _ st h=>wpAny_pyIter_rangeiter st h
section
variable{X:Cx}{y:R6}
theorem C2{g:List (O1×Obj)}{σ:St}{H:Hp}{s:N1}{R:It->Hp->Prop}{E:M0->N1->Prop}{lo a:Int}{t u v:Tok}{f:Nat}(I:Inv X g σ H s)(h:-(2 ^ 62)<=lo)(m:lo<2 ^ 62)(n:-(2 ^ 62)<=a)(i:a<2 ^ 62)
  (q:R (Itr lo (a-lo).toNat) H):P6 (R4 X.prog X.w) X.A (au9 (.ref s.heap.objs.size)) (PIE X g σ y R) E { s with heap:=s.heap.push { cls:=.type "range",data:=.fields #[.int lo t,.int a u,.int 1 v] },toks:=f }:=by
 refine wpAny_pyIter_range (IsRange.new ..) (small_one h m n i) ?_;have c:Inv X g σ H { s with heap:=s.heap.push { cls:=.type "range",data:=.fields #[.int lo t,.int a u,.int 1 v] },toks:=f }:=I.kept λb o e=>M7 _ e;refine⟨(s.heap.push { cls:=.type "range",data:=.fields #[.int lo t,.int a u,.int 1 v] }).objs.size,[(s.heap.push { cls:=.type "range",data:=.fields #[.int lo t,.int a u,.int 1 v] }).objs.size],_,_,H,rfl,
  c.kept (t':=f) λb o e=>M7 _ e,xI _ lo (a-lo).toNat,?_,λb j=>?_,q⟩
 ·have p:lo+((0:Nat):Int)*1=lo:=by simp
  have l:(((a-lo).toNat:Nat):Int)-((0:Nat):Int)=ab3 lo a 1:=by rw[rangeSize_one];split<;>lia
  show ay4 _ _ (lo+((0:Nat):Int)*1) ((((a-lo).toNat:Nat):Int)-((0:Nat):Int)) 1;rw[p,l];exact N6 _ rfl
 ·have e:b=(s.heap.push { cls:=.type "range",data:=.fields #[.int lo t,.int a u,.int 1 v] }).objs.size:=by simpa using j
  subst e;exact c.fpOk (N2 _) (c.hok.fresh (N2 _))
def Kl(c:TA):TI:=λa H R=>c a H λf e=>∃j:Int,f=[.int j]/\-(2 ^ 62)<=j/\j<2 ^ 62/\R (Itr 0 j.toNat) e
theorem Ba{a:R6}{i:TA}{p c:Pos}(hg:Gl X "range")(l:X.mg "range"=none)(ha:PA X [a] i)(hs:O5 [a] X.env=[(false,af8 a X.env)]:=by rfl):PI X y (.Call (.Name "range" p) [a] [] c) (Kl i):=by
 intro w s o H R I h;refine Call_ (gn I hg l boot_range (X4 (thn (ha c w s o H _ I h) λA z f=>f.el λC B m x g=>?_) hs rfl));obtain⟨j,e,g,u,q⟩:=g;subst e;cases x with
 |cons r n =>
  cases n;obtain⟨t,rfl⟩:=r;exact call_range_1 (C2 m (by decide) (by decide) g u (by simpa using q))
def Ms(wi:TI)(g:TG)(j:TS):TS:=λD a H=>wi a H λJ n=>∃W:Nat->Nat->St->Hp->Prop,(∃m,W 0 m a n)/\∀i m a H,W i m a H ->
 (J.stop i H/\D.nx a H)∨(J.go i H/\∃N:St->Hp->Prop,(∀ e c,N e c->∃h,h<m/\W (i+1) h e c)/\∀x c,J.yld i H x c->g x a c λf l=>j { D with nx:=N,ct:=N,bk:=D.nx } f l)
noncomputable def lw(a:List O1)(h:Q9):List (O1×Obj):=a.filterMap λb=>(h.get? b).map λo=>(b,o)
theorem iM{a:List O1}{h:Q9}{b:O1}{o:Obj}(c:b∈a)(e:h.get? b=some o):(b,o)∈lw a h:=ai2.mpr ⟨b,c,by rw[e];rfl⟩
theorem sZ{a:List O1}{h:Q9}{p:O1×Obj}(g:p∈lw a h):p.1∈a/\h.get? p.1=some p.2:=by
 obtain⟨b,c,e⟩:=ai2.mp g;cases q:h.get? b with
 |none=>rw[q]at e;cases e
 |some o =>
  rw[q]at e;have f:(b,o)=p:=T4 e;subst f;exact⟨c,q⟩
theorem Inv.pinned{a:List (O1×Obj)}{σ:St}{H:Hp}{s:N1}{c:List O1}(I:Inv X a σ H s)(h:∀b∈c,gx X a H b)(i:∀b∈c,∃o,s.heap.get? b=some o/\∀v,o.data≠.cell v):Inv X (a++lw c s.heap) σ H s :=
 I.pins_of λp n=>(P0.mp n).elim (λz=>I.pin p (S8 _ z)) λz=>by
  obtain⟨g,e⟩:=sZ z;obtain⟨j,m,l,_⟩:=h p.1 g;obtain⟨o,f,d⟩:=i p.1 g;rw[e]at f;cases f;exact⟨e,j,m,l,d⟩
theorem Inv.unpinned{a e:List (O1×Obj)}{σ:St}{H:Hp}{s:N1}(I:Inv X (a++e) σ H s):Inv X a σ H s:=I.pins_of λp c=>I.pin p (S8 _ (ab5 _ c))
theorem Ir{iter:R6}{B:List af0}{wi:TI}{g:TG}{tb:TS}{a1:Pos}(P:U5 (R4 X.prog X.w) X.A X.env X.xe)(hc:X.calm=true)(hi:PI X y iter wi)(hg:PG X y g)(p:PSs X B tb)
  (hs:∀x,T0 iter X.env x=al5 x:=by intro _;rfl):PS X (.For y iter B [] a1) (Ms wi g tb):=by
 intro C s σ H D I h;refine wpAny_For (thn (hi C s σ H _ I h) λv s1 h1=>thn h1 λa2 s2 h2=>?_) hs;obtain⟨it,Q,tn,J,H2,e,I2,T,a0,f2,W,⟨m0,w0⟩,L⟩:=h2;subst e
 -- what stays true of the iterator's objects through the loop
 have q:∀{z:Hp},(∀b∈Q,z b=none)->∀b∈Q,gx X C z b:=λhn b p=>⟨hn b p,(f2 b p).2⟩;refine codeAny_forLoop_any (λn s'=>∃i c z,Inv X C c z s'/\tn i s'.heap/\(∀b∈Q,z b=none)/\W i n c z) ?_ m0 ⟨0,σ,H2,I2,a0,λb p=>(f2 b p).1,w0⟩;rintro n s3 ⟨i,l,R,I3,M,O,w3⟩;rcases L i n l R w3 with⟨stop,qn⟩|⟨go,N,hN,step⟩
 ·refine aj4 P (thn (T.done X rfl rfl rfl hc i C s3 l R X.xe I3 (q O) M stop) λr s4 ⟨Y,I4⟩=>?_);subst Y;exact at8 ⟨l,R,I4,qn⟩
 ·refine aj4 P (thn (T.item X rfl rfl rfl hc i C s3 l R X.xe I3 (q O) M go) λr s4 ⟨u,Y,h4⟩=>?_);subst Y;refine aj4 P (thn h4 λ_ s5 ⟨x,H5,I5,r5,y5,E,U⟩=>?_);have Z:=I5.pinned (q U) (T.obj _ _ E);refine aj4 P (thn (hg _ s5 l H5 x u _ Z r5 (step x H5 y5)) λ_ s6 ⟨S,H6,I6,q6⟩=>?_);refine aj4 P (thn (p _ s6 S H6 _ I6 q6) λf s7 A=>?_);have again:∀{a:St} {j:Hp},Inv X (C++lw Q s5.heap) a j s7->N a j->∃m,m<n/\∃i c z,Inv X C c z s7/\tn i s7.heap/\(∀b∈Q,z b=none)/\W i m c z:=λ{a j} w G=>by
   obtain⟨m',hm,w7⟩:=hN a j G;refine⟨m',hm,i+1,a,j,w.unpinned,T.keep _ _ _ E λb p o e=>(w.pin (b,o) (S8 _ (S8 _ (iM p e)))).1,λb p=>?_,w7⟩;obtain⟨o,e,d⟩:=T.obj _ _ E b p;exact(w.pin (b,o) (S8 _ (S8 _ (iM p e)))).2.1
  cases f with
  |next=>obtain⟨a,j,w,G⟩:=A;exact again w G
  |cont=>obtain⟨a,j,w,G⟩:=A;exact again w G
  |brk=>obtain⟨a,j,w,A⟩:=A;exact⟨a,j,w.unpinned,A⟩
  |ret v=>obtain⟨x7,a,j,w,r7,A⟩:=A;exact⟨x7,a,j,w.unpinned,r7,A⟩
end
abbrev R2:=V->V->Hp->VK->Prop
def OpR(X:Cx)(f:M0->M0->Sem M0)(r:R2):Prop :=
 ∀(c:List (O1×Obj)) (s:N1) (a:St) (H:Hp) (x y:V) (v u:M0) (Q:VK),Inv X c a H s->aQ x v->aQ y u->r x y H Q ->
  P6 (R4 X.prog X.w) X.A (f v u) (EP X c a Q) X.xe s
def UnR(X:Cx)(f:M0->Sem M0)(r:V->Hp->VK->Prop):Prop :=
 ∀(c:List (O1×Obj)) (s:N1) (a:St) (H:Hp) (x:V) (v:M0) (Q:VK),Inv X c a H s->aQ x v->r x H Q ->
  P6 (R4 X.prog X.w) X.A (f v) (EP X c a Q) X.xe s
def dN(X:Cx)(f:M0)(r:List V->Hp->VK->Prop):Prop :=
 ∀(e:List (O1×Obj)) (s:N1) (a:St) (H:Hp) (g:List V) (c:List M0) (Q:VK),Inv X e a H s->aH g c->r g H Q ->
  P6 (R4 X.prog X.w) X.A (call f c) (EP X e a Q) X.xe s
def tOp(r:R2)(f e:TE):TE:=λa H Q=>f a H λx g=>e a g λy c=>r x y c Q
def tUn(r:V->Hp->VK->Prop)(c:TE):TE:=λa H Q=>c a H λx e=>r x e Q
def rI(C:Int->Int->Prop)(g:Int->Int->V):R2:=λx y H Q=>∃i j,x=.int i/\y=.int j/\C i j/\Q (g i j) H
def rI0(g:Int->Int->V):R2:=λx y H Q=>∃i j,x=.int i/\y=.int j/\Q (g i j) H
def rU(g:Int->V):V->Hp->VK->Prop:=λx H Q=>∃i,x=.int i/\Q (g i) H
section
variable{X:Cx}{a b c:R6}{z L tc:TE}{G:Pos}
theorem Ho(ha:PE X a z)(q:PE X b L){l:List (O1×Obj)}{s:N1}{σ:St}{H:Hp}{R:V->V->Hp->Prop}(I:Inv X l σ H s)
  (h:z σ H λx m=>L σ m λy e=>R x y e) {Q:M0->N1->Prop} {f:M0->M0->Sem M0}
  (o:∀v u j x y e,Inv X l σ e j->aQ x v->aQ y u->R x y e->P6 (R4 X.prog X.w) X.A (f v u) Q X.xe j) :
  P6 (R4 X.prog X.w) X.A (af8 a X.env) (λv g=>P6 (R4 X.prog X.w) X.A (af8 b X.env) (λu i=>P6 (R4 X.prog X.w) X.A (f v u) Q X.xe i) X.xe g) X.xe s:=by
 refine thn (ha l s σ H _ I h) λv w c=>c.el λx m p C n=>?_;refine thn (q l w σ m _ p n) λu j c=>c.el λy e E A B=>?_;exact o v u j x y e E C A B
theorem Li{c:aA1}{r:R2}(i:OpR X (ad8 c) r)(ha:PE X a z)(e:PE X b L):PE X (.BinOp a c b G) (tOp r z L):=by
 intro m s l H Q I h;exact wpAny_BinOp (Ho ha e I h λv u j x y f o g n q=>i m j l f x y v u Q o g n q)
theorem Kj{f:UnaryOp}{r:V->Hp->VK->Prop}(l:UnR X (unaryOp f) r)(ha:PE X a z):PE X (.UnaryOp f a G) (tUn r z):=by
 intro g s e H Q I h;exact UnaryOp_ (thn (ha g s e H _ I h) λv m c=>c.el λx n j i o=>l g m e n x v Q j i o)
theorem opI{f:M0->M0->Sem M0}{C:Int->Int->Prop}{g:Int->Int->Int}
  (rule:∀(i j:Int) (t u:Tok) (s:N1) (Q:M0->N1->Prop) (E:M0->N1->Prop),C i j->Q (.int (g i j) s.toks) { s with toks:=s.toks+1 }->P6 (R4 X.prog X.w) X.A (f (.int i t) (.int j u)) Q E s) :
  OpR X f (rI C λi j=>.int (g i j)):=by
 intro l s e H x y v u Q I rx ry h;obtain⟨i,j,rfl,rfl,c,q⟩:=h;obtain⟨t,rfl⟩:=rx;obtain⟨a,rfl⟩:=ry;exact rule i j t a s _ _ c ⟨.int (g i j),H,I.tok _,⟨_,rfl⟩,q⟩
theorem J4{f:M0->M0->Sem M0}{g:Int->Int->Int}
  (rule:∀(i j:Int) (t u:Tok) (s:N1) (Q:M0->N1->Prop) (E:M0->N1->Prop),Q (.int (g i j) s.toks) { s with toks:=s.toks+1 }->P6 (R4 X.prog X.w) X.A (f (.int i t) (.int j u)) Q E s) :
  OpR X f (rI0 λi j=>.int (g i j)):=by
 intro e s c H x y v u Q I rx ry h;obtain⟨i,j,rfl,rfl,q⟩:=h;obtain⟨t,rfl⟩:=rx;obtain⟨a,rfl⟩:=ry;exact rule i j t a s _ _ ⟨.int (g i j),H,I.tok _,⟨_,rfl⟩,q⟩
theorem EJ{f:M0->M0->Sem M0}{g:Int->Int->Bool}
  (rule:∀(i j:Int) (t u:Tok) (s:N1) (Q:M0->N1->Prop) (E:M0->N1->Prop),Q (.bool (g i j)) s->P6 (R4 X.prog X.w) X.A (f (.int i t) (.int j u)) Q E s) :
  OpR X f (rI0 λi j=>.bl (g i j)):=by
 intro c s e H x y v u Q I rx ry h;obtain⟨i,j,rfl,rfl,q⟩:=h;obtain⟨t,rfl⟩:=rx;obtain⟨a,rfl⟩:=ry;exact rule i j t a s _ _ ⟨.bl (g i j),H,I,rfl,q⟩
def xJ(i j:Int):Prop:=0<j/\j<1073741824
def xb(i j:Int):Prop:=0<=j/\j<=1000000/\i.natAbs<2 ^ 64
def nO(i j:Int):Prop:=(-(2 ^ 64)<i/\i<2 ^ 64)∨(-(2 ^ 64)<j/\j<2 ^ 64)
theorem nO.ok{i j:Int}(h:nO i j):IntMulOk i j:=by
 rcases h with⟨a,c⟩|⟨a,c⟩
 ·exact .of_left (intBits_le_64 a c)
 ·exact .of_right (intBits_le_64 a c)
theorem Jx:OpR X (ad8 .Add) (rI0 λi j=>.int (i+j)):=J4 λ_ _ _ _ _ _ _ q=>add_int q
theorem IK:OpR X (ad8 .Sub) (rI0 λi j=>.int (i-j)):=J4 λ_ _ _ _ _ _ _ q=>sub_int q
theorem HZ:OpR X (ad8 .Mult) (rI nO λi j=>.int (i*j)):=opI λ_ _ _ _ _ _ _ a q=>mul_int q a.ok
theorem EC:OpR X (ad8 .FloorDiv) (rI xJ λi j=>.int (i / j)):=opI λi j _ _ _ _ _ a q=>by
 have c:(0:Int)<j:=a.1;have e:j<1073741824:=a.2;exact floordiv_int (by lia) (by rw[Int.fdiv_eq_ediv_of_nonneg i (by exact av0 (by assumption))];exact q) (.inl (PyProof.noPylong_small (by lia)))
theorem Hg:OpR X (ad8 .Mod) (rI (λ_ j=>0<j) λi j=>.int (i % j)):=opI λi j _ _ _ _ _ a q=>by
 have c:(0:Int)<j:=a;exact mod_int' (by lia) (by rw[Int.fmod_eq_emod_of_nonneg i (by exact av0 (by assumption))];exact q)
theorem IF:OpR X (ad8 .Pow) (rI xb λi j=>.int (i ^ j.toNat)):=opI λ_ _ _ _ _ _ _ a q=>pow_int_small a.1 a.2.1 a.2.2 q
theorem unI{f:M0->Sem M0}{g:Int->Int}
  (rule:∀(i:Int) (t:Tok) (s:N1) (Q:M0->N1->Prop) (E:M0->N1->Prop),Q (.int (g i) s.toks) { s with toks:=s.toks+1 }->P6 (R4 X.prog X.w) X.A (f (.int i t)) Q E s) :
  UnR X f (rU λi=>.int (g i)):=by
 intro c s a H x v Q I rx h;obtain⟨i,rfl,q⟩:=h;obtain⟨t,rfl⟩:=rx;exact rule i t s _ _ ⟨.int (g i),H,I.tok _,⟨_,rfl⟩,q⟩
theorem Jr:UnR X (unaryOp .USub) (rU λi=>.int (-i)):=unI λ_ _ _ _ _ q=>neg_int q
end
section
variable{X:Cx}{a b c:R6}{G L tc:TE}{N:Pos}
theorem vy{a:List (O1×Obj)}{σ:St}{H:Hp}{s:N1}{Q:VK}{k k':Bool}(I:Inv X a σ H s)(q:Q (.bl k) H)(e:k=k'):EP X a σ Q (.bool k') s:=by
 subst e;exact⟨.bl k,H,I,rfl,q⟩
theorem Kn:OpR X (V4 .Lt) (rI0 λi j=>.bl (decide (i<j))):=EJ λ_ _ _ _ _ _ _ q=>lt_int q
theorem Kr:OpR X (V4 .LtE) (rI0 λi j=>.bl (decide (i<=j))):=EJ λ_ _ _ _ _ _ _ q=>le_int q
theorem JL:OpR X (V4 .Gt) (rI0 λi j=>.bl (decide (j<i))):=EJ λ_ _ _ _ _ _ _ q=>gt_int q
theorem Ly:OpR X (V4 .GtE) (rI0 λi j=>.bl (decide (j<=i))):=EJ λ_ _ _ _ _ _ _ q=>ge_int q
theorem AC:OpR X (V4 .In) (λx y H Q=>∃i j,x=.str i/\y=.str j/\Q (.bl (!(ak4 j i 0 j.length 1).isEmpty)) H):=by
 intro c s a H x y v u Q I rx ry h;obtain⟨i,j,rfl,rfl,q⟩:=h;obtain⟨t,rfl⟩:=rx;obtain⟨e,rfl⟩:=ry;exact in_str (vy I q rfl)
theorem Jy:OpR X (V4 .Is) (λx y H Q=>y=.non/\Q (.bl (decide (x=.non))) H):=by
 intro c s a H x y v u Q I rx ry h;obtain⟨rfl,q⟩:=h;cases ry;refine is_none_gen (vy I q ?_);cases x<;>first
  |(cases rx;rfl)
  |(obtain⟨t,rfl⟩:=rx;rfl)
theorem FT:OpR X (V4 .IsNot) (λx y H Q=>y=.non/\Q (.bl (!decide (x=.non))) H):=by
 intro c s a H x y v u Q I rx ry h;obtain⟨rfl,q⟩:=h;cases ry;refine isnot_none_gen (vy I q ?_);cases x<;>first
  |(cases rx;rfl)
  |(obtain⟨t,rfl⟩:=rx;rfl)
theorem vn:OpR X (V4 .NotIn) (λx y H Q=>∃i j,x=.str i/\y=.str j/\Q (.bl (!(!(ak4 j i 0 j.length 1).isEmpty))) H):=by
 intro c s a H x y v u Q I rx ry h;obtain⟨i,j,rfl,rfl,q⟩:=h;obtain⟨t,rfl⟩:=rx;obtain⟨e,rfl⟩:=ry;exact notIn_str (vy I q rfl)
theorem Ff{c:ay2}{r:R2}(j:OpR X (V4 c) r)(ha:PE X a G)(e:PE X b L)(g:ae6 c b=false):PE X (.Compare a [c] [b] N) (tOp r G L):=by
 intro n s m H Q I h;exact wpAny_Compare1 (Ho ha e I h λv u l x y f p i o q=>j n l m f x y v u Q p i o q) g
def GC(t:TE):TT:=λa H Q=>t a H λx c=>∃k,x=.bl k/\Q k c
theorem F1{j:ay2}{r:R2}(E:OpR X (V4 j) r)(ha:PE X a G)(l:PE X b L)(n:ae6 j b=false):PT X (.Compare a [j] [b] N) (GC (tOp r G L)):=by
 intro i s g H Q I h;refine wpAny_isTrue_Compare1 (thn (ha i s g H _ I h) λv m f=>f.el λx O B A o=>thn (l i m g O _ B o) λu M f=>f.el λy p S P R =>
  thn (E i M g p x y v u _ S A P R) λc T ⟨z,q,J,C,k,e,w⟩=>?_) n
 subst e;cases C;exact ae1 ⟨q,J,w⟩
def Hb(r f:R2)(G L tc:TE):TE:=λa H Q=>G a H λx i=>L a i λy e=>r x y e λz c=>∃k,z=.bl k /\
 (if k=true then tc a c λh g=>f y h g Q else Q (.bl false) c)
theorem CQ{m g:ay2}{r p:R2}(M:OpR X (V4 m) r)(l:OpR X (V4 g) p)(ha:PE X a G)(U:PE X b L)(S:PE X c tc)
  (A:lastMarks [m,g] [b,c]=false:=by with_unfolding_all rfl):PE X (.Compare a [m,g] [b,c] N) (Hb r p G L tc):=by
 intro j s i H Q I h;refine Compare_chain (thn (ha j s i H _ I h) λv Y f=>f.el λx H1 E C B=>chain_link (thn (U j Y i H1 _ E B) λu s2 f=>f.el λy Z I2 w q2 =>
  thn (M j s2 i Z x y v u _ I2 C w q2) λd s3 ⟨z,n,q,r3,k,e,o⟩=>?_)) A
 subst e;cases r3;refine ae1 ?_;cases k with
 |false=>exact ite_ff ⟨.bl false,n,q,rfl,o⟩
 |true=>exact ite_tt (chain_last (thn (S j s3 i n _ q o) λO P ⟨z',T,I4,R,J⟩=>l j P i T y z' u O Q I4 w R J))
theorem m5:(N7:Nat)<2 ^ 63:=by rw[O7];decide
theorem xY:OpR X (ad8 .Add) (λx y H Q=>∃i j,x=.str i/\y=.str j/\i.length+j.length<=N7/\Q (.str (i++j)) H):=by
 intro g s f H x y v u Q I rx ry h;obtain⟨i,j,rfl,rfl,a,q⟩:=h;obtain⟨t,rfl⟩:=rx;obtain⟨c,rfl⟩:=ry;exact add_str (λc e=>⟨.str (i++j),H,I.tok _,⟨_,rfl⟩,q⟩) a
theorem oa{x:V}{a:List M0}(r:aH [x] a):∃u,a=[u]/\aQ x u:=by
 cases r with
 |cons e c=>cases c;exact⟨_,rfl,e⟩
theorem BO:dN X (.builtin "abs") (λxs H Q=>∃i,xs=[.int i]/\Q (.int (if i<0 then -i else i)) H):=by
 intro e s c H xs f Q I r h;obtain⟨i,rfl,q⟩:=h;obtain⟨u,rfl,t,rfl⟩:=oa r;exact call_abs_int λu a=>⟨.int (if i<0 then -i else i),H,I.tok _,⟨_,rfl⟩,q⟩
theorem Bs:dN X (.type "int") (λxs H Q=>(∃i,xs=[.int i]/\Q (.int i) H)∨∃k,xs=[.bl k]/\Q (.int (if k then 1 else 0)) H):=by
 intro e s c H xs f Q I r h;rcases h with⟨i,rfl,q⟩|⟨k,rfl,q⟩
 ·obtain⟨u,rfl,t,rfl⟩:=oa r;exact call_int_int ⟨.int i,H,I,⟨_,rfl⟩,q⟩
 ·obtain⟨u,rfl,a⟩:=oa r;cases a;exact call_int_bool ⟨.int (if k then 1 else 0),H,I.tok _,⟨_,rfl⟩,q⟩
end
structure AB(h:Q9) (x dx C:O1) (mA:Str->Option M0):Prop where
 obj:h.get? x=some (ah0 C dx)
 ns:h.Ns1 dx mA
 ne:dx≠x
theorem Bt{h:Q9}{i:O1}{f:Str->Option M0}(n:h.Ns1 i f):∃od,h.get? i=some od/\∀name,PySem.W.lookIn name od=some (f name):=by
 obtain⟨o,g,w,m,l,p,_,j⟩:=n;refine⟨o,m,λname=>?_⟩;have e:=j name;unfold nsFind findBy at e;rw[<-Array.find?_toList]at e;unfold PySem.W.lookIn;rw[l];dsimp only
 split
 ·rename_i y q;rw[q]at e;exact congrArg some e
 ·rename_i q;rw[q]at e;have a:g.toList.any (·.refKey)=false:=by
   rw[List.any_eq_false];intro y s;obtain⟨z,t,c⟩:=p y (Array.mem_toList_iff.mp s);simp[as2.refKey,c]
  have u:¬ g.toList.any (·.refKey)=true:=by rw[a];exact V9
  rw[if_neg u];exact congrArg some e
theorem AB.look{h:Q9}{x c C:O1}{a:Str->Option M0}(I:AB h x c C a):∃od,PySem.W.InstAt h x (ah0 C c) C (some od)/\∀name,PySem.W.lookIn name od=some (a name) :=
 let⟨od,f,e⟩:=Bt I.ns
 ⟨od,⟨I.obj,rfl,rfl,f⟩,e⟩
section
variable{prog:Q7}{w:U9}{A:S0}{E:M0->N1->Prop}{s:N1}{K:u8}{x z C f:O1}{G:Str->Option M0}{name:Str}{v:M0}
theorem F9{a:Bool}{Q:M0->N1->Prop}(X:K.In s.heap)(I:AB s.heap x z C G)(hg:as8 K C name=true)(g:ar0 K C=true)
  (ha:aa9 K (.ref C) name=some none) (f:G name=some v) (c:PySem.W.handedIn v=true) (h:Q v { s with toks:=s.toks+1 }) :
  P6 (R4 prog w) A (getAttr (.ref x) name a) Q E s:=by
 obtain⟨i,J,e⟩:=I.look;exact PySem.W.get_value X J (PySem.W.plainGet_of hg).1 (PySem.W.findObj_own g ha rfl (by rw[e,f])) c h
theorem Ee{ns:List Str}{Q:Unit->N1->Prop}(X:K.In s.heap)(I:AB s.heap x z C G)
  (hs:aa9 K (.ref C) "__setattr__"=some (some (.builtin "object.__setattr__"))) (u:PySem.W.plainOver K C=true) (p:PySem.W.takerIn K C name=some none) (o:ar0 K C=true)
  (l:aw9 G ns) (hsz:ns.length<=N7)
  (h:∀h',AB h' x z C (λy=>if y=name then some v else G y)->S4 z s.heap h'->Q () { s with heap:=h',toks:=s.toks+2 }) :
  P6 (R4 prog w) A (setAttr (.ref x) name v) Q E s:=by
 obtain⟨L,J,M⟩:=I.look;refine PySem.W.set_plain X J hs (PySem.W.osa_open (s:={ s with toks:=s.toks+1 }) (r:=none) X J u p λb=>?_);obtain⟨N,n,j⟩:=PySem.W.any_some o;have q:s.heap.get? x=some ⟨.ref C,some z,.plain,#[]⟩:=I.obj;refine o0 (M9 (o0 (o0 (wpAny_loadPart q (o0 (PySem.W.Looks.here (s:={ s with toks:=s.toks+1 }) (PySem.W.looks_clsIn X n) ?_))))));rw[j];refine M9 (a:=some z) (o0 (M9 (o0 ?_)));refine wpAny_nsSet1 (s:={ s with toks:=s.toks+1 }) I.ns λh' e c=>?_;obtain⟨H,B,m,f,g,i⟩:=e.count (aw9.cons name v l);refine o0 (wpAny_lookBehind f (by rw[g];exact pastItsLine_dict (N3 i (by rw[O2];lia))) ?_);exact M9 (h _ ⟨(c.2 _ (aa3 I.ne)).trans I.obj,e,I.ne⟩ c)
theorem Cu{R:aA0->N1->Prop}{c:List M0}{e:List (Str×M0)}(X:K.In s.heap)(i:PySem.W.makesIn K C=true)
  (j:aa9 K (.ref C) "__init__"=some (some (.ref f))) (l:PySem.W.typeIn K (.ref f)=some (.type "function"))
  (h:am8 (R4 prog w) (A.under (.builtin "type.__call__" ⟨.ref C :: c,e⟩)) (.call (.ref f) ⟨.ref (s.heap.objs.size + 1) :: c,e⟩) (PySem.W.InitBack (s.heap.objs.size + 1) R)
   { s with heap:=(s.heap.push ac5).push (ah0 C s.heap.objs.size) }) :
  am8 (R4 prog w) A (.call (.ref C) ⟨c,e⟩) R s:=by
 obtain⟨m,g,d,t,os⟩:=s;exact PySem.W.make_core (PySem.W.makes_of X i) (PySem.W.looks_findIn X j) (λa=>PySem.W.bind_fn X a l) (.inl rfl) h
end
noncomputable def putF(f:Str)(v:V):List (Str×V)->List (Str×V)
 |[]=>[(f,v)]
 |(g,x)::r=>if g=f then(g,v)::r else(g,x)::putF f v r
theorem n8(f g:Str)(v:V):∀fs:List (Str×V),(putF f v fs).lookup g=if g=f then some v else fs.lookup g
 |[]=>by
  show ai7 g [(f,v)]=_
  by_cases h:g=f
  ·have a:(g==f)=true:=beq_iff_eq.mpr h;simp only[ai7,a,if_pos h]
  ·have a:(g==f)=false:=beq_eq_false_iff_ne.mpr h;simp only[ai7,a,if_neg h]
 |(k,x)::r=>by
  have ih:=n8 f g v r;rw[show putF f v ((k,x)::r)=(if k=f then(k,v)::r else(k,x)::putF f v r)from rfl]
  by_cases c:k=f
  ·rw[if_pos c]
   by_cases h:g=k
   ·have a:(g==k)=true:=beq_iff_eq.mpr h;simp only[ai7,a,if_pos (h.trans c)]
   ·have a:(g==k)=false:=beq_eq_false_iff_ne.mpr h;simp only[ai7,a,if_neg (λe:g=f=>h (e.trans c.symm))]
  ·rw[if_neg c]
   by_cases h:g=k
   ·have a:(g==k)=true:=beq_iff_eq.mpr h;simp only[ai7,a,if_neg (λe:g=f=>c (h.symm.trans e))]
   ·have a:(g==k)=false:=beq_eq_false_iff_ne.mpr h;simp only[ai7,a];exact ih
theorem nB(f:Str)(v:V):∀fs:List (Str×V),f∈(putF f v fs).map (·.1)/\∀g,g∈fs.map (·.1)->g∈(putF f v fs).map (·.1)
 |[]=>⟨by simp[putF],λg h=>by simp at h⟩
 |(k,x)::r=>by
  obtain⟨c,i⟩:=nB f v r;rw[show putF f v ((k,x)::r)=(if k=f then(k,v)::r else(k,x)::putF f v r)from rfl]
  by_cases a:k=f
  ·rw[if_pos a];subst a;exact⟨by simp,λg h=>by simpa using h⟩
  ·rw[if_neg a];refine⟨?_,λg h=>?_⟩
   ·rw[N5];exact S7 _ c
   ·rw[N5]at h ⊢;rcases O9.mp h with e|e
    ·exact O9.mpr (.inl e)
    ·exact S7 _ (i g e)
theorem oi(f:Str)(v:V):∀fs:List (Str×V),(putF f v fs).length<=fs.length+1
 |[]=>by simp[putF]
 |(k,x)::r=>by
  have ih:=oi f v r;rw[show putF f v ((k,x)::r)=(if k=f then(k,v)::r else(k,x)::putF f v r)from rfl]
  by_cases a:k=f
  ·rw[if_pos a,O2,O2];lia
  ·rw[if_neg a,O2,O2];lia
theorem ku.some_of{v:V}{o:Option M0}(r:ku (some v) o):∃u,o=some u/\aQ v u:=by
 cases o with
 |none=>exact(show False from r).elim
 |some u=>exact⟨u,rfl,r⟩
theorem Bc{v:V}{u:M0}(r:aQ v u):PySem.W.handedIn u=true:=by
 cases v with
 |non=>cases(show u=X1 from r);rfl
 |bl b=>cases(show u=M0.bool b from r);rfl
 |int i=>obtain⟨t,e⟩:=(show ∃t,u=aw7 i t from r);cases e;rfl
 |str x=>obtain⟨t,e⟩:=(show ∃t,u=ay9 x t from r);cases e;rfl
 |byt b=>obtain⟨t,e⟩:=(show ∃t,u=M0.bytes b t from r);cases e;rfl
 |flt b=>obtain⟨t,e⟩:=(show ∃t,u=M0.float b t from r);cases e;rfl
 |ref a=>cases(show u=U4 a from r);rfl
 |ty n=>cases(show u=aa0 n from r);rfl
section
variable{P:Q7}{w:U9}{H I:Hp}{h h':Q9}{a C y:O1}{fs G:List (Str×V)}
theorem yZ(g:HOk P w H h)(e:H a=some (.ins C y fs)):∃c,AB h a y C c/\(∀f,ku (fs.lookup f) (c f))/\aw9 c (fs.map (·.1))/\fs.length<=1000/\H y=some (.own a):=by
 obtain⟨d,z,i,j,c,n,r,q⟩:=(show cu P w H h a (.ins C y fs)from g a _ e);exact⟨c,⟨j,n,i⟩,r,q,z,d⟩
end
structure Cls(K:u8) (C:O1):Prop where
 pg:as8 K C Str.empty=true
 hd:ar0 K C=true
 po:PySem.W.plainOver K C=true
 sa:aa9 K (.ref C) "__setattr__"=some (some (.builtin "object.__setattr__"))
theorem Cls.get{K:u8}{C:O1}(c:Cls K C)(f:Str):as8 K C f=true:=c.pg
def eN(K:u8)(C:O1)(f:Str):Prop:=aa9 K (.ref C) f=some none
theorem eN.taker{K:u8}{C:O1}{f:Str}(n:eN K C f):PySem.W.takerIn K C f=some none:=by
 unfold PySem.W.takerIn;rw[show aa9 K (.ref C) f=some none from n];rfl
section
variable{X:Cx}{G:List (O1×Obj)}{σ:St}{H:Hp}{s:N1}{a C L:O1}{fs:List (Str×V)}{f:Str}{v:V}{A:S0}{E:M0->N1->Prop}
theorem xS{b:Bool}{Q:M0->N1->Prop}(I:Inv X G σ H s)(e:H a=some (.ins C L fs))(c:Cls X.K C)(n:eN X.K C f)(l:fs.lookup f=some v)
  (h:∀u s',Inv X G σ H s'->aQ v u->Q u s'):P6 (R4 X.prog X.w) A (getAttr (.ref a) f b) Q E s:=by
 obtain⟨i,O,r,_,_,_⟩:=yZ I.hok e;obtain⟨u,j,g⟩:=ku.some_of (v:=v) (o:=i f) (by rw[<-l];exact r f);exact F9 I.kIn O (c.get f) c.hd n j (Bc g) (h u _ (I.tok _) g)
theorem xT{y:V}{u:M0}{Q:Unit->N1->Prop}(I:Inv X G σ H s)(e:H a=some (.ins C L fs))(c:Cls X.K C)(n:eN X.K C f)(S:fs.length<1000)(J:aQ y u)
  (h:∀s',Inv X G σ (upd H a (.ins C L (putF f y fs))) s'->Q () s'):P6 (R4 X.prog X.w) A (setAttr (.ref a) f u) Q E s:=by
 obtain⟨j,O,r,m,_,l⟩:=yZ I.hok e;have P:(fs.map (·.1)).length<=N7:=by rw[s0,O7];exact N3 (by assumption) (by decide)
 refine Ee I.kIn O c.sa c.po n.taker c.hd m P λB i R=>h _ ?_;have w:∃o,B.get? L=some o:=let⟨o,_,_,M,_⟩:=i.ns;⟨o,M⟩
 refine I.write (x:=a) (e:=L) (by rw[e];exact al8) (.inr l) (λb q N z=>(R.2 b N).trans z) w ?_;refine⟨by rw[aX O.ne];exact l,?_,O.ne,i.obj,_,i.ns,λg=>?_,λg p=>?_⟩
 ·have:=oi f y fs;exact N3 (by assumption) (by assumption)
 ·show ku ((putF f y fs).lookup g) (if g=f then some u else j g);rw[n8]
  by_cases q:g=f
  ·rw[if_pos q,if_pos q];exact J
  ·rw[if_neg q,if_neg q];exact r g
 ·by_cases q:g=f
  ·rw[q];exact(nB f y fs).1
  ·refine(nB f y fs).2 g (m g λz=>p ?_);show(if g=f then some u else j g)=none;rw[if_neg q];exact z
theorem Inv.made(I:Inv X G σ H s):Inv X G σ (upd (upd H s.heap.objs.size (.own (s.heap.objs.size+1))) (s.heap.objs.size+1) (.ins C s.heap.objs.size []))
  { s with heap:=(s.heap.push ac5).push (ah0 C s.heap.objs.size) }:=by
 have f:(s.heap.push ac5).get? s.heap.objs.size=some ac5:=N6 s.heap rfl;have g:((s.heap.push ac5).push (ah0 C s.heap.objs.size)).get? (s.heap.objs.size+1)=some (ah0 C s.heap.objs.size):=by
  have:=N6 (s.heap.push ac5) (o:=ah0 C s.heap.objs.size) rfl
  rwa [W1]at this
 have l:(s.heap.push ac5).Ns s.heap.objs.size (λ_=>none):=⟨ac5,#[],_,f,rfl,(λe h=>absurd h (by simp)),λ_=>rfl⟩;have i:=I.laid (a:=s.heap.objs.size) (o:=.own (s.heap.objs.size+1)) (h':=s.heap.push ac5) (t':=s.toks) (λb u q=>M7 _ q) (N2 _) ⟨_,f⟩;refine i.laid (a:=s.heap.objs.size+1) (o:=.ins C s.heap.objs.size []) (t':=s.toks) (λb u q=>M7 _ q) (Nat.le_of_eq (W1 _ _)) ?_;have c:s.heap.objs.size≠s.heap.objs.size+1:=P8 (ab9 _);refine⟨by rw[aX c,aO],O3 _,c,g,λ_=>none,(Q9.Ns1.of_empty l).at λo q=>M7 _ q,λ_=>al8,λy j=>absurd rfl j⟩
theorem Et{prog:Q7}{w:U9}{env:Env}{e:R6}{f:Str}{c:Pos}{s:N1}{Q:M0->N1->Prop}(g:ac0 e f env (af8 e env)=af8 e env)
  (h:P6 (R4 prog w) A (af8 e env) (λo a=>P6 (R4 prog w) A (getAttr o f true) Q E a) E s):P6 (R4 prog w) A (af8 (.Attribute e f c) env) Q E s :=
 Attribute_any_ h (by rw[arm_eval_Attribute,g])
end
def Mf(K:u8)(g:TE)(f:Str):TE:=λe H Q=>g e H λx c=>∃a C h fs v,x=.ref a/\c a=some (.ins C h fs)/\Cls K C/\eN K C f/\fs.lookup f=some v/\Q v c
def LX(K:u8)(i h:TE)(f:Str):TS:=λD c H=>h c H λy j=>i c j λx e=>∃a C g fs,x=.ref a/\e a=some (.ins C g fs)/\Cls K C/\eN K C f/\fs.length<1000 /\
 D.nx c (upd e a (.ins C g (putF f y fs)))
section
variable{X:Cx}{o e z:R6}{f:Str}{L G Y:Pos}{N tv:TE}
theorem Jh(he:PE X e N)(p:ac0 e f X.env (af8 e X.env)=af8 e X.env):PE X (.Attribute e f L) (Mf X.K N f):=by
 intro A s m H Q I h;refine Et p (thn (he A s m H _ I h) λu E ⟨x,z,i,g,a,C,G,fs,v,j,w,c,n,l,q⟩=>?_);subst j;obtain rfl:u=U4 a:=g;exact xS i w c n l λM J B o=>⟨v,z,B,o,q⟩
theorem Ib(ha:PE X o N)(A:PE X z tv)(hs:ai1 z (some (.Attribute o f G)) L.line X.env=al5 false):PS X (.Assign [.Attribute o f G] z L) (LX X.K N tv f):=by
 intro i s g H D I h;refine plainObj_wpAny_Assign_Attribute (thn (A i s g H _ I h) λu E e=>e.el λy P m w q=>thn (ha i E g P _ m q) λB T ⟨x,R,Q,j,a,C,S,fs,p,J,c,n,l,O⟩=>?_) hs;subst p;obtain rfl:B=U4 a:=j;exact xT Q J c n l w λU M=>⟨g,_,M,O⟩
end
structure cQ(k:Nat) (A:S0):Prop where
 hd:A.handled=none
 dp:A.depth+3*k+5<recursionLimit
 un:A.units+16*k+200<af7
theorem cQ.mono{j k:Nat}{A:S0}(r:cQ k A)(h:j<=k):cQ j A:=⟨r.hd,by have:=r.dp;lia,by have:=r.un;lia⟩
theorem cQ.deeper{k:Nat}{A:S0}(r:cQ (k+1) A)(env:Env):cQ k (A.deeper env) :=
 ⟨r.hd,by have:=r.dp;show A.depth+1+3*k+5<_;lia,by have:=r.un;show A.units+3+16*k+200<_;lia⟩
theorem ya{A:S0}{C:O1}{c:List M0}{a:List (Str×M0)}:(A.under (.builtin "type.__call__" ⟨.ref C::c,a⟩)).depth=A.depth+1:=by
 first|rfl|simp[S0.under,aA9.weight,aA9.isCreation,aA9.isGuard,aA9.isCaller,aA9.frames,aA9.isFrame,guardIds]
theorem yQ{A:S0}{C:O1}{c:List M0}{a:List (Str×M0)}:(A.under (.builtin "type.__call__" ⟨.ref C::c,a⟩)).units=A.units+1:=by
 first|rfl|simp[S0.under,aA9.cUnits,aA9.frames,aA9.isFrame]
theorem cQ.make{k:Nat}{A:S0}(r:cQ (k+1) A)(C:O1)(a:List M0)(c:List (Str×M0)):cQ k (A.under (.builtin "type.__call__" ⟨.ref C::a,c⟩)) :=
 ⟨r.hd,by have:=r.dp;rw[ya];lia,by have:=r.un;rw[yQ];lia⟩
theorem cQ.depth{k:Nat}{A:S0}(r:cQ k A):A.depth<recursionLimit:=by have:=r.dp;lia
theorem cQ.units{k:Nat}{A:S0}(r:cQ k A):A.units+64<af7:=by have:=r.un;lia
def Md:TA:=λ_ H Q=>Q [] H
def KO(f:TE)(c:TA):TA:=λa H Q=>f a H λx g=>c a g λh e=>Q (x::h) e
section
variable{X:Cx}{e:R6}{es:List R6}{te:TE}{t:TA}{y:Pos}
theorem qF:PA X [] Md:=λ_ _ _ _ H Q I h=>ag7 ⟨[],H,I,.nil,h⟩
theorem ka(ha:PE X e te)(hr:PA X es t)(hs:O5 (e::es) X.env=(false,af8 e X.env)::O5 es X.env:=by rfl):PA X (e::es) (KO te t):=by
 intro y f s c H Q I h;rw[hs];show P6 _ _ (aA3 ((false,af8 e X.env)::ad7 y (O5 es X.env))) _ _ s;refine af9 (thn (ha f s c H _ I h) λu g a=>a.el λx o m l j=>?_);exact thn (hr y f g c o _ m j) λz A a=>a.el λn i w p q=>⟨x::n,i,w,.cons l p,q⟩
def JJ(t:TA):TE:=λe H Q=>t e H λc a=>c.length<=N7/\∀p,a p=none->Q (.ref p) (upd a p (.tup c))
def LJ(t:TA):TE:=λe H Q=>t e H λc a=>c.length<=N7/\∀p,a p=none->Q (.ref p) (upd a p (.lst c))
theorem pM{x1}(h:PA X es t):PE X (.Tuple es x1 y) (JJ t):=by
 intro m s l H Q I j;refine wpAny_Tuple_spliced (thn (h y m s l H _ I j) λg a ⟨n,f,c,r,z,q⟩=>⟨by rw[<-r.length];exact z,?_⟩);have i:f a.heap.objs.size=none:=c.hok.fresh (N2 _);refine⟨.ref a.heap.objs.size,upd f a.heap.objs.size (.tup n),c.laid (t':=a.toks) (λb u e=>M7 _ e) (N2 _) ?_,rfl,q _ i⟩;exact⟨z,g,r,⟨_,N6 _ rfl,rfl,⟨_,rfl⟩,rfl⟩⟩
theorem Dc(h:PA X es t):PE X (.List es y) (LJ t):=by
 intro m s l H Q I j;refine wpAny_List_spliced (thn (h y m s l H _ I j) λg a ⟨n,f,c,r,z,q⟩=>⟨by rw[<-r.length];exact z,?_⟩);have i:f a.heap.objs.size=none:=c.hok.fresh (N2 _);refine⟨.ref a.heap.objs.size,upd f a.heap.objs.size (.lst n),c.laid (t':=a.toks) (λb u e=>M7 _ e) (N2 _) ?_,rfl,q _ i⟩;exact⟨z,g,0,r,N6 _ rfl⟩
end
abbrev Sp:=List V->Hp->VK->XK->Prop
abbrev CXT:=List Env->Hp->N1->XK->M0->N1->Prop
structure yA(P:Q7) (w:U9) (K:u8) (mg:Str->Option M0) (base:Q9) (A:S0) (outer:List Env) (s:N1) (H:Hp):Prop where
 frames:A.frames=some outer
 mod:Mod K mg base
 bs:∀b o,base.get? b=some o->s.heap.get? b=some o/\H b=none
 bsz:base.objs.size<=s.heap.objs.size
 funs:s.heap.FunFrames base outer
 frf:∀b∈frs outer,H b=none
 hok:HOk P w H s.heap
 bare:av7 s.gens
def CE(a:List Env)(P:Q7)(w:U9)(H:Hp)(s:N1)(Q:VK)(u:M0)(s':N1):Prop :=
 ∃v c,s'.os=s.os/\av7 s'.gens/\Un (frs a) [] H c s.heap s'.heap/\HOk P w c s'.heap/\aQ v u/\Q v c
def CR(CX:CXT)(a:List Env)(P:Q7)(w:U9)(H:Hp)(s:N1)(Q:VK)(E:XK)(r:aA0)(s':N1):Prop :=
 match r with
 |.ok (.ret u)=>CE a P w H s Q u s'
 |.ok _=>False
 |.error e=>CX a H s E e s'
structure aV(P:Q7) (w:U9) (K:u8) (mg:Str->Option M0) (base:Q9) (CX:CXT) (k:Nat) (f:O1) (fd:P5) (ps:List Str) (sp:Sp):Prop where
 len:∀vs H Q E,sp vs H Q E->vs.length=ps.length
 run:∀(A:S0) (outer:List Env) (s:N1) (H:Hp) (args:Args) (us:List M0) (vs:List V) (Q:VK) (E:XK),cQ k A->yA P w K mg base A outer s H->az5 s fd args (ps.zip us)->aH vs us->sp vs H Q E ->
  am8 (R4 P w) A (.call (.ref f) args) (CR CX outer P w H s Q E) s
theorem yA.make{P:Q7}{w:U9}{K:u8}{c:Str->Option M0}{base:Q9}{A:S0}{a:List Env}{s:N1}{H:Hp}(e:yA P w K c base A a s H)(C:O1)(f:List M0)(g:List (Str×M0)):
  yA P w K c base (A.under (.builtin "type.__call__" ⟨.ref C::f,g⟩)) a s H:=⟨by first|exact e.frames|(simpa[S0.under,aA9.envs,aA9.isFrame,pushEnvs]using e.frames),e.mod,e.bs,e.bsz,e.funs,e.frf,e.hok,e.bare⟩
section
variable{X:Cx}{y:List (O1×Obj)}{σ:St}{H:Hp}{s s':N1}
theorem Inv.env0(I:Inv X y σ H s):yA X.prog X.w X.K X.mg X.base X.A X.stack s H :=
 ⟨I.ok.frames,I.ok.mod,I.bs,N3 I.ok.bsz I.sz,I.stack,I.stkFree,I.hok,I.bare⟩
theorem Inv.after{Q:VK}{u:M0}(I:Inv X y σ H s)(h:CE X.stack X.prog X.w H s Q u s'):EP X y σ Q u s':=by
 obtain⟨v,f,os,a,un,c,r,q⟩:=h;obtain⟨i,g,d,t,e⟩:=s';obtain rfl:e=s.os:=os;exact⟨v,f,I.call (h':=i) (g':=g) (d':=d) (t':=t) (ch:=[]) un c a (λb z=>absurd z (by simp)),r,q⟩
end
def J6(sp:Sp)(a:List V)(E:XK)(t:TA):TE:=λc H Q=>t c H λf e=>sp (f++a) e Q E
def Lq(C:O1)(sp:Sp)(c:List V)(E:XK)(t:TA):TE:=λg H Q=>t g H λh e=>∀x a,e x=none->e a=none->a≠x ->
 sp (.ref x::(h++c)) (upd (upd e a (.own x)) x (.ins C a [])) (λv f=>v=.non/\Q (.ref x) f) E
def dM(K:u8)(c:P5)(ps:List Str)(ds:List M0):Prop :=
 ∀(s:N1) (a:List M0),K.In s.heap->(a++ds).length=ps.length->az5 s c ⟨a,[]⟩ (ps.zip (a++ds))
theorem dM.all{K:u8}{c:P5}{ps:List Str}(h:∀a:List M0,a.length=ps.length->bindArgs c ⟨a,[]⟩=al5 (ps.zip a)):dM K c ps []:=λs a _ e=>by
 rw[aa4]at e ⊢;exact .of_eq (h a e)
def qp(CX:CXT)(X:Cx)(E:XK):Prop:=∀(f:List (O1×Obj)) (c:St) (H:Hp) (s:N1) (e:M0) (a:N1),Inv X f c H s->CX X.stack H s E e a->X.xe e a
section
variable{X:Cx}{CX:CXT}{k:Nat}{f C:O1}{G:P5}{ps:List Str}{sp:Sp}{y:List V}{ds:List M0}{E:XK}{x m:Str}{p z L:Pos}{e o:R6}{es:List R6}{N:TE}{t:TA}
theorem Ju{i:List (O1×Obj)}{σ:St}{H:Hp}{s:N1}{Q:VK}{a:List M0}{g:List V}(F:aV X.prog X.w X.K X.mg X.base CX k f G ps sp)(hr:cQ k X.A)(n:dM X.K G ps ds)(l:aH y ds)(q:qp CX X E)
  (I:Inv X i σ H s) (r:aH g a) (h:sp (g++y) H Q E):P6 (R4 X.prog X.w) X.A (call (.ref f) a) (EP X i σ Q) X.xe s:=by
 have j:aH (g++y) (a++ds):=r.append l;have o:(a++ds).length=ps.length:=by rw[<-j.length];exact F.len _ _ _ _ h
 refine az6 (ai3 (F.run X.A X.stack s H ⟨a,[]⟩ (a++ds) (g++y) Q E hr I.env0 (n s a I.kIn o) j h) λr p c=>?_);cases r with
 |error e=>exact q i σ H s e p I c
 |ok m =>
  cases m with
  |ret u=>exact I.after c
  |next=>exact ae2 c
  |brk=>exact ae2 c
  |cont=>exact ae2 c
theorem ze(F:aV X.prog X.w X.K X.mg X.base CX k f G ps sp)(hr:cQ k X.A)(hg:Gl X x)(g:X.mg x=some (.ref f))(m:ag5 X.K (.ref f)=true)(l:dM X.K G ps ds)(i:aH y ds)(n:qp CX X E)
  (ha:PA X (e::es) t) (hdb:(x==("__debug__":Str))=false:=by decide) (he:O5 (e::es) X.env=(false,af8 e X.env)::O5 es X.env:=by rfl) (hpl:(ad7 z (O5 es X.env)).any (·.1)=false:=by rfl) :
  PE X (.Call (.Name x p) (e::es) [] z) (J6 sp y E t):=by
 intro o s j H Q I h;refine ad1 (uX I hg g ?_ hdb);refine PySem.W.callWith_K (h₀:=X.base) I.ok.mod.kin m (thn (ha z o s j H _ I h) λu A a=>a.el λw B c r q=>⟨c.kIn,?_⟩) he hpl;exact Ju F hr l i n c r q
structure Mk(K:u8) (C f:O1):Prop where
 makes:PySem.W.makesIn K C=true
 init:aa9 K (.ref C) "__init__"=some (some (.ref f))
 fn:PySem.W.isFn K (.ref f)=true
 kp:ag5 K (.ref C)=true
theorem CS{j:List (O1×Obj)}{σ:St}{H:Hp}{s:N1}{Q:VK}{c:List M0}{l:List V}(M:Mk X.K C f)(F:aV X.prog X.w X.K X.mg X.base CX k f G ps sp)(hr:cQ (k+1) X.A)(B:dM X.K G ps ds)(q:aH y ds)
  (P:qp CX X E) (I:Inv X j σ H s) (r:aH l c)
  (h:∀x g,H x=none->H g=none->g≠x->sp (.ref x::(l++y)) (upd (upd H g (.own x)) x (.ins C g [])) (λv J=>v=.non/\Q (.ref x) J) E) :
  P6 (R4 X.prog X.w) X.A (call (.ref C) c) (EP X j σ Q) X.xe s:=by
 have m:=h (s.heap.objs.size+1) s.heap.objs.size (I.hok.fresh (ar1 _)) (I.hok.fresh (N2 _)) (P8 (ab9 _));have i:=Inv.made (C:=C) I;have n:aH (V.ref (s.heap.objs.size+1)::(l++y)) (U4 (s.heap.objs.size+1)::(c++ds)):=.cons rfl (r.append q);have L:(U4 (s.heap.objs.size+1)::c++ds).length=ps.length:=by
  have e:=n.length;rw[F.len _ _ _ _ m]at e;exact e.symm
 refine az6 (Cu (f:=f) I.kIn M.makes M.init (beq_iff_eq.mp M.fn) (ai3 (F.run _ X.stack _ _ ⟨U4 (s.heap.objs.size+1)::c,[]⟩ (U4 (s.heap.objs.size+1)::(c++ds)) _ _ E (hr.make C c [])
  (i.env0.make C c []) (B _ (U4 (s.heap.objs.size+1)::c) i.kIn L) n m) λr N a=>?_))
 cases r with
 |error e=>exact P j σ _ _ e N i a
 |ok w =>
  cases w with
  |ret u =>
   obtain⟨v,o,O,A,z,p⟩:=i.after a;subst z;exact⟨A,⟨V.ref (s.heap.objs.size+1),o,O,rfl,p⟩⟩
  |next=>exact ae2 a
  |brk=>exact ae2 a
  |cont=>exact ae2 a
theorem Gb(M:Mk X.K C f)(F:aV X.prog X.w X.K X.mg X.base CX k f G ps sp)(hr:cQ (k+1) X.A)(hg:Gl X x)(g:X.mg x=some (.ref C))(l:dM X.K G ps ds)(i:aH y ds)(m:qp CX X E)
  (ha:PA X (e::es) t) (hdb:(x==("__debug__":Str))=false:=by decide) (he:O5 (e::es) X.env=(false,af8 e X.env)::O5 es X.env:=by rfl) (hpl:(ad7 z (O5 es X.env)).any (·.1)=false:=by rfl) :
  PE X (.Call (.Name x p) (e::es) [] z) (Lq C sp y E t):=by
 intro n s j H Q I h;refine ad1 (uX I hg g ?_ hdb);refine PySem.W.callWith_K (h₀:=X.base) I.ok.mod.kin M.kp (thn (ha z n s j H _ I h) λo w a=>a.el λu A c r q=>⟨c.kIn,?_⟩) he hpl;exact CS M F hr l i m c r q
end
structure ax(N P:List Str) (sc:am0):Prop where
 kind:sc.kind=.function
 co:sc.isCoroutine=false
 gen:sc.isGenerator=false
 nd:N.Nodup
 pre:N.take P.length=P
 par:∀x∈P,sc.names.lookup x=some .local∨sc.names.lookup x=some .cell
 nofree:∀y∈sc.names,y.2≠.free
theorem tQ{av4:Str->Option aa2}{x:Str}:∀{binds:List (Str×M0)}{m:Str->Option M0},(∀v,(x,v)∉binds)->bindL av4 binds m x=m x
 |[],_,_=>rfl
 |(n,v)::r,m,h=>by
  unfold bindL;rw[tQ λw a=>h w (S7 _ a)]
  split
  ·have:x≠n:=by rintro rfl;exact h v V8
   simp[this]
  ·rfl
theorem sO{av4:Str->Option aa2}{x:Str}:∀{binds:List (Str×M0)}{m:Str->Option M0},(∀v,(x,v)∉binds)->bindC av4 binds m x=m x
 |[],_,_=>rfl
 |(n,v)::r,m,h=>by
  unfold bindC;rw[sO λw a=>h w (S7 _ a)]
  split
  ·rfl
  ·have:x≠n:=by rintro rfl;exact h v V8
   simp[this]
theorem tD{av4:Str->Option aa2}{x:Str}{v:M0}:∀{P:List Str}{a:List M0}{i:Nat}{m:Str->Option M0},P.Nodup->P[i]?=some x->a[i]?=some v->av4 x=some .local ->
  bindL av4 (P.zip a) m x=some v
 |[],_,_,_,_,h,_,_=>by simp at h
 |_::_,[],_,_,_,_,h,_=>by simp at h
 |p::P,w::a,0,m,g,c,e,f=>by
  simp at c e;subst c;subst e;show bindL av4 ((p,w)::P.zip a) m p=_;unfold bindL;rw[tQ λv j=>(Z1.mp g).1 (List.of_mem_zip j).1,if_pos f];simp
 |p::P,w::a,i+1,m,g,c,e,f=>by
  show bindL av4 ((p,w)::P.zip a) m x=_;unfold bindL;exact tD (i:=i) (Z1.mp g).2 (by simpa using c) (by simpa using e) f
theorem sT{av4:Str->Option aa2}{x:Str}{v:M0}:∀{P:List Str}{a:List M0}{i:Nat}{m:Str->Option M0},P.Nodup->P[i]?=some x->a[i]?=some v->av4 x≠some .local ->
  bindC av4 (P.zip a) m x=some v
 |[],_,_,_,_,h,_,_=>by simp at h
 |_::_,[],_,_,_,_,h,_=>by simp at h
 |p::P,w::a,0,m,g,c,e,f=>by
  simp at c e;subst c;subst e;show bindC av4 ((p,w)::P.zip a) m p=_;unfold bindC;rw[sO λv j=>(Z1.mp g).1 (List.of_mem_zip j).1,if_neg f];simp
 |p::P,w::a,i+1,m,g,c,e,f=>by
  show bindC av4 ((p,w)::P.zip a) m x=_;unfold bindC;exact sT (i:=i) (Z1.mp g).2 (by simpa using c) (by simpa using e) f
noncomputable def cX(N:List Str)(a:List V):St:=a.map some++R7 (N.length-a.length) none
noncomputable def wO(CX:CXT)(P:Q7)(w:U9)(K:u8)(j:Str->Option M0)(base:Q9)(N:List Str)(g:Str)(c:am0)(f:O1)(i:M0)(A:S0)(a:List Env)(s:N1)(H:Hp)(E:XK):Cx where
 prog:=P
 w:=w
 K:=K
 mg:=j
 base:=base
 A:=A.deeper (ay0 g c s.heap.objs.size f i)
 N:=N
 s₀:=s
 H₀:=H
 env:=ay0 g c s.heap.objs.size f i
 outer:=a
 stack:=ay0 g c s.heap.objs.size f i::a
 ex:=[]
 calm:=true
 fn:=λ_=>true
 pn:=[]
 xe:=λe m=>P6 (R4 P w) (A.deeper (ay0 g c s.heap.objs.size f i)) (leaving (ay0 g c s.heap.objs.size f i) e) (λ_ h=>CX a H s E e h) (λl h=>CX a H s E l h) m
theorem xl{a:am0}{n:Nat}{x:Str}(h:a.names.lookup x=some .cell):∃c,(aA5 n a.names []).lookup x=some c:=by
 have q:=PySem.W.cellsFrom_some a.names n [] (.inl h);exact X5.mp q
theorem AO{CX:CXT}{P:Q7}{w:U9}{K:u8}{Q:Str->Option M0}{base:Q9}{N ps:List Str}{l:Str}{g:am0}{f:O1}{M:M0}{A:S0}{j:List Env}{s T:N1}{H:Hp}{E:XK}{R:List M0}{C:List V}
  (S:ax N ps g) (Y:A.handled=none) (o:yA P w K Q base A j s H) (hl:C.length=ps.length) (r:aH C R)
  (x:InCallC s s.heap.objs.size (bindL (ay0 l g s.heap.objs.size f M).kindOf (ps.zip R) λ_=>none) (aA5 (s.heap.objs.size+1) g.names []) (bindC (ay0 l g s.heap.objs.size f M).kindOf (ps.zip R) λ_=>none) T) :
  Inv (wO CX P w K Q base N l g f M A j s H E) [] (cX N C) H T:=by
 have a0:ps.length<=N.length:=by have:=congrArg ad2 S.pre;rw[S2]at this;lia
 obtain⟨L,tk,rfl,U⟩:=x.done;have B:∀b:O1,b∉(wO CX P w K Q base N l g f M A j s H E).ex:=λb z=>absurd (show b∈([]:List O1)from z) (by simp);refine⟨⟨o.mod,S.kind,rfl,rfl,N2 _,λy z c L m=>?_,λy G=>?_,λy c _ h=>?_,λ_=>Y,S0.frames_deeper o.frames,.inr ⟨rfl,rfl⟩,λb z=>absurd z (B b),o.bs,o.bsz,λb _ _=>B b,λb z=>absurd z (B b),o.funs,o.frf⟩,
  rfl,o.bare,Un.kept U,⟨_,x.toInCall.ns,λi y v L m h3=>?_⟩,λy c h=>⟨_,x.cell y c h⟩,o.hok.fresh (N2 _),λy c h=>?_,λp J=>absurd (show p∈([]:List (O1×Obj))from J) (by simp),o.hok.kept U,?_⟩
 ·exact name_of_addr x.apart (aa5 L) (aa5 m)
 ·have G:g.names.lookup y=some .cell∨g.names.lookup y=some .free:=G;rcases G with G|G
  ·exact xl G
  ·exact absurd rfl (S.nofree _ (aa5 G))
 ·exact T8 (x.above y c (aa5 h))
 ·have O:i<C.length:=by
   unfold cX at m
   by_cases O:i<C.length
   ·exact O
   ·rw[ad9 (by simpa using O)]at m;rw[ak5]at m
    split at m<;>cases m
  have Z:C[i]?=some v:=by
   unfold cX at m;rw[V7 (by simpa using O),Q6]at m;cases e:C[i]? with
   |none=>rw[e]at m;cases m
   |some a=>rw[e]at m;cases m;rfl
  obtain⟨u,X,rv⟩:=r.get Z;have J:ps[i]?=some y:=by
   rw[<-S.pre,ag0 (by lia)];exact L
  have I:ps.Nodup:=by rw[<-S.pre];exact S.nd.sublist (List.take_sublist _ _)
  refine⟨u,rv,?_⟩;rcases S.par y (P3 J)with k|k
  ·exact .inl ⟨k,tD I J X k⟩
  ·obtain⟨c,e⟩:=xl (n:=s.heap.objs.size+1) k;refine .inr ⟨.inl k,c,e,?_⟩;have q:=x.cell y c e;rw[sT I J X (by show g.names.lookup y≠_;rw[k];decide)]at q;exact q
 ·exact o.hok.fresh (T8 (x.above y c (aa5 h)))
 ·unfold cX;show _=N.length;rw[O6,s0,List.length_replicate]
  lia
theorem KA{CX:CXT}{P:Q7}{w:U9}{K:u8}{R:Str->Option M0}{base:Q9}{k:Nat}{f:O1}{name g:Str}{i:Arguments}{j:List af0}{a:am0}{dV kV O pm h ct oc:M0}{an od:Option O1}
  {T:Array (Option M0)} {N ps:List Str} {sp:Sp} (lk:K.lookup f=some ⟨oc,od,.func (ak2 name g i j a dV kV O pm an h ct),T⟩) (X:av1 K h g=true) (S:ax N ps a)
  (len:∀m H Q E,sp m H Q E->m.length=ps.length)
  (B:∀ (A:S0) (c:List Env) (s:N1) (H:Hp) (m:List V) (Q:VK) (E:XK),cQ k (A.deeper (ay0 g a s.heap.objs.size f h)) → sp m H Q E →
   ∃t,PSs (wO CX P w K R base N g a f h A c s H E) j t/\t { nx:=λ_ p=>Q .non p,rt:=Q } (cX N m) H) :
  aV P w K R base CX (k+1) f (ak2 name g i j a dV kV O pm an h ct) ps sp:=by
 refine⟨len,λA c s H a0 us m Q E U G hb r L=>?_⟩;have hl:=len _ _ _ _ L;have KX:K.In s.heap:=G.mod.kin.keeps λb o e=>(G.bs b o e).1;have Y:s.heap.NoLimit:=G.mod.nolimit.keeps λb o e=>(G.bs b o e).1;have z:∀y∈ps.zip us,a.names.lookup y.1=some .local∨(a.names.lookup y.1=some .cell/\((aA5 (s.heap.objs.size+1) a.names []).lookup y.1).isSome=true):=λ⟨n,v⟩ hy=>by
  rcases S.par n (List.of_mem_zip hy).1 with q|q
  ·exact .inl q
  ·exact .inr ⟨q,PySem.W.cellsFrom_some _ _ _ (.inl q)⟩
 refine codeAny_call_function U.depth (KX _ _ lk) rfl S.co S.gen rfl (PySem.W.codeRec_of KX X) (hb _ _ _ _ ?_);refine wpAny_newFunctionEnv_cells S.kind z λa1 he s1 x=>?_;subst he;refine⟨Y.keeps x.toInCall.keep,codeAny_func ?_⟩;obtain⟨t,ht,hq⟩:=B A c s H m Q E (U.deeper _) L;have I:Inv (wO CX P w K R base N g a f h A c s H E) [] (cX N m) H s1:=AO S U.hd G hl r x;refine X9 (ht [] s1 (cX N m) H _ I hq) (λfl s' C=>?_) λe s' C=>C;have M:∀{l:St} {p:Hp} {v:V} {u:M0},Inv (wO CX P w K R base N g a f h A c s H E) [] l p s'->aQ v u->Q v p->CE c P w H s Q u s' :=
  λ{l p v u} J Z q=>⟨v,p,J.os,J.bare,J.base,J.hok,Z,q⟩
 cases fl with
 |ret u =>
  obtain⟨v,l,p,J,Z,q⟩:=C;exact M J Z q
 |next =>
  obtain⟨l,p,J,q⟩:=C;exact M (v:=V.non) (u:=X1) J rfl q
 |brk =>
  obtain⟨_,_,_,q⟩:=C;exact ae2 q
 |cont =>
  obtain⟨_,_,_,q⟩:=C;exact ae2 q
section
variable{X:Cx}{x:Str}{p y:Pos}{e:R6}{es:List R6}{t:TA}{id T:String}{r:List V->Hp->VK->Prop}
def tCB(r:List V->Hp->VK->Prop)(t:TA):TE:=λa H Q=>t a H λe c=>r e c Q
theorem vQ(n:dN X (.builtin id) r)(hg:Gl X x)(g:X.mg x=none)(o:ag4 x=some (.builtin id))(ha:PA X (e::es) t)(hn:x≠"__name__":=by decide)(hdb:(x==("__debug__":Str))=false:=by decide)
  (he:O5 (e::es) X.env=(false,af8 e X.env)::O5 es X.env:=by rfl) (hpl:(ad7 y (O5 es X.env)).any (·.1)=false:=by rfl):PE X (.Call (.Name x p) (e::es) [] y) (tCB r t):=by
 intro f s c H Q I h;refine ad1 (gn I hg g o ?_ hn hdb);exact PyProof.Rows.callWith_builtin1 (thn (ha y f s c H _ I h) λj q a=>a.el λm u l w i=>n f q c u m j Q l w i) he hpl
theorem Aq(n:dN X (.type T) r)(hg:Gl X x)(g:X.mg x=none)(o:ag4 x=some (.type T))(ha:PA X (e::es) t)(hn:x≠"__name__":=by decide)(hdb:(x==("__debug__":Str))=false:=by decide)
  (he:O5 (e::es) X.env=(false,af8 e X.env)::O5 es X.env:=by rfl) (hpl:(ad7 y (O5 es X.env)).any (·.1)=false:=by rfl):PE X (.Call (.Name x p) (e::es) [] y) (tCB r t):=by
 intro f s c H Q I h;refine ad1 (gn I hg g o ?_ hn hdb);exact X4 (thn (ha y f s c H _ I h) λj q a=>a.el λm u l w i=>n f q c u m j Q l w i) he hpl
end
end L2
namespace HT
open PySem PyProof.Rows
section
open PySem.SeqAt
open PySem.AutoSeq1 (wpAny_loadPart')
open PySem.MeetsSeq PySem.MeetsSeq2 PySem.MeetsSeq3
end
section
variable{prog:Q7}{w:U9}{A:S0}{E:M0->N1->Prop}{s:N1}
theorem cat_tup{t b:O1}{c ws:List M0}{Q:M0->N1->Prop}(H:aw8 s.heap t c.toArray)(C:aw8 s.heap b ws.toArray)(p:c≠[])
  (B:ws=[]->Q (.ref t) s) (G:ws≠[]->Q (.ref s.heap.objs.size) { s with heap:=s.heap.push { cls:=.type "tuple",data:=.seq (c++ws).toArray } })
  (hsz:c.length+ws.length<=N7):P6 (R4 prog w) A (ad8 .Add (.ref t) (.ref b)) Q E s:=by
 obtain⟨⟨cls,x,data,u⟩,l,o,n,m⟩:=id H;obtain⟨⟨q,h,data2,f⟩,a,g,z,i⟩:=id C;simp only at o m g i;subst o m g i;have e:c.toArray++ws.toArray=(c++ws).toArray:=by simp
 by_cases j:ws=[]
 ·exact concat_meets ⟨_,l,rfl⟩ ⟨_,a,rfl⟩ noFill_tuple_add seq_tuple_add PySem.F.slot_tuple_add PySem.F.entry_tuple_add (PySem.F.args_tuple_add_2 _ _)
   (tuple_addW1 t b c.toArray ws.toArray n z x h u f (by simpa using p) (by simp[j])) ⟨l,a,B j⟩
 ·refine concat_meets ⟨_,l,rfl⟩ ⟨_,a,rfl⟩ noFill_tuple_add seq_tuple_add PySem.F.slot_tuple_add PySem.F.entry_tuple_add (PySem.F.args_tuple_add_2 _ _)
   (tuple_addW2 t b c.toArray ws.toArray n z x h u f (by simpa using p) (by simpa using j) (by rw[O0,O0];exact hsz)) ⟨l,a,?_⟩
  rw[e];exact G j
noncomputable def sIx(n d:Nat):Option Int->Nat
 |none=>d
 |some v=>if v<0 then(v+(n:Int)).toNat else min v.toNat n
theorem sIx_none(n d:Nat):sIx n d none=d:=rfl
theorem sIx_nat(n d k:Nat):sIx n d (some (k:Int))=min k n:=by
 show(if(k:Int)<0 then((k:Int)+(n:Int)).toNat else min (k:Int).toNat n)=min k n;rw[if_neg (by lia),U2]
theorem IY(n d:Nat)(c:d<=n)(o:Option Int):sIx n d o<=n:=by
 cases o with
 |none=>exact c
 |some v =>
  show(if v<0 then(v+(n:Int)).toNat else min v.toNat n)<=n
  by_cases a:v<0
  ·rw[if_pos a];lia
  ·rw[if_neg a];exact Nat.min_le_right _ _
theorem yY(v:Int)(n d:Nat):(if v<0 then max (v+(n:Int)) 0 else min v (n:Int))=((sIx n d (some v):Nat):Int):=by
 show(if v<0 then max (v+(n:Int)) 0 else min v (n:Int))=(((if v<0 then(v+(n:Int)).toNat else min v.toNat n):Nat):Int)
 by_cases a:v<0
 ·simp only[if_pos a];lia
 ·simp only[if_neg a];lia
theorem xG(lo a:Option Int)(n:Nat):Q8.Slice.sliceAdjust lo a 1 (n:Int)=(((sIx n 0 lo:Nat):Int),((sIx n n a:Nat):Int)):=by
 have c:¬ ((1:Int)<0):=by decide
 unfold Q8.Slice.sliceAdjust;simp only[c,if_false];refine Prod.ext ?_ ?_
 ·cases lo with
  |none=>rfl
  |some v=>exact yY v n 0
 ·cases a with
  |none=>rfl
  |some v=>exact yY v n n
theorem yb(i j:Nat):ai8 (i:Int) (j:Int) 1=j-i:=by
 unfold ai8;have a:(1:Int) > 0:=by decide
 simp only[a,if_true,Int.ediv_one]
 split<;>lia
theorem qH{v:M0}{o:Option Int}{Q:Option Int->N1->Prop}(p:az1 v o)(h:Q o s):P6 (R4 prog w) A (Q8.Slice.slicePartIndex v) Q E s:=by
 cases p with
 |none=>exact slicePart_none h
 |int i t=>exact slicePart_int h
theorem g7{i:O1}{f g:M0}{lo a:Option Int}{n:Nat}{Q:Int×Int×Nat->N1->Prop}(hs:s.heap.IsSliceOf i f g .none)(j:az1 f lo)(l:az1 g a)
  (h:Q (((sIx n 0 lo:Nat):Int),1,sIx n n a-sIx n 0 lo) s):P6 (R4 prog w) A (Q8.Slice.sliceApplied (.ref i) (al5 (n:Int))) Q E s:=by
 obtain⟨os,e,m,c⟩:=id hs;unfold Q8.Slice.sliceApplied Q8.Slice.sliceFields;refine o0 (o0 (ai9 e c (x:=f) rfl (o0 (ai9 e c (x:=g) rfl (o0 (ai9 e c (x:=.none) rfl (M9 ?_)))))));refine o0 (slicePart_none ?_);show P6 _ _ (if((1:Int)==0)=true then _ else _) _ _ s;rw[if_neg (by decide)];refine o0 (qH j (o0 (qH l (o0 (M9 ?_)))));show P6 _ _ (match Q8.Slice.sliceAdjust lo a 1 (n:Int)with|(lo,a)=>al5 (lo,(1:Int),ai8 lo a 1)) _ _ s;rw[xG lo a n];show P6 _ _ (al5 (((sIx n 0 lo:Nat):Int),(1:Int),ai8 ((sIx n 0 lo:Nat):Int) ((sIx n n a:Nat):Int) 1)) _ _ s;rw[yb];exact M9 h
theorem C3(xs:Array M0)(i k:Nat):((Q0 k).filterMap λ(m:Nat)=>xs[((i:Int)+(m:Int)*1).toNat]?).toArray=((xs.toList.drop i).take k).toArray:=by
 have e:(λ(m:Nat)=>xs[((i:Int)+(m:Int)*1).toNat]?)=λm=>xs[i+m]?:=by
  funext m;have:((i:Int)+(m:Int)*1).toNat=i+m:=by lia
  rw[this]
 rw[e];have:=pick_run xs i k;rw[List.filterMap_map]at this;have a:((λx=>xs[x]?)∘λx=>i+x)=λm=>xs[i+m]?:=rfl;rw[a]at this;rw[this]
theorem getItem_tuple_cut{t j:O1}{items:Array M0}{n o:M0}{lo c:Option Int}{Q:M0->N1->Prop}(e:aw8 s.heap t items)(hs:s.heap.IsSliceOf j n o .none)(x:az1 n lo)(z:az1 o c)
  (u:¬ (sIx items.size 0 lo=0/\sIx items.size items.size c=items.size))
  (h:Q (.ref s.heap.objs.size) { s with heap:=s.heap.push { cls:=.type "tuple",data:=.seq ((items.toList.drop (sIx items.size 0 lo)).take (sIx items.size items.size c-sIx items.size 0 lo)).toArray } })
  (hsz:items.size<=N7):P6 (R4 prog w) A (av8 (.ref t) (.ref j)) Q E s:=by
 have a:sizeOk (.seq ((items.toList.drop (sIx items.size 0 lo)).take (sIx items.size items.size c-sIx items.size 0 lo)).toArray):=by
  show((items.toList.drop (sIx items.size 0 lo)).take (sIx items.size items.size c-sIx items.size 0 lo)).toArray.size<=N7;rw[O0,S2,al6,O8]
  lia
 have B:sIx items.size items.size c<=items.size:=IY _ _ (N2 _) c;obtain⟨os,l,f,p⟩:=id hs;have g:s.TypeIs (.ref j) "slice":=⟨os,l,f⟩;unfold av8
 try with_reducible refine W5 ?_
 first|refine o0 (M9 ?_)|skip
 refine o0 (wpAny_sequenceKey e.typeIs (by decide) ?_);refine o0 (V6 (name:=ab6 "__getitem__") e.typeIs X6
  (U3 X6 e.typeIs entry_tuple_getitem ?_ (args_tuple_getitem _ _)))
 show P6 _ _ (ah5 (.ref t) >>= _) _ _ s;refine o0 (tupleItemsOf_ e ?_);refine o0 (as3 g ?_);rw[if_pos (by decide)];refine o0 (g7 hs x z ?_);have i:¬ ((((sIx items.size 0 lo:Nat):Int)==0&&(1:Int)==1&&(sIx items.size items.size c-sIx items.size 0 lo)==items.size)=true):=by
  intro q;rw[V2,V2]at q;have G:((sIx items.size 0 lo:Nat):Int)=0:=eq_of_beq q.1.1;have C:sIx items.size items.size c-sIx items.size 0 lo=items.size:=eq_of_beq q.2;exact u ⟨by lia,by lia⟩
 show P6 _ _ (if(((sIx items.size 0 lo:Nat):Int)==0&&(1:Int)==1&&(sIx items.size items.size c-sIx items.size 0 lo)==items.size)=true then _ else _) _ _ s;rw[if_neg i,C3]
 first
  |exact o0 (m:=aa1 _) (S3 (M9 ⟨_,rfl,M9 h⟩) a)
  |exact o0 (m:=aa1 _) (S3 (o0 (M9 (M9 ⟨_,rfl,M9 h⟩))) a)
  |exact o0 (o0 (m:=aa1 _) (S3 (M9 (M9 ⟨_,rfl,M9 h⟩)) a))
  |exact o0 (o0 (m:=aa1 _) (S3 (M9 ⟨_,rfl,M9 h⟩) a))
end
end HT
namespace L2
open PySem PySem.Spec PyProof.Rows
abbrev TO:=St->Hp->(Option Int->Hp->Prop)->Prop
def PO(X:Cx)(e:Option R6)(t:TO):Prop :=
 ∀(f:List (O1×Obj)) (s:N1) (a:St) (H:Hp) (Q:Option Int->Hp->Prop),Inv X f a H s->t a H Q ->
  P6 (R4 X.prog X.w) X.A (evalPart e X.env) (λu g=>∃o c,Inv X f a c g/\az1 u o/\Q o c) X.xe s
def Ec:TO:=λ_ H Q=>Q none H
def LA(t:TE):TO:=λa H Q=>t a H λx c=>∃i,x=.int i/\Q (some i) c
section
variable{X:Cx}{e:R6}{te:TE}{G L:Option R6}{N Y:TO}{pos p2:Pos}
theorem FZ:PO X none Ec:=by
 intro c s a H Q I h;rw[evalPart_none];exact M9 ⟨none,H,I,.none,h⟩
theorem FQ(h:PE X e te):PO X (some e) (LA te):=by
 intro m s j H Q I g;rw[evalPart_some];refine thn (h m s j H _ I g) λu o a=>a.el λx l f c n=>?_;obtain⟨i,rfl,q⟩:=n;obtain⟨t,rfl⟩:=c;exact⟨some i,l,f,.int i t,q⟩
def SlR(X:Cx)(r:V->Option Int->Option Int->Hp->VK->Prop):Prop :=
 ∀(e:List (O1×Obj)) (s:N1) (c:St) (H:Hp) (x:V) (v vl vu:M0) (G L:Option Int) (a:O1) (Q:VK),Inv X e c H s->aQ x v->s.heap.IsSliceOf a vl vu .none->az1 vl G->az1 vu L->r x G L H Q ->
  ∃T id,typeLookup (.type T) "__getitem__"=al5 (some (.builtin id))/\s.TypeIs v T/\P6 (R4 X.prog X.w) X.A (av8 v (.ref a)) (EP X e c Q) X.xe s
theorem SlR.or{r c:V->Option Int->Option Int->Hp->VK->Prop}(h:SlR X r)(h':SlR X c):SlR X (λx G L H Q=>r x G L H Q∨c x G L H Q):=by
 intro e s a H x v vl vu G L sl Q I rx hs pl pu q;rcases q with q|q
 ·exact h e s a H x v vl vu G L sl Q I rx hs pl pu q
 ·exact h' e s a H x v vl vu G L sl Q I rx hs pl pu q
def tSl(r:V->Option Int->Option Int->Hp->VK->Prop)(te:TE)(N Y:TO):TE:=λa H Q=>te a H λx e=>N a e λl c=>Y a c λu f=>r x l u f Q
theorem DO{r:V->Option Int->Option Int->Hp->VK->Prop}(hr:SlR X r)(he:PE X e te)(A:PO X G N)(U:PO X L Y):PE X (.Subscript e (.Slice G L none p2) pos) (tSl r te N Y):=by
 intro f s g H Q I h;refine Subscript_ (thn (he f s g H _ I h) λv w m=>m.el λx J S P O=>?_);refine wpAny_Slice (thn (A f w g J _ S O) λi C ⟨l,z,R,Z,E⟩=>thn (U f C g z _ R E) λj a ⟨u,n,B,pu,p⟩=>?_);rw[evalPart_none];refine M9 ?_;have M:Inv X f g n { a with heap:=a.heap.push { cls:=.type "slice",data:=.fields #[i,j,.none] } }:=B.kept (t':=a.toks) λb ob q=>M7 _ q;obtain⟨T,id,hT,ht,o⟩:=hr f { a with heap:=a.heap.push { cls:=.type "slice",data:=.fields #[i,j,.none] } } g n x v i j l u a.heap.objs.size Q M P (Q9.IsSliceOf.new ..) Z pu p;show P6 (R4 X.prog X.w) X.A (subscriptTail e (.Slice G L none p2) v (.ref a.heap.objs.size)) (EP X f g Q) X.xe { a with heap:=a.heap.push { cls:=.type "slice",data:=.fields #[i,j,.none] } };exact tail_any (ops:=[.ref a.heap.objs.size,v]) ht hT o (by with_unfolding_all rfl)
def uT(xs:List V)(G L:Option Int):List V:=(xs.drop (HT.sIx xs.length 0 G)).take (HT.sIx xs.length xs.length L-HT.sIx xs.length 0 G)
theorem nW(xs:List V)(G L:Option Int):(uT xs G L).length<=xs.length:=by
 unfold uT;rw[S2,al6]
 lia
def LW(K:u8):V->Option Int->Option Int->Hp->VK->Prop:=λx G L H Q=>∃a c,x=.ref a/\SqT K H a c /\
 ¬ (HT.sIx c.length 0 G=0/\HT.sIx c.length c.length L=c.length)/\∀p,H p=none->Q (.ref p) (upd H p (.tup (uT c G L)))
theorem HJ:SlR X (LW X.K):=by
 intro p s n H x v vl vu G L sl Q I rx hs pl pu h;obtain⟨a,c,rfl,j,l,q⟩:=h;cases rx;obtain⟨f,r,g,i⟩:=I.tuple j;have e:f.toArray.size=c.length:=by rw[O0];exact r.length.symm
 refine⟨"tuple",_,X6.lookup,g.typeIs,?_⟩;refine HT.getItem_tuple_cut g hs pl pu (by rw[e];exact l) ?_ (by rw[e];exact i);rw[e];refine⟨.ref s.heap.objs.size,_,I.laid (t':=s.toks) (o:=.tup (uT c G L)) (λb m q=>M7 _ q) (N2 _) ?_,rfl,q _ (I.hok.fresh (N2 _))⟩;exact⟨N3 (nW c G L) i,_,(r.drop (HT.sIx c.length 0 G)).take (HT.sIx c.length c.length L-HT.sIx c.length 0 G),pR.new _ _⟩
def Kg(K:u8):R2:=λx y H Q=>∃a b e c,x=.ref a/\y=.ref b/\SqT K H a e/\SqT K H b c/\e≠[]/\e.length+c.length<=N7 /\
 (c=[]->Q (.ref a) H)/\(c≠[]->∀p,H p=none->Q (.ref p) (upd H p (.tup (e++c))))
theorem aH.nil_iff{xs:List V}{a:List M0}(r:aH xs a):a=[]↔xs=[]:=by
 cases r with
 |nil=>simp
 |cons _ _=>simp
theorem FS:OpR X (ad8 .Add) (Kg X.K):=by
 intro J s G H x y v u Q I rx ry h;obtain⟨a,b,B,n,rfl,rfl,l,m,A,g,i,p⟩:=h;cases rx;cases ry;obtain⟨j,e,C,_⟩:=I.tuple l;obtain⟨f,c,p2,_⟩:=I.tuple m;refine HT.cat_tup C p2 (λz=>A (e.nil_iff.mp z)) (λz=>⟨.ref a,H,I,rfl,i (c.nil_iff.mp z)⟩) (λz=>?_) (by rw[<-e.length,<-c.length];exact g);refine⟨.ref s.heap.objs.size,_,I.laid (t':=s.toks) (o:=.tup (B++n)) (λb E q=>M7 _ q) (N2 _) ?_,rfl,p (λw=>z (c.nil_iff.mpr w)) _ (I.hok.fresh (N2 _))⟩;exact⟨by rw[O6];exact g,_,e.append c,pR.new _ _⟩
end
noncomputable def ixN(n:Nat)(i:Int):Option Nat:=if 0<=i then(if i<n then some i.toNat else none)else if -(n:Int)<=i then some (i+n).toNat else none
def atI{a:Type}(xs:List a)(i:Int):Option a:=(ixN xs.length i).bind λj=>xs[j]?
theorem zw{n:Nat}{i:Int}{j:Nat}(h:ixN n i=some j):seqIndex? i n=some j/\j<n/\-(n:Int)<=i/\i<n:=by
 unfold ixN at h
 by_cases c:0<=i
 ·rw[if_pos c]at h
  by_cases a:i<n
  ·rw[if_pos a]at h;have e:i.toNat=j:=T4 h;exact⟨by rw[seqIndex_of c a,e],by lia,by lia,a⟩
  ·rw[if_neg a]at h;cases h
 ·rw[if_neg c]at h
  by_cases a:-(n:Int)<=i
  ·rw[if_pos a]at h;have e:(i+n).toNat=j:=T4 h;exact⟨by rw[seqIndex_neg (by lia) a,e],by lia,a,by lia⟩
  ·rw[if_neg a]at h;cases h
theorem vz{a:Type}{xs:List a}{i:Int}{v:a}(h:atI xs i=some v):∃j,seqIndex? i xs.length=some j/\xs[j]?=some v/\j<xs.length/\-(xs.length:Int)<=i/\i<xs.length:=by
 unfold atI at h;cases e:ixN xs.length i with
 |none=>rw[e]at h;cases h
 |some j =>
  rw[e]at h;obtain⟨f,l,c,g⟩:=zw e;exact⟨j,f,h,l,c,g⟩
theorem cf{a:Type}{xs:List a}{j:Nat}{v:a}(h:xs[j]?=some v):atI xs (j:Int)=some v:=by
 have c:j<xs.length:=(N4.mp h).1;have e:ixN xs.length (j:Int)=some j:=by
  unfold ixN;rw[if_pos (by lia),if_pos (by lia)];simp
 unfold atI;rw[e];exact h
def zg(b:R6):Prop:=∀o i,ay5 b false o i=operate [o,i] (av8 o i)
def IxR(X:Cx)(r:R2):Prop :=
 ∀(a slice:R6) (e:List (O1×Obj)) (s:N1) (c:St) (H:Hp) (x y:V) (v u:M0) (Q:VK),Inv X e c H s->aQ x v->aQ y u->r x y H Q ->
  ay5 slice false v u=operate [v,u] (av8 v u)->P6 (R4 X.prog X.w) X.A (subscriptTail a slice v u) (EP X e c Q) X.xe s
def MtR(X:Cx)(id:String)(r:V->List V->Hp->VK->Prop):Prop :=
 ∀(c:List (O1×Obj)) (s:N1) (a:St) (H:Hp) (x:V) (e:List V) (v:M0) (f:List M0) (Q:VK),Inv X c a H s->aQ x v->aH e f->r x e H Q ->
  P6 (R4 X.prog X.w) X.A (call (.builtin id) (v::f)) (EP X c a Q) X.xe s
section
variable{X:Cx}{a b:R6}{Y tb:TE}{N:Pos}
theorem J7{r:R2}(hr:IxR X r)(ha:PE X a Y)(c:PE X b tb)(hs:zg b):PE X (.Subscript a b N) (tOp r Y tb):=by
 intro j s i H Q I h;exact Subscript_ (Ho ha c I h λv u g x y e m f l q=>hr a b j g i e x y v u Q m f l q (hs _ _))
def Me(K:u8):R2:=λx y H Q=>∃p a i v,x=.ref p/\y=.int i/\SqL K H p a/\atI a i=some v/\Q v H
def Mr(K:u8):R2:=λx y H Q=>∃p a i v,x=.ref p/\y=.int i/\SqT K H p a/\atI a i=some v/\Q v H
def Ma:R2:=λx y H Q=>∃z i c,x=.str z/\y=.int i/\z.length<=N7/\atI z.cps.toList i=some c/\Q (.str ⟨#[c]⟩) H
theorem zV:IxR X (Me X.K):=by
 intro f slice o s n H x y v u Q I rx ry h hs;obtain⟨p,S,i,z,rfl,rfl,C,G,q⟩:=h;cases rx;obtain⟨t,rfl⟩:=ry;obtain⟨e,r,l,P⟩:=I.list C;obtain⟨j,c,L,O,E,N⟩:=vz G;obtain⟨w,A,m⟩:=r.get L;have J:=r.length;have R:=m5;have a:EP X o n Q w s:=⟨z,H,I,m,q⟩
 by_cases B:0<=i
 ·have g:i.toNat=j:=by
   rw[seqIndex_of B N]at c;exact T4 c
  exact item_listR l.isList B (by lia) (by rw[g];simpa using A) a hs
 ·have g:(i+(e.toArray.size:Int)).toNat=j:=by
   rw[seqIndex_neg (by lia) E]at c;rw[O0,<-J];exact T4 c
  exact subscriptTail_builtinR (x:=w) l.isList.typeIs slot_list_getitem.lookup
   (wpAny_getItem_list_neg (Q:=λr M=>r=w/\EP X o n Q r M) l.isList (by lia) (by rw[O0]<;>lia) (by lia) (by rw[g];simpa using A) ⟨rfl,a⟩) hs
theorem Hd:IxR X (Mr X.K):=by
 intro a slice g s f H x y v u Q I rx ry h hs;obtain⟨p,P,i,z,rfl,rfl,o,A,q⟩:=h;cases rx;obtain⟨t,rfl⟩:=ry;obtain⟨n,r,l,M⟩:=I.tuple o;obtain⟨j,m,C,L,J,N⟩:=vz A;obtain⟨w,E,e⟩:=r.get C;have B:=r.length;have O:=m5;have c:EP X g f Q w s:=⟨z,H,I,e,q⟩;exact subscriptTail_builtinR (x:=w) l.typeIs slot_tuple_getitem.lookup
  (getItem_tuple (j:=j) (Q:=λr G=>r=w/\EP X g f Q r G) l (by lia) (by lia) (by rw[O0,<-B];exact m) (by simpa using E) ⟨rfl,c⟩) hs
theorem Hn:IxR X Ma:=by
 intro a slice G s A H x y v u Q I rx ry h hs;obtain⟨z,i,c,rfl,rfl,C,l,q⟩:=h;obtain⟨t,rfl⟩:=rx;obtain⟨w,rfl⟩:=ry;obtain⟨j,e,n,B,f,p⟩:=vz l;have m:z.cps.toList.length=z.length:=by simp[Str.length]
 rw[m]at e f p;have E:=m5;exact tail_any (typeIs_str s z t) slot_str_getitem.lookup (getItem_str (c:=c) (by
  have o:decide (i < -(2 ^ 63:Int))=false:=decide_eq_false (by lia);have g:decide (i>=2 ^ 63)=false:=decide_eq_false (by lia);rw[o,g,Bool.or_false]) (by rw[e];simpa using n) ⟨.str ⟨#[c]⟩,H,I.tok _,⟨_,rfl⟩,q⟩) hs
theorem xK(a:List M0)(n j:Nat)(u:M0):aj5 (·.setIfInBounds j u) { cls:=.type "list",data:=.seq a.toArray n }={ cls:=.type "list",data:=.seq (a.set j u).toArray n }:=by
 simp[aj5]
theorem Inv.lst{c:List (O1×Obj)}{σ:St}{H:Hp}{s:N1}{p:O1}{xs:List V}(I:Inv X c σ H s)(h:H p=some (.lst xs)):
  ∃(a:List M0) (n:Nat),aH xs a/\s.heap.get? p=some { cls:=.type "list",data:=.seq a.toArray n }/\xs.length<=N7:=by
 obtain⟨z,a,n,r,e⟩:=I.hok p _ h;exact⟨a,n,r,e,z⟩
theorem Inv.lstUpd{j:List (O1×Obj)}{σ:St}{H:Hp}{s:N1}{p:O1}{xs c:List V}{a its':List M0}{n g:Nat}{f:Obj->Obj}(I:Inv X j σ H s)(h:H p=some (.lst xs))
  (m:s.heap.get? p=some { cls:=.type "list",data:=.seq a.toArray n }) (i:f { cls:=.type "list",data:=.seq a.toArray n }={ cls:=.type "list",data:=.seq its'.toArray g }) (r:aH c its') (o:c.length<=N7) (t:Nat) :
  Inv X j σ (upd H p (.lst c)) { s with heap:=s.heap.update p f,toks:=t }:=by
 have e:(s.heap.update p f).get? p=some { cls:=.type "list",data:=.seq its'.toArray g }:=by
  rw[W6 f m (by rw[i]<;>rfl),i]
 refine I.write (x:=p) (e:=p) (by rw[h];trivial) (.inl rfl) (λb u l q=>(am2 _ _ (aa3 l)).trans q) ⟨_,e⟩ ?_;exact⟨o,its',g,r,e⟩
def Ki:V->V->V->Hp->(Hp->Prop)->Prop:=λo i v H Q=>∃p a k j,o=.ref p/\i=.int k/\H p=some (.lst a)/\ixN a.length k=some j/\Q (upd H p (.lst (a.set j v)))
theorem CC:KW X Ki:=by
 intro E s C H o i v ov iv u Q I ro ri rv h;obtain⟨p,J,k,j,rfl,rfl,x,B,q⟩:=h;cases ro;obtain⟨t,rfl⟩:=ri;obtain⟨a,n,r,e,G⟩:=I.lst x;obtain⟨c,L,A,m⟩:=zw B;have f:=r.length;have M:=m5;have l:Inv X E C (upd H p (.lst (J.set j v))) { s with heap:=s.heap.update p (aj5 (·.setIfInBounds j u)) } :=
  I.lstUpd x e (xK a n j u) (r.set rv j) (by rw[List.length_set];exact G) s.toks
 by_cases z:0<=k
 ·have g:k.toNat=j:=by
   rw[seqIndex_of z m]at c;exact T4 c
  exact PySem.W.ki_setAt e z (by lia) (by rw[O0,<-f];exact m) (by rw[g];exact⟨_,l,q⟩)
 ·have g:(k+(a.toArray.size:Int)).toNat=j:=by
   rw[seqIndex_neg (by lia) A]at c;rw[O0,<-f];exact T4 c
  exact PySem.W.ki_setBack e (by lia) (by rw[O0,<-f];exact A) (by lia) (by rw[g];exact⟨_,l,q⟩)
theorem vq(lo a:Option Int)(n:Nat):(ar2 lo a none n).1=((HT.sIx n 0 lo:Nat):Int)/\(ar2 lo a none n).2.1=((HT.sIx n n a:Nat):Int)/\(ar2 lo a none n).2.2=1:=by
 refine⟨?_,?_,rfl⟩
 ·cases lo with
  |none=>simp[ar2,HT.sIx]
  |some i =>
   simp only[ar2,HT.sIx,Option.getD_none,show(1:Int) > 0 by decide,if_true]
   by_cases h:i<0
   ·simp only[h,if_true]<;>lia
   ·simp only[h,if_false]<;>lia
 ·cases a with
  |none=>simp[ar2,HT.sIx]
  |some i =>
   simp only[ar2,HT.sIx,Option.getD_none,show(1:Int) > 0 by decide,if_true]
   by_cases h:i<0
   ·simp only[h,if_true]<;>lia
   ·simp only[h,if_false]<;>lia
theorem sd(a:List M0)(lo c:Option Int):slicePick a.toArray lo c none=((a.drop (HT.sIx a.length 0 lo)).take (HT.sIx a.length a.length c-HT.sIx a.length 0 lo)).toArray:=by
 obtain⟨f,g,e⟩:=vq lo c a.toArray.size;unfold slicePick;rw[f,g,e];simp only[sliceRange_one,pick_run,O0]<;>rfl
def Mc(K:u8):V->Option Int->Option Int->Hp->VK->Prop:=λx lo e H Q=>∃a c,x=.ref a/\SqL K H a c/\∀p,H p=none->Q (.ref p) (upd H p (.lst (uT c lo e)))
theorem Ei:SlR X (Mc X.K):=by
 intro n s m H x v vl vu lo hi sl Q I rx hs pl pu h;obtain⟨a,c,rfl,i,q⟩:=h;cases rx;obtain⟨j,r,e,g⟩:=I.list i;have f:=r.length;refine⟨"list",_,slot_list_getitem.lookup,e.isList.typeIs,?_⟩;refine wpAny_getItem_list_slice e.isList hs pl pu .none (by simp) ?_ (by rw[O0]<;>lia);rw[sd,<-f];refine⟨.ref s.heap.objs.size,_,I.laid (t':=s.toks) (o:=.lst (uT c lo hi)) (λb l q=>M7 _ q) (N2 _) ?_,rfl,q _ (I.hok.fresh (N2 _))⟩;exact⟨N3 (nW c lo hi) g,_,0,(r.drop (HT.sIx c.length 0 lo)).take (HT.sIx c.length c.length hi-HT.sIx c.length 0 lo),N6 _ rfl⟩
noncomputable def jw:V->Bool
 |.non=>true
 |.bl _=>true
 |.int _=>true
 |.str _=>true
 |_=>false
noncomputable def eqV:V->V->Bool
 |.non,.non=>true
 |.bl a,.bl b=>a==b
 |.bl a,.int b=>(if a then 1 else 0)==b
 |.int a,.bl b=>a==(if b then 1 else 0)
 |.int a,.int b=>a==b
 |.str a,.str b=>a==b
 |_,_=>false
theorem Hi{A:S0}{s:N1}{y x:V}{u v:M0}(g:aQ y u)(c:aQ x v)(h:jw y=true)(f:jw x=true):ab2 A s u v (eqV y x):=by
 cases y with
 |non =>
  cases g;cases x with
  |non=>cases c;exact ab2.same _
  |bl b=>cases c;exact ab2.none_bool b
  |int b=>obtain⟨t,rfl⟩:=c;exact ab2.none_int b t
  |str b=>obtain⟨t,rfl⟩:=c;exact ab2.none_str b t
  |_=>exact absurd (show false=true from f) V9
 |bl a =>
  cases g;cases x with
  |non=>cases c;exact ab2.bool_none a
  |bl b=>cases c;exact ab2.bool_bool a b
  |int b=>obtain⟨t,rfl⟩:=c;exact ab2.bool_int a b t
  |str b=>obtain⟨t,rfl⟩:=c;exact ab2.bool_str a b t
  |_=>exact absurd (show false=true from f) V9
 |int a =>
  obtain⟨e,rfl⟩:=g;cases x with
  |non=>cases c;exact ab2.int_none a e
  |bl b=>cases c;exact ab2.int_bool a e b
  |int b=>obtain⟨t,rfl⟩:=c;exact ab2.int_int a e b t
  |str b=>obtain⟨t,rfl⟩:=c;exact ab2.int_str a e b t
  |_=>exact absurd (show false=true from f) V9
 |str a =>
  obtain⟨e,rfl⟩:=g;cases x with
  |non=>cases c;exact ab2.str_none a e
  |bl b=>cases c;exact ab2.str_bool a e b
  |int b=>obtain⟨t,rfl⟩:=c;exact ab2.str_int a e b t
  |str b=>obtain⟨t,rfl⟩:=c;exact ab2.str_str a e b t
  |_=>exact absurd (show false=true from f) V9
 |_=>exact absurd (show false=true from h) V9
def eqU(x:V)(u:M0):Bool:=match u with
 |.none=>eqV .non x
 |.bool b=>eqV (.bl b) x
 |.int i _=>eqV (.int i) x
 |.str z _=>eqV (.str z) x
 |_=>false
theorem DU{x y:V}{u:M0}(r:aQ y u)(f:jw y=true):eqU x u=eqV y x:=by
 cases y with
 |non=>cases r;rfl
 |bl b=>cases r;rfl
 |int i=>obtain⟨t,rfl⟩:=r;rfl
 |str z=>obtain⟨t,rfl⟩:=r;rfl
 |_=>exact absurd (show false=true from f) V9
theorem mj{x:V}:∀{xs:List V}{a:List M0},aH xs a->xs.all jw=true->a.any (eqU x)=xs.any λy=>eqV y x
 |_,_,.nil,_=>rfl
 |y::xs,u::a,.cons r t,f=>by
  rw[ap8,V2]at f;rw[ad3,ad3,DU r f.1,mj t f.2]
theorem jZ{A:S0}{s:N1}{x:V}{v:M0}(e:aQ x v)(g:jw x=true):∀{xs:List V}{c:List M0},aH xs c->xs.all jw=true->∀u∈c,ab2 A s u v (eqU x u)
 |_,_,.nil,_=>λu a=>by cases a
 |y::xs,u::c,.cons r t,f=>λh a=>by
  rw[ap8,V2]at f;rcases O9.mp a with rfl|a
  ·rw[DU r f.1];exact Hi r e f.1 g
  ·exact jZ e g t f.2 h a
def inV(x:V)(xs:List V):Bool:=xs.any λy=>eqV y x
def rIn(K:u8)(c:Bool):R2:=λx y H Q=>∃p a,y=.ref p/\(SqL K H p a∨SqT K H p a)/\jw x=true/\a.all jw=true/\Q (.bl (if c then !inV x a else inV x a)) H
theorem AK:OpR X (V4 .In) (rIn X.K false):=by
 intro l s j H x y v u Q I rx ry h;obtain⟨p,m,rfl,c,g,fs,q⟩:=h;cases ry;rcases c with c|c
 ·obtain⟨a,r,f,i⟩:=I.list c;refine SeqAt.in_listAt (eqU x) f.isList (λw e=>jZ rx g r fs w (by simpa using e)) ⟨.bl _,H,I,rfl,?_⟩;rw[show a.toArray.any (eqU x)=a.any (eqU x)by simp,mj r fs];exact q
 ·obtain⟨a,r,f,i⟩:=I.tuple c;refine SeqAt.in_tupleAt (eqU x) f (λw e=>jZ rx g r fs w (by simpa using e)) ⟨.bl _,H,I,rfl,?_⟩;rw[show a.toArray.any (eqU x)=a.any (eqU x)by simp,mj r fs];exact q
theorem ug:OpR X (V4 .NotIn) (rIn X.K true):=by
 intro l s j H x y v u Q I rx ry h;obtain⟨p,m,rfl,c,g,fs,q⟩:=h;cases ry;rcases c with c|c
 ·obtain⟨a,r,f,i⟩:=I.list c;refine SeqAt.notIn_listAt (eqU x) f.isList (λw e=>jZ rx g r fs w (by simpa using e)) ⟨.bl _,H,I,rfl,?_⟩;rw[show a.toArray.any (eqU x)=a.any (eqU x)by simp,mj r fs];exact q
 ·obtain⟨a,r,f,i⟩:=I.tuple c;refine SeqAt.notIn_tupleAt (eqU x) f (λw e=>jZ rx g r fs w (by simpa using e)) ⟨.bl _,H,I,rfl,?_⟩;rw[show a.toArray.any (eqU x)=a.any (eqU x)by simp,mj r fs];exact q
theorem vv:dN X (.builtin "len") (λxs H Q=>∃p a,xs=[.ref p]/\(SqL X.K H p a∨SqT X.K H p a)/\Q (.int a.length) H):=by
 intro w s n H xs m Q I r h;obtain⟨p,a,rfl,c,q⟩:=h;obtain⟨u,rfl,j⟩:=oa r;cases j;have o:=m5;rcases c with c|c
 ·obtain⟨f,i,g,l⟩:=I.list c;have e:=i.length;exact Calls.call_len_list g.isList (by simp only[O0]<;>lia) ⟨.int a.length,H,I.tok _,⟨s.toks+1,by rw[O0,e]⟩,q⟩
 ·obtain⟨f,i,g,l⟩:=I.tuple c;have e:=i.length;exact len_tuple g (by simp only[O0]<;>lia) ⟨.int a.length,H,I.tok _,⟨s.toks+1,by rw[O0,e]⟩,q⟩
theorem uR:dN X (.builtin "len") (λxs H Q=>∃z,xs=[.str z]/\z.length<=N7/\Q (.int z.length) H):=by
 intro f s c H xs e Q I r h;obtain⟨z,rfl,g,q⟩:=h;obtain⟨u,rfl,t,rfl⟩:=oa r;have a:=m5;exact len_str (by lia) ⟨.int z.length,H,I.tok _,⟨_,rfl⟩,q⟩
theorem dN.or{f:M0}{r a:List V->Hp->VK->Prop}(h:dN X f r)(h':dN X f a):dN X f (λxs H Q=>r xs H Q∨a xs H Q):=by
 intro g s e H xs c Q I rs q;rcases q with q|q
 ·exact h g s e H xs c Q I rs q
 ·exact h' g s e H xs c Q I rs q
theorem uU:dN X (.type "list") (λxs H Q=>∃p g,xs=[.ref p]/\(SqL X.K H p g∨SqT X.K H p g)/\∀l,H l=none->Q (.ref l) (upd H l (.lst g))):=by
 intro M s L H xs N Q I r h;obtain⟨p,g,rfl,j,q⟩:=h;obtain⟨u,rfl,J⟩:=oa r;cases J;have m:∀(a:List M0),aH g a->g.length<=N7->∀(c:Q9) (i:Nat),(∀b E,s.heap.get? b=some E->c.get? b=some E) ->
   c.get? s.heap.objs.size=some { cls:=.type "list",dict:=none,data:=.seq a.toArray i,slots:=#[] }->EP X M L Q (.ref s.heap.objs.size) { s with heap:=c }:=λa f w c i kp e =>
  ⟨.ref s.heap.objs.size,_,I.laid (t':=s.toks) kp (N2 _) (show cu X.prog X.w _ c _ (.lst g)from⟨w,a,i,f,e⟩),rfl,q _ (I.hok.fresh (N2 _))⟩
 rcases j with j|j
 ·obtain⟨a,f,A,w⟩:=I.list j;have G:=f.length;obtain⟨o,z,B,n,x⟩:=A.isList;exact call_list_seq p (.inl rfl) z B x (λc i kp e=>m a f w c i kp e) (by simp only[O0]<;>lia)
 ·obtain⟨a,f,A,w⟩:=I.tuple j;have G:=f.length;obtain⟨o,z,B,n,x⟩:=A;exact call_list_seq p (.inr rfl) z B x (λc i kp e=>m a f w c i kp e) (by simp only[O0]<;>lia)
theorem sf:dN X (.type "tuple") (λxs H Q=>∃p c,xs=[.ref p]/\((SqL X.K H p c/\∀l,H l=none->Q (.ref l) (upd H l (.tup c)))∨(SqT X.K H p c/\Q (.ref p) H))):=by
 intro z s w H xs E Q I r h;obtain⟨p,c,rfl,h⟩:=h;obtain⟨u,rfl,A⟩:=oa r;cases A;rcases h with⟨i,q⟩|⟨i,q⟩
 ·obtain⟨a,m,j,x⟩:=I.list i;have C:=m.length;refine call_tuple_list j.isList (λg kp=>?_) (by simp only[O0]<;>lia);have n:Inv X z w H { s with heap:=g }:=I.kept (t':=s.toks) kp;have B:Inv X z w (upd H g.objs.size (.tup c)) { s with heap:=g.push { cls:=.type "tuple",data:=.seq a.toArray } } :=
   n.laid (t':=s.toks) (λb o e=>M7 _ e) (N2 _) (show cu X.prog X.w _ _ _ (.tup c)from⟨x,a,m,pR.new _ _⟩)
  exact⟨.ref g.objs.size,_,B,rfl,q _ (n.hok.fresh (N2 _))⟩
 ·obtain⟨a,m,j,x⟩:=I.tuple i;exact call_tuple_same j ⟨.ref p,H,I,rfl,q⟩
def tyV(K:u8)(T:String)(x:V)(H:Hp):Prop:=match x with
 |.str _=>T="str"
 |.int _=>T="int"
 | .ref p => (T = "list" ∧ ∃ c,SqL K H p c) ∨ (T = "tuple" ∧ ∃ o,K.lookup p = some o ∧ o.cls = .type "tuple" ∧ o.dict = none) ∨
   (T="dict"/\((∃a,H p=some (.dK a))∨∃a,H p=some (.dT a)))∨(T="set"/\∃S n,H p=some (.set S n))
 |_=>False
theorem HX{A:List (O1×Obj)}{σ:St}{H:Hp}{s:N1}{T:String}{x:V}{v:M0}(I:Inv X A σ H s)(r:aQ x v)(ty:tyV X.K T x H):
  s.TypeIs v T/\∀a,v=.ref a->∃ob,s.heap.get? a=some ob/\ob.dict=none:=by
 cases x with
 |str z =>
  obtain⟨t,rfl⟩:=r;cases(show T="str" from ty);exact⟨typeIs_str s z t,λ_ e=>nomatch e⟩
 |int i =>
  obtain⟨t,rfl⟩:=r;cases(show T="int" from ty);exact⟨ax9 s i t,λ_ e=>nomatch e⟩
 |ref p =>
  cases r;rcases ty with⟨rfl,B,u⟩|⟨rfl,o,f,w,j⟩|⟨rfl,f⟩|⟨rfl,S,n,f⟩
  ·obtain⟨q,_,m,_⟩:=I.list u;refine⟨m.isList.typeIs,λa e=>?_⟩;cases e;obtain⟨o,n,e,c,j,_⟩:=m;exact⟨o,e,j⟩
  ·refine⟨⟨o,I.kIn p o f,w⟩,λa e=>?_⟩;cases e;exact⟨o,I.kIn _ o f,j⟩
  ·have z:∃o,s.heap.get? p=some o/\o.ExactDict:=by
    rcases f with⟨h,f⟩|⟨h,f⟩
    ·obtain⟨_,_,_,_,o,_,_,e,g,_⟩:=I.hok p _ f;exact⟨o,e,g⟩
    ·obtain⟨_,_,_,_,o,_,_,e,g,_⟩:=I.hok p _ f;exact⟨o,e,g⟩
   obtain⟨o,e,g⟩:=z;refine⟨⟨o,e,g.1⟩,λa l=>?_⟩;cases l;exact⟨o,e,g.2.1⟩
  ·obtain⟨o,_,_,_,e,g,_⟩:=I.hok p _ f;refine⟨⟨o,e,g.1⟩,λa l=>?_⟩;cases l;exact⟨o,e,g.2.1⟩
 |_=>exact ae2 ty
def tBM(K:u8)(T:String)(r:V->List V->Hp->VK->Prop)(L:TE)(t:TA):TE:=λa H Q=>L a H λx c=>tyV K T x c/\t a c λf e=>r x f e Q
variable{o e:R6}{es:List R6}{L:TE}{t:TA}{name:Str}{cS G:Pos}{T id:String}{r:V->List V->Hp->VK->Prop}
theorem Ds(N:PlainAttrs T)(slot:Slot T name id)(c:typeOf (.builtin id)=al5 (.type "method_descriptor"))(m:MtR X id r)(z:PE X o L)(ha:PA X (e::es) t)
  (C:ac0 o name X.env (af8 o X.env)=af8 o X.env:=by rfl)
  (q:((ad7 G (O5 (e :: es) X.env)).all (λx => !x.1) && (az2 G (at9 [] X.env)).all (λx => x.1.isSome)
  &&decide ((e::es).length+([]:List au0).length+(if([]:List au0).isEmpty then 0 else 1)<30))=true:=by rfl)
  (B:(cS.endLine==G.line)=true:=by rfl) (hs:O5 (e::es) X.env=(false,af8 e X.env)::O5 es X.env:=by rfl) (w:(ad7 G (O5 es X.env)).any (·.1)=false:=by rfl) :
  PE X (.Call (.Attribute o name cS) (e::es) [] G) (tBM X.K T r L t):=by
 intro g s f H Q I h;refine wpAny_Call_method_late C q B rfl (thn (z g s f H _ I h) λv E ⟨x,S,i,l,ty,n⟩=>?_);obtain⟨u,M⟩:=HX i l ty;refine⟨T,id,N,slot,c,u,M,?_⟩;have j:=ha G g E f S _ i n;rw[hs]at j ⊢;refine am3 (by show(false || (ad7 G (O5 es X.env)).any (·.1))=false;rw[w]<;>rfl) (Calls.evalArgs_plain ?_);exact thn j λp O a=>a.el λA J U P R=>m g O f J x A v p Q U l P R
end
def MtM(X:Cx)(id:String)(r:V->List V->Hp->VK->Prop):Prop :=
 ∀(c:List (O1×Obj)) (s:N1) (a:St) (H:Hp) (x:V) (e:List V) (v:M0) (f:List M0) (Q:VK),Inv X c a H s->aQ x v->aH e f->r x e H Q ->
  P6 (R4 X.prog X.w) X.A (call (.builtin id) (v::f)) (EP X c a Q) X.xe s
theorem aH.un{x:V}{xs:List V}{c:List M0}(h:aH (x::xs) c):∃u a,c=u::a/\aQ x u/\aH xs a:=by
 cases h with
 |cons r t=>exact⟨_,_,rfl,r,t⟩
theorem aH.one{x:V}{a:List M0}(h:aH [x] a):∃u,a=[u]/\aQ x u:=by
 obtain⟨u,c,rfl,r,t⟩:=h.un;cases t;exact⟨u,rfl,r⟩
theorem aH.two{x y:V}{a:List M0}(h:aH [x,y] a):∃u v,a=[u,v]/\aQ x u/\aQ y v:=by
 obtain⟨u,c,rfl,r,t⟩:=h.un;obtain⟨v,rfl,q⟩:=t.one;exact⟨u,v,rfl,r,q⟩
theorem aH.rep{xs:List V}{a:List M0}(h:aH xs a):∀k:Nat,aH (R7 k xs).flatten (R7 k a).flatten
 |0=>.nil
 |k+1=>by
  rw[ae4,ae4,aj6,aj6];exact aH.append h (aH.rep h k)
theorem m6(c:List M0):∀(k:Nat) (a:List M0),
  az7 (λf g=>f++g) a.toArray (R7 k c.toArray)=(a++(R7 k c).flatten).toArray
 |0,a=>by simp
 |k+1,a=>by
  have e:a.toArray++c.toArray=(a++c).toArray:=by simp
  have h:(a++c)++(R7 k c).flatten=a++(R7 (k+1) c).flatten:=by
   rw[ae4,aj6,aj7]
  rw[<-h,<-m6 c k (a++c),<-e,ae4,aa6]
section
variable{X:Cx}{y:List (O1×Obj)}{σ:St}{H:Hp}{s:N1}{l b:O1}{xs G L:List V}
theorem Inv.lset{a its':List M0}{n:Nat}{f:Array M0->Array M0}{t':Nat}(I:Inv X y σ H s)(c:H l=some (.lst xs))
  (e:s.heap.get? l=some { cls:=.type "list",data:=.seq a.toArray n }) (j:f a.toArray=its'.toArray) (m:aH G its') (h:G.length<=N7) :
  Inv X y σ (upd H l (.lst G)) { s with heap:=s.heap.update l (aj5 f),toks:=t' }:=by
 have q:=PySem.IsL.update e f;rw[j]at q;refine I.write (x:=l) (e:=l) (by rw[c];exact trivial) (.inl rfl) (λo u g i=>(am2 s.heap (aj5 f) (aa3 g)).trans i) ⟨_,q⟩ ?_;exact⟨h,its',_,m,q⟩
theorem Inv.lnew{a:List M0}{t':Nat}(I:Inv X y σ H s)(e:aH G a)(c:G.length<=N7):
  Inv X y σ (upd H s.heap.objs.size (.lst G)) { s with heap:=s.heap.push { cls:=.type "list",data:=.seq a.toArray },toks:=t' } :=
 I.laid (λ_ _ q=>M7 _ q) (N2 _) ⟨c,a,0,e,N6 _ rfl⟩
theorem Inv.fresh(I:Inv X y σ H s):H s.heap.objs.size=none:=I.hok.fresh (N2 _)
theorem Inv.lstM(I:Inv X y σ H s)(c:H l=some (.lst xs)):xs.length<=N7/\∃(a:List M0) (n:Nat),aH xs a/\xs.length=a.length/\s.heap.get? l=some { cls:=.type "list",data:=.seq a.toArray n }:=by
 obtain⟨z,a,n,r,e⟩:=I.hok l _ c;exact⟨z,a,n,r,r.length,e⟩
theorem BB{n:Nat}(h:n<=N7):Q8.List.listTooLong n=false:=by
 unfold Q8.List.listTooLong;exact decide_eq_false (by lia)
end
section
variable{X:Cx}
def Am:V->List V->Hp->VK->Prop:=λx c H Q=>∃l a y,x=.ref l/\c=[y]/\H l=some (.lst a)/\a.length<N7/\Q .non (upd H l (.lst (a++[y])))
theorem Az:MtM X "list.append" Am:=by
 intro i s g H x j v us Q I rx rv h;obtain⟨l,p,y,rfl,rfl,c,o,q⟩:=h;cases rx;obtain⟨u,rfl,f⟩:=rv.one;obtain⟨z,a,n,r,m,e⟩:=I.lstM c;refine av5 F.slot_list_append ⟨_,e,rfl⟩ F.entry_list_append (F.args_list_append_2 _ _) (PySem.list_append l a.toArray n u (by rw[O0];lia)) ⟨e,?_⟩;refine⟨.non,_,I.lset (its':=a++[u]) c e (by simp) (r.append (.cons f .nil)) ?_,rfl,q⟩;rw[O6,af3]
 assumption
def Mh:R2:=λx y H Q=>∃l b c a,x=.ref l/\y=.ref b/\H l=some (.lst c)/\H b=some (.lst a)/\c.length+a.length<=N7/\∀p,H p=none->Q (.ref p) (upd H p (.lst (c++a)))
theorem HK:OpR X (ad8 .Add) Mh:=by
 intro A s w H x y v u Q I rx ry h;obtain⟨l,b,J,C,rfl,rfl,j,o,E,q⟩:=h;cases rx;cases ry;obtain⟨z,c,n,r,B,e⟩:=I.lstM j;obtain⟨p,a,G,m,f,g⟩:=I.lstM o;refine PySem.P.add_list e g ?_ (by rw[O0,O0];lia);have i:c.toArray++a.toArray=(c++a).toArray:=by simp
 rw[i];exact⟨.ref _,_,I.lnew (t':=s.toks) (r.append m) (by rw[O6];assumption),rfl,q _ I.fresh⟩
def LN:R2:=λx y H Q=>∃l k a,x=.ref l/\y=.int k/\H l=some (.lst a)/\-(2 ^ 63)<=k/\k<2 ^ 63/\a.length*k.toNat<=N7 /\
 ∀p,H p=none->Q (.ref p) (upd H p (.lst (R7 k.toNat a).flatten))
theorem uw{a:Type}(xs:List a)(k:Nat):(R7 k xs).flatten.length=k*xs.length:=by
 induction k with
 |zero=>simp
 |succ k ih=>rw[ae4,aj6,O6,ih,ax0,Nat.add_comm]
theorem HB:OpR X (ad8 .Mult) LN:=by
 intro N s M H x y v u Q I rx ry h;obtain⟨l,k,P,rfl,rfl,L,B,G,w,q⟩:=h;cases rx;obtain⟨t,rfl⟩:=ry;obtain⟨z,c,n,r,E,e⟩:=I.lstM L;have A:c.toArray.size*k.toNat<=N7:=by rw[O0,<-E];exact w
 have i:¬ c.toArray.size*k.toNat > (2 ^ 63-1) / 8:=by
  have:(N7:Nat)<=(2 ^ 63-1) / 8:=by decide
  lia
 have j:¬ (!Builtin.List.listFitsIndex k)=true:=by
  rw[fitsIndex_both B G];exact V9
 have f:¬ Q8.List.listTooLong (c.toArray.size*k.toNat)=true:=by
  rw[BB A];exact V9
 have g:az7 (λo p=>o++p) #[] (R7 (if c.toArray.isEmpty=true then 0 else k.toNat) c.toArray)=(R7 k.toNat c).flatten.toArray:=by
  have C:∀m:Nat,az7 (λo p=>o++p) #[] (R7 m c.toArray)=(R7 m c).flatten.toArray:=λm=>by
   have:=m6 c m [];rw[P1]at this;exact this
  rw[C];cases c with
  |nil=>simp
  |cons a O=>rw[if_neg (by simp)]
 refine wpAny_binaryOp_repeat_ref (T:="list") (U:="int") (by decide) ⟨_,e,rfl⟩ (λJ=>ax9 J k t) noFill_list_mul F.fills_int_mul au1 repeat_list F.slot_int_index.lookup
  (av5 au1 (ax9 s k t) F.entry_int_rmul (F.args_int_rmul_2 _ _) (int___rmul___int_list k t l c.toArray n)
   ⟨e,rfl,⟨_,e,rfl⟩,av5 F.slot_list_mul ⟨_,e,rfl⟩ F.entry_list_mul (F.args_list_mul_2 _ _) (AutoListH.list___mul___list_int_3 l c.toArray n k t j i f) ⟨e,?_⟩⟩)
 rw[g];exact⟨.ref _,_,I.lnew (t':=s.toks) (r.rep k.toNat) (by rw[uw,am9];exact w),rfl,q _ I.fresh⟩
end
end L2
namespace Att
open PySem PySem.W PySem.Calls PyProof.Rows
theorem oJ{P:Params}{h:Q9}:∀(ns:List Int) (c:List M0),WellAll P h c (ns.map WData.int)->IntsAre c ns:=by
 intro ns
 induction ns with
 |nil =>
  intro c w;rw[an0]at w;cases w;exact .nil
 |cons n ns ih =>
  intro c w;rw[N5]at w;cases w with
  |cons a b =>
   cases a;exact .cons _ _ (ih _ b)
theorem AS{l:OpenLaw}{n:Nat}(hn:l.most=some n){P:Params}{h:Q9}{args:List WData}{e:List M0}
  (c:l.row.toRowW.claim.pre args=true) (m:WellAll P h e args) :
  ∃a o ns,e=[U4 a]/\args=[WData.list (ns.map WData.int)]/\h.get? a=some { cls:=.type "list",data:=.seq o.toArray }/\IntsAre o ns/\ns.length<=n:=by
 have j:WShape.hasAll [] args [.list .int]=true:=(pre_splitW c).1;have p:l.pre.holds [] { args:=args }=true:=(pre_splitW c).2;obtain⟨d,r,rfl,u,B⟩:=hasAllW_cons j;obtain rfl:=hasAllW_nil B;obtain⟨E,rfl,C⟩:=hasW_list u;obtain⟨ns,rfl⟩:=items_int C;have s:ns.length<=n:=by
  unfold OpenLaw.pre at p;have g:(WTm.not (.lt (.lit (.int (n:Int))) (.len (.arg 0)))).holds [] { args:=[.list (ns.map .int)] }=true:=by
   have g:=(holds_andW p).1;rw[hn]at g;exact g
  have i:=condW_of g (w_not (w_lt w_lit (w_len_list (w_arg rfl))));rw[s0]at i;refine Nat.le_of_not_lt λq=>?_;have A:(n:Int)<((ns.length:Nat):Int):=by lia
  first
   |(rw[decide_eq_true A]at i;exact absurd i (by decide))
   |(simp at i;lia)
 cases m with
 |cons x z =>
  cases z;cases x with
  |list w f=>exact⟨_,_,ns,rfl,rfl,w,oJ ns _ f,s⟩
theorem Au(l:OpenLaw)(args:List WData):l.row.toRowW.claim.post args (.bool true) args=true :=
 postW_of (r:=l.row.toRowW) (X:=(true==true))
  (show WShape.has [] (.bool true) .bool=true by first|rfl|decide|simp[WShape.has,WShape.arms,WShape.armsAll])
  (show(WTm.eq .res (.lit (.bool true))).value [] { args:=args,res:=some (.bool true),after:=args }=some (.bool (true==true))from w_eq_bool (w_res rfl) w_lit) rfl
theorem attach_call{l:OpenLaw}{n:Nat}{q:Q7}{g:List Str}{N:(Str->Option M0)->Q9->Prop}{L:U9->Q9->Prop}{d:DefRec}
  (hn:l.most=some n) (H:d.params.defaults=[])
  (call:∀ (w:U9) (e c:N1) (u B:Str → Option M0) (m:O1) (o:Obj) (E x i:M0) (a:O1) (j:List M0) (ns:List Int),
   Ground q g [] N w e u B c.heap->L w c.heap ->
   c.heap.get? m=some o->o.data=.func (docDef d.name d.params d.body d.scope E x i)->c.heap.CodeRec x d.name->u d.name=some (.ref m) ->
   c.heap.get? a=some { cls:=.type "list",data:=.seq j.toArray }->IntsAre j ns->ns.length<=n->c.gens=#[] ->
   am8 (R4 l.prog w) ay6 (.call (.ref m) ⟨[.ref a],[]⟩) (λr s'=>r=.ok (.ret (.bool true))/\OldK c.heap s'.heap/\s'.os=c.os/\av7 s'.gens) c) :
  WalkO q g N L l.row.toRowW d [] (λf j=>PySem.call f j):=by
 intro w e c u B G Y m o E x i dV kV Z R C I z P O M as s J U A a0;obtain rfl:dV=.none:=Dflts.none I H;obtain rfl:kV=.none:=Dflts.noKw I;obtain⟨a,j,ns,rfl,rfl,p,h,Q⟩:=AS hn s A;refine enter_call (ai3 (call w e c u B m o E x i a j ns G Y Z (fd_plain R) C z p h Q P) λr s' S=>?_);obtain⟨rfl,T,h3,h4⟩:=S;exact⟨.inl ⟨.bool true,.bool true,[],rfl,λ_=>rfl,.bool true,Au l _,λ_=>⟨at4.nil,λ_ X=>(nomatch X)⟩⟩,T,h3,h4⟩
section
variable{prog:Q7}{w:U9}{A:S0}{E:M0->N1->Prop}{s:N1}{K:Frag}
end
end Att
namespace L2
open PySem PySem.Spec PyProof.Rows
theorem tm:∀{a:List M0}{ns:List Int},IntsAre a ns->aH (ns.map V.int) a
 |_,_,.nil=>.nil
 |_,_,.cons n t h=>.cons ⟨t,rfl⟩ (tm h)
def Ex(H:Hp):Prop:=∀b,H b=none∨∃o a,H b=some (.frz o (.lst a))
theorem BA{P:Q7}{w:U9}{K:u8}{C U:Str->Option M0}{CX:CXT}{k:Nat}{X a:O1}{fd:P5}{x:Str}{sp:Sp}{c:N1}{l:List M0}{ns:List Int}
  (KX:K.In c.heap) (O:c.heap.Ns R3 C) (g:c.heap.Ns builtinsNs U) (T:∀x:Str,x≠"__name__"->U x=ag4 x) (J:c.heap.NoLimit) (hg:c.gens=#[])
  (ha:c.heap.get? a=some { cls:=.type "list",data:=.seq l.toArray }) (hi:IntsAre l ns) (hl:ns.length<=N7) (hr:cQ k ay6)
  (F:∀base:Q9,K.In base->base.Ns R3 C->aV P w K C base CX k X fd [x] sp) (p:∀(s:N1) (u:M0),az5 s fd ⟨[u],[]⟩ [(x,u)])
  (Z:∀H:Hp,Ex H->SqL K H a (ns.map V.int)->sp [.ref a] H (λv _=>v=.bl true) λ_ _ _=>False)
  (Q:∀H e s',CX [] H c (λ_ _ _=>False) e s'->False) :
  am8 (R4 P w) ay6 (.call (.ref X) ⟨[.ref a],[]⟩) (λr s'=>r=.ok (.ret (.bool true))/\OldK c.heap s'.heap/\s'.os=c.os/\av7 s'.gens) c:=by
 have rv:=tm hi;have G:=hi.length
 -- from an abstract heap in which nothing but the script may be tracked
 have j:∀H:Hp,Ex H->SqL K H a (ns.map V.int)->HOk P w H c.heap->(∀b,H b≠none->b=a)->(H a≠none->K.lookup a=none) ->
   am8 (R4 P w) ay6 (.call (.ref X) ⟨[.ref a],[]⟩) (λr s'=>r=.ok (.ret (.bool true))/\OldK c.heap s'.heap/\s'.os=c.os/\av7 s'.gens) c:=by
  intro H hO hS L hA hK;have f:∀{b:O1} {o:Obj},c.heap.get? b=some o->H b=none->(vb c.heap H).get? b=some o:=λe n=>Cy e n;have R:∀{b:O1} {o:Obj} {A:Array as2} {N:Nat},c.heap.get? b=some o->o.data=.dict A N->H b=none:=λ{b o A N} e d=>by
   cases q:H b with
   |none=>rfl
   |some u =>
    have Y:b=a:=hA b (by rw[q];simp);subst Y;rw[ha]at e;cases e;have d':av9 l.toArray _=Data.dict A N:=d;cases d'
  have i:∀{b:O1} {m:Str->Option M0},c.heap.Ns b m->(vb c.heap H).Ns b m:=λ{b m} ⟨o,A,N,e,d,r⟩=>⟨o,A,N,f e (R e d),d,r⟩;have M:K.In (vb c.heap H):=λb o e=>f (KX b o e) (by
   cases q:H b with
   |none=>rfl
   |some u =>
    have Y:b=a:=hA b (by rw[q];simp);subst Y;rw[hK (by rw[q];simp)]at e;cases e)
  have hM:Mod K C (vb c.heap H):=⟨M,i O,⟨U,i g,T⟩,let⟨mc,h1,h2⟩:=J;⟨mc,i h1,h2⟩⟩;have e0:yA P w K C (vb c.heap H) ay6 [] c H:=⟨rfl,hM,λb o e=>Fp e,Nat.le_of_eq (Bj _ _),trivial,λb g=>absurd (show b∈([]:List O1)from g) (by simp),L,.of_eq hg⟩;refine ai3 ((F _ M (i O)).run ay6 [] c H ⟨[.ref a],[]⟩ [.ref a] [.ref a] _ _ hr e0 (p c (.ref a)) (.cons rfl .nil) (Z H hO hS)) λr s' h=>?_;cases r with
  |error e=>exact(Q H e s' h).elim
  |ok fl =>
   cases fl with
   |next=>exact ae2 h
   |brk=>exact ae2 h
   |cont=>exact ae2 h
   |ret u =>
    obtain⟨v,H',os,B,un,E,r',q⟩:=h;have q':v=.bl true:=q;subst q';obtain rfl:u=M0.bool true:=r';refine⟨rfl,OldK.of_keep λb o e=>?_,os,B⟩;cases q:H b with
    |none=>exact un.keep b o e q (by intro z;exact absurd (show b∈([]:List O1)from z) (by simp)) (by simp)
    |some u =>
     rcases hO b with z|⟨ob,xs,z⟩
     ·rw[q]at z;cases z
     ·have z2:=un.frzs b ob _ z;obtain⟨e1,_⟩:=L b _ z;obtain⟨e2,_⟩:=E b _ z2;rw[e]at e1;cases e1;exact e2
 cases S:K.lookup a with
 |some o =>
  -- the script is one of the module's own objects
  have e:=KX a o S;rw[ha]at e;cases e;refine j (λ_=>none) (λ_=>.inl rfl) (.inr ⟨_,l.toArray,_,S,rfl,rfl,rfl,by rw[O0,G];exact hl,by simpa using rv⟩) (λb u z=>by have I:(none:Option HO)=some u:=z;cases I) (λb z=>absurd rfl z) λz=>absurd rfl z
 |none =>
  refine j (λb=>if b=a then some (.frz { cls:=.type "list",data:=.seq l.toArray } (.lst (ns.map V.int)))else none) (λb=>?_) (.inl (.inr ⟨{ cls:=.type "list",data:=.seq l.toArray },if_pos rfl⟩)) (λb u z=>?_) (λb z=>?_) λ_=>S
  ·by_cases g:b=a
   ·exact .inr ⟨_,_,if_pos g⟩
   ·exact .inl (if_neg g)
  ·by_cases g:b=a
   ·have I:=(if_pos g).symm.trans z;cases I;subst g;exact⟨ha,by rw[s0];exact hl,l,_,rv,ha⟩
   ·have I:=(if_neg g).symm.trans z;cases I
  ·by_cases g:b=a
   ·exact g
   ·exact absurd (if_neg g) z
theorem zz{l:PySem.W.OpenLaw}{n k:Nat}{q:Q7}{g:List Str}{S:(Str->Option M0)->Q9->Prop}{L:U9->Q9->Prop}{d:DefRec}{K:Params->u8}{CX:U9->CXT}{sp:U9->Sp}{x:Str}
  (hn:l.most=some n) (E:n<=N7) (B:d.params.defaults=[]) (hr:cQ k ay6)
  (Z:∀(w:U9) (h:Q9),L w h->(K w.params).In h)
  (F:∀ (w:U9) (i:Str → Option M0) (p:O1) (h:Q9),(K w.params).In h → h.Ns R3 i → i d.name = some (.ref p) →
   ∃C:P5,(∀(s:N1) (u:M0),az5 s C ⟨[u],[]⟩ [(x,u)]) /\
    ∀base:Q9,(K w.params).In base->base.Ns R3 i->aV l.prog w (K w.params) i base (CX w) k p C [x] (sp w))
  (I:∀(w:U9) (H:Hp) (a:O1) (ns:List Int),ns.length<=n->Ex H->SqL (K w.params) H a (ns.map V.int)->sp w [.ref a] H (λv _=>v=.bl true) λ_ _ _=>False)
  (z:∀(w:U9) (H:Hp) (s:N1) (e:M0) (s':N1),CX w [] H s (λ_ _ _=>False) e s'->False) :
  PySem.W.WalkO q g S L l.row.toRowW d [] (λf N=>PySem.call f N):=by
 refine Att.attach_call hn B λw M m i mb p o pm cd T a N ns G Y ho hd R A j c J P=>?_;have O:=Z w _ Y;obtain⟨C,X,hF⟩:=F w i p _ O G.T.g A;exact BA O G.T.g G.T.b G.T.builtins G.T.nolimit P j c (N3 J E) hr hF X (λH Q U=>I w H a ns J Q U) λH e s'=>z w H m e s'
end L2
/- THE LAST THEOREM (shape; LID,My.* are yours):
   My.Adr: a structure of the addresses that your layer names (classes,functions);My.Txt K t: a structure (Prop) of the equations over K;
   My.txt_mk:{K} {implicit addresses ..} (e1:nsIn K R3 "law"=some (some (.ref f))) (e2:K.lookup f=some ⟨oc,od,.func (fnOf "law" "law" params body scope dV kV doc pm an cdv ct),sl⟩) (e3:codeIn K cdv "law"=true) ..:∃t,My.Txt K t
set_option maxRecDepth 100000 in
set_option maxHeartbeats 0 in
theorem PySem.Challenge.cw_LID_holds : PySem.Challenge.rw_LID.Holds := by
 w_on;o_law;k_head;(case hw=>w_witness2)
 k_fill
 refine L2.zz (l:=PySem.Challenge.rw_LID) (n:=63) (k:=40) (x:="script") (CX:=λw=>..) (sp:=λ_=>My.sp_law) rfl (by decide) rfl ⟨rfl,by decide,by decide⟩ (λw h Y=>PySem.W.kIn_of Y) ?F ?S ?C
 case F =>
  intro w p m h i G e;have T:∃t,My.Txt (L2.KOf i) t:=by
   dsimp only[L2.KOf]                          -- K must stand as «<heap const> w.params» for k_is
   refine' My.txt_mk ?e1 ?e2 ?e3 ..
   (case e1=>PySem.W.k_is)                    -- in the order: a name->its address->its object->its parts
   (case e2=>PySem.W.k_is)
   ..
  obtain⟨t,T⟩:=T;have j:=e.symm.trans (ac1 i G T.law);cases j                                       -- m is the law's own address;exact⟨_,λs u=>.of_eq rfl,λc g f=>My.law_fn T g f⟩     -- if «.of_eq rfl» comes too early: refine' ⟨_,?b,λc g f=>My.law_fn T g f⟩;exact λs u=>.of_eq rfl
 case S=>exact λw H a A z q o=>..
 case C=>exact ..
(the tactic k_is has no namespace: write k_is) -/
namespace L2
open PySem PySem.Spec PyProof.Rows
noncomputable def iy(s:af0):Arguments:=match s with
 |.FunctionDef _ a _ _ _ _ _ _ _ _=>a
 |_=>{ posonlyargs:=[],args:=[],vararg:=none,kwonlyargs:=[],kw_defaults:=[],kwarg:=none,defaults:=[] }
noncomputable def eA(s:af0):List af0:=match s with
 |.FunctionDef _ _ b _ _ _ _ _ _ _=>b
 |_=>[]
noncomputable def aj(s:af0):am0:=match s with
 |.FunctionDef _ _ _ _ _ _ a _ _ _=>a
 |_=>{ kind:=.function,names:=[],isGenerator:=false,isCoroutine:=false }
abbrev CX0:CXT:=λ_ _ _ _ _ _=>False
abbrev E0:XK:=λ_ _ _=>False
theorem Ce{X:Cx}:qp CX0 X E0:=λ_ _ _ _ _ _ _ h=>h.elim
structure Fun(K:u8) (x qual:Str) (st:af0) (f:O1) (fd:P5):Prop where
 ex:∃(oc:M0) (od:Option O1) (kV doc pm:M0) (an:Option O1) (cdv ct:M0) (osl:Array (Option M0)),
  fd=ak2 x qual (iy st) (eA st) (aj st) .none kV doc pm an cdv ct/\K.lookup f=some ⟨oc,od,.func fd,osl⟩/\av1 K cdv qual=true
 kp:ag5 K (.ref f)=true
section
variable{P:Q7}{w:U9}{K:u8}{z:Str->Option M0}{base:Q9}{f:O1}{y:P5}
theorem Fun.ok{x c:Str}{st:af0}{f:O1}{y:P5}{N ps:List Str}{k:Nat}{sp:Sp}(F:Fun K x c st f y)(S:ax N ps (aj st))(len:∀i H Q E,sp i H Q E->i.length=ps.length)
  (g:∀ (e:M0) (A:S0) (a:List Env) (s:N1) (H:Hp) (i:List V) (Q:VK) (E:XK),cQ k (A.deeper (ay0 c (aj st) s.heap.objs.size f e)) → sp i H Q E →
   ∃t,PSs (wO CX0 P w K z base N c (aj st) f e A a s H E).nox (eA st) t/\t { nx:=λ_ m=>Q .non m,rt:=Q } (cX N i) H):aV P w K z base CX0 (k+1) f y ps sp:=by
 obtain⟨B,I,kV,p,C,J,e,G,n,rfl,u,j⟩:=F.ex;refine KA u j S len λA a s H i Q E o l=>?_;obtain⟨t,h,q⟩:=g e A a s H i Q E o l;exact⟨t,h.nox,q⟩
theorem Fun.binds{x a:Str}{st:af0}{f:O1}{y:P5}{ps:List Str}(F:Fun K x a st f y)
  (h:∀(kV e g:M0) (j:Option O1) (c ct:M0) (i:List M0),i.length=ps.length->bindArgs (ak2 x a (iy st) (eA st) (aj st) .none kV e g j c ct) ⟨i,[]⟩=al5 (ps.zip i)):dM K y ps []:=by
 obtain⟨p,o,kV,e,g,j,c,ct,m,rfl,n,l⟩:=F.ex;exact .all (h kV e g j c ct)
theorem CL{x a:Str}{st:af0}{f:O1}{m:M0}{od j:Option O1}{h:Array (Option M0)}{kV g i e ct:M0}(l:K.lookup f=some ⟨m,od,.func (ak2 x a (iy st) (eA st) (aj st) .none kV g i j e ct),h⟩)
  (c:av1 K e a=true) (k:ag5 K (.ref f)=true):Fun K x a st f (ak2 x a (iy st) (eA st) (aj st) .none kV g i j e ct):=⟨⟨m,od,kV,g,i,j,e,ct,h,rfl,l,c⟩,k⟩
end
theorem AA{n:Nat}(h:n<=1000):n<N7:=am5 h (by decide)
theorem fw{c A B:Prop}[Decidable c](e:c->A)(a:¬ c->B):if c then A else B:=by
 by_cases h:c
 ·rw[if_pos h];exact e h
 ·rw[if_neg h];exact a h
section
variable{κ:Type} [DecidableEq κ]
noncomputable def iV(kvs:List (κ×V))(k:κ):Option V:=(kvs.find? λa=>decide (a.1=k)).map (·.2)
noncomputable def fu(kvs:List (κ×V))(k:κ)(v:V):List (κ×V) :=
 if(kvs.any λa=>decide (a.1=k))=true then kvs.map (λa=>if a.1=k then(a.1,v)else a)else kvs++[(k,v)]
theorem lY{p:κ×V}{r:List (κ×V)}{k:κ}(e:p.1=k):iV (p::r) k=some p.2:=by simp[iV,ah2,e]
theorem md{p:κ×V}{r:List (κ×V)}{k:κ}(e:¬ p.1=k):iV (p::r) k=iV r k:=by simp[iV,ah2,e]
theorem wq(k:κ):∀kvs:List (κ×V),(kvs.any λa=>decide (a.1=k))=(iV kvs k).isSome
 |[]=>rfl
 |p::r=>by
  rw[ad3]
  by_cases e:p.1=k
  ·simp only[lY e,decide_eq_true e,Bool.true_or,Option.isSome_some]
  ·rw[md e,decide_eq_false e,Bool.false_or];exact wq k r
theorem j3(kvs:List (κ×V))(k:κ)(v:V):(fu kvs k v).length<=kvs.length+1:=by
 unfold fu
 split
 ·rw[s0];lia
 ·rw[O6,O2,V5];exact N2 _
theorem ku.isSome_eq{o:Option V}{u:Option M0}(r:ku o u):o.isSome=u.isSome:=by
 cases o with
 |none=>cases u with
  |none=>rfl
  |some _=>exact(show False from r).elim
 |some _=>cases u with
  |none=>exact(show False from r).elim
  |some _=>rfl
theorem ku.getD{o:Option V}{u:Option M0}{d:V}{d':M0}(r:ku o u)(rd:aQ d d'):aQ (o.getD d) (u.getD d'):=by
 cases o with
 |none=>cases u with
  |none=>exact rd
  |some _=>exact(show False from r).elim
 |some _=>cases u with
  |none=>exact(show False from r).elim
  |some _=>exact r
theorem KV.val{kvs:List (κ×V)}{g:List (κ×M0)}(r:KV kvs g)(k:κ):ku (iV kvs k) (az8 g k):=by
 unfold KV at r
 induction r with
 |nil=>exact al8
 |@cons p q j c h t ih =>
  obtain⟨f,i⟩:=h
  by_cases e:p.1=k
  ·have a:q.1=k:=f.symm.trans e;have b:az8 (q::c) k=some q.2:=by simp[az8,ah2,a]
   rw[lY e,b];exact i
  ·have a:¬ q.1=k:=λz=>e (f.trans z);have b:az8 (q::c) k=az8 c k:=by simp[az8,ah2,a]
   rw[md e,b];exact ih
theorem KV.any{kvs:List (κ×V)}{c:List (κ×M0)}(r:KV kvs c)(k:κ):(kvs.any λa=>decide (a.1=k))=c.any λa=>decide (a.1=k):=by
 unfold KV at r
 induction r with
 |nil=>rfl
 |cons h t ih=>rw[ad3,ad3,ih,h.1]
theorem KV.repl{kvs:List (κ×V)}{f:List (κ×M0)}(r:KV kvs f)(k:κ){y:V}{u:M0}(i:aQ y u):
  KV (kvs.map λa=>if a.1=k then(a.1,y)else a) (f.map λa=>if a.1=k then(a.1,u)else a):=by
 unfold KV at r ⊢
 induction r with
 |nil=>exact .nil
 |@cons p q j l h t ih =>
  rw[N5,N5];refine .cons ?_ ih;obtain⟨c,g⟩:=h
  by_cases e:p.1=k
  ·rw[if_pos e,if_pos (c.symm.trans e)];exact⟨c,i⟩
  ·rw[if_neg e,if_neg (λz=>e (c.trans z))];exact⟨c,g⟩
theorem KV.put{kvs:List (κ×V)}{a:List (κ×M0)}(r:KV kvs a)(k:κ){y:V}{u:M0}(c:aQ y u):KV (fu kvs k y) (stored a k u):=by
 unfold fu stored;rw[r.any k]
 by_cases e:(a.any λf=>decide (f.1=k))=true
 ·rw[if_pos e,if_pos e];exact r.repl k c
 ·rw[if_neg e,if_neg e];exact af1.snoc r ⟨rfl,c⟩
theorem KV.length{kvs:List (κ×V)}{a:List (κ×M0)}(r:KV kvs a):kvs.length=a.length:=ap6 r
end
theorem qX{P:Q7}{w:U9}{k:Key}{u:M0}(r:aQ (kV k) u):(bo P w).is k u=true:=by
 cases k with
 |inl i=>obtain⟨t,e⟩:=(show ∃t,u=aw7 i t from r);subst e;exact wo P w i t
 |inr x=>obtain⟨t,e⟩:=(show ∃t,u=ay9 x t from r);subst e;exact wQ P w x t
theorem nG{P:Q7}{w:U9}:∀{ks:List Key}{a:List M0},aH (ks.map kV) a->ItemsAre (bo P w) ks a
 |[],_,r=>by rw[an0]at r;cases r;exact .nil
 |k::ks,_,r=>by
  rw[N5]at r;cases r with
  |cons h t=>exact .cons (qX h) (nG t)
abbrev KT(H:Hp):List (List Key×V)->List (List Key×O1×M0)->Prop:=af1 λp q=>p.1=q.1/\H q.2.1=some (.tup (p.1.map kV))/\aQ p.2 q.2.2
theorem KT.val{H:Hp}{kvs:List (List Key×V)}{xs:List (List Key×O1×M0)}(r:KT H kvs xs)(k:List Key):ku (iV kvs k) ((atKey xs k).map (·.2)):=by
 induction r with
 |nil=>exact al8
 |@cons p q i c h t ih =>
  obtain⟨f,_,g⟩:=h
  by_cases e:p.1=k
  ·have a:q.1=k:=f.symm.trans e;have b:atKey (q::c) k=some q.2:=by simp[atKey,ah2,a]
   rw[lY e,b];exact g
  ·have a:¬ q.1=k:=λz=>e (f.trans z);have b:atKey (q::c) k=atKey c k:=by simp[atKey,ah2,a]
   rw[md e,b];exact ih
theorem KT.repl{H:Hp}{kvs:List (List Key×V)}{xs:List (List Key×O1×M0)}(r:KT H kvs xs)(k:List Key){y:V}{u:M0}(i:aQ y u):
  KT H (kvs.map λc=>if c.1=k then(c.1,y)else c) (xs.map (putAt k u)):=by
 induction r with
 |nil=>exact .nil
 |@cons p q j l h t ih =>
  rw[N5,N5];refine .cons ?_ ih;obtain⟨a,f,g⟩:=h;unfold putAt
  by_cases e:p.1=k
  ·rw[if_pos e,if_pos (a.symm.trans e)];exact⟨a,f,i⟩
  ·rw[if_neg e,if_neg (λz=>e (a.trans z))];exact⟨a,f,g⟩
theorem KT.put{H:Hp}{kvs:List (List Key×V)}{xs:List (List Key×O1×M0)}(r:KT H kvs xs)(k:List Key){b:O1}{y:V}{u:M0}(c:H b=some (.tup (k.map kV)))(a:aQ y u):
  KT H (fu kvs k y) (storedH xs k b u):=by
 have e:(kvs.any λf=>decide (f.1=k))=(atKey xs k).isSome:=by
  rw[wq,(r.val k).isSome_eq,Option.isSome_map]
 unfold fu storedH;rw[e]
 by_cases q:(atKey xs k).isSome=true
 ·rw[if_pos q,if_pos q];exact r.repl k a
 ·rw[if_neg q,if_neg q];exact af1.snoc r ⟨rfl,c,a⟩
theorem KT.keeps{H a:Hp}{kvs:List (List Key×V)}{xs:List (List Key×O1×M0)}(r:KT H kvs xs)(e:∀b c,H b=some (.tup c)->a b=some (.tup c)):KT a kvs xs :=
 af1.mapP r λ_ _ z=>⟨z.1,e _ _ z.2.1,z.2.2⟩
section
variable{P:Q7}{w:U9}{H:Hp}{h:Q9}{a:O1}
theorem Gu{u:HO}(ok:HOk P w H h)(e:Rd H a u):cu P w H h a u:=e.ok ok
theorem pV{kvs:List (Key×V)}(ok:HOk P w H h)(e:Rd H a (.dK kvs)):kvs.length<=N7/\(a==aj3)=false/\∃c,KV kvs c/\h.DictOf (bo P w) a c :=
 show cu P w H h a (.dK kvs)from Gu ok e
theorem Ai{kvs:List (Key×V)}(ok:HOk P w H h)(e:H a=some (.dK kvs)):kvs.length<=N7/\(a==aj3)=false/\∃c,KV kvs c/\h.DictOf (bo P w) a c:=pV ok (.inl e)
theorem k6{ks:List Key}(ok:HOk P w H h)(e:H a=some (.tup (ks.map kV))):(ao4 (bo P w)).is h ks a:=by
 obtain⟨_,c,r,o,g,i,⟨n,f⟩,_⟩:=(show cu P w H h a (.tup (ks.map kV))from ok a _ e);exact⟨o,c.toArray,n,g,i,f,by simpa using nG r⟩
theorem oy{kvs:List (List Key×V)}(ok:HOk P w H h)(e:Rd H a (.dT kvs)):kvs.length<=N7/\(a==aj3)=false /\
  ∃xs,KT H kvs xs/\h.DictOfH (ao4 (bo P w)) a xs:=by
 obtain⟨z,y,xs,r,o,n,g,i,j,s,A,u⟩:=(show cu P w H h a (.dT kvs)from Gu ok e);refine⟨z,y,xs,r,o,n,g,i,j,s,A,λx c=>?_,u⟩;have all:∀{l:List (List Key×V)} {m:List (List Key×O1×M0)},KT H l m->∀x∈m,(ao4 (bo P w)).is h x.1 x.2.1:=by
  intro l m q
  induction q with
  |nil=>intro x c;exact nomatch c
  |@cons p q B C f t ih =>
   intro x c;rcases O9.mp c with e|c
   ·subst e;exact k6 ok (by rw[<-f.1];exact f.2.1)
   ·exact ih x c
 exact all r x c
theorem GV{kvs:List (List Key×V)}(ok:HOk P w H h)(e:H a=some (.dT kvs)):kvs.length<=N7/\(a==aj3)=false /\
  ∃xs,KT H kvs xs/\h.DictOfH (ao4 (bo P w)) a xs:=oy ok (.inl e)
end
def nU(H:Hp)(a:O1)(y:V)(r:Option V):Prop :=
 (∃c k,Rd H a (.dK c)/\y=kV k/\r=iV c k)∨∃c k b,Rd H a (.dT c)/\y=.ref b/\H b=some (.tup (k.map kV))/\r=iV c k
def uK(H:Hp)(a:O1)(y v:V)(e:Hp):Prop :=
 (∃c k,H a=some (.dK c)/\y=kV k/\c.length<N7/\e=upd H a (.dK (fu c k v))) ∨
 ∃c k b,H a=some (.dT c)/\y=.ref b/\H b=some (.tup (k.map kV))/\c.length<N7/\e=upd H a (.dT (fu c k v))
theorem nU.t{H:Hp}{a b:O1}{kvs:List (List Key×V)}{k:List Key}(e:H a=some (.dT kvs))(c:H b=some (.tup (k.map kV))):nU H a (.ref b) (iV kvs k):=.inr ⟨kvs,k,b,.inl e,rfl,c,rfl⟩
theorem uK.k{H:Hp}{a:O1}{kvs:List (Key×V)}{k:Key}{v:V}(e:H a=some (.dK kvs))(c:kvs.length<N7):uK H a (kV k) v (upd H a (.dK (fu kvs k v))):=.inl ⟨kvs,k,e,rfl,c,rfl⟩
theorem uK.t{H:Hp}{a b:O1}{kvs:List (List Key×V)}{k:List Key}{v:V}(e:H a=some (.dT kvs))(f:H b=some (.tup (k.map kV)))(c:kvs.length<N7):
  uK H a (.ref b) v (upd H a (.dT (fu kvs k v))):=.inr ⟨kvs,k,b,e,rfl,f,c,rfl⟩
section
variable{X:Cx}{G:List (O1×Obj)}{σ:St}{H:Hp}{s:N1}{a:O1}{y v:V}{u r:M0}{o:Option V}{A:S0}{E:M0->N1->Prop}
theorem Inv.big(I:Inv X G σ H s):aj3<s.heap.objs.size:=by
 have h:R3<s.heap.objs.size:=(I.mod.glob.keeps I.bk).lt;exact Nat.lt_trans (by decide) h
theorem yG{Q:M0->N1->Prop}(B:A.units+1<af7)(I:Inv X G σ H s)(g:nU H a y (some v))(q:aQ y u)(h:∀f s',Inv X G σ H s'->aQ v f->Q f s'):
  P6 (R4 X.prog X.w) A (av8 (.ref a) u) Q E s:=by
 rcases g with⟨j,k,e,ey,l⟩|⟨j,k,b,e,ey,eb,l⟩
 ·subst ey;obtain⟨z,x,C,rel,n⟩:=pV I.hok e;obtain⟨f,m,c⟩:=ku.some_of (v:=v) (o:=az8 C k) (by rw[l];exact rel.val k);exact wpAny_getItem_of (qX q) n.mapOf m (h f _ (I.tok _) c)
 ·subst ey;cases(show u=U4 b from q);obtain⟨z,x,J,rel,n⟩:=oy I.hok e;obtain⟨f,m,c⟩:=ku.some_of (v:=v) (o:=(atKey J k).map (·.2)) (by rw[l];exact rel.val k);obtain⟨p,w,i⟩:=Option.map_eq_some_iff.mp m;refine wpAny_getItem_heap (ai4 B) (k6 I.hok eb) n w ?_;rw[i];exact h f _ (I.tok _) c
theorem JY{Q:M0->N1->Prop}(m:A.units+1<af7)(I:Inv X G σ H s)(g:nU H a y o)(j:aQ y u)(h:∀s',Inv X G σ H s'->Q (.bool o.isSome) s'):
  P6 (R4 X.prog X.w) A (V4 .In u (.ref a)) Q E s:=by
 rcases g with⟨c,k,e,ey,l⟩|⟨c,k,b,e,ey,eb,l⟩
 ·subst ey;obtain⟨z,f,n,rel,i⟩:=pV I.hok e;refine wpAny_in_of (qX j) f i.mapOf ?_;rw[<-(rel.val k).isSome_eq,<-l];exact h _ (I.tok _)
 ·subst ey;cases(show u=U4 b from j);obtain⟨z,f,p,rel,i⟩:=oy I.hok e;refine wpAny_in_heap (ai4 m) (k6 I.hok eb) f i ?_;have q:=(rel.val k).isSome_eq;rw[Option.isSome_map]at q;rw[<-q,<-l];exact h _ (I.tok _)
theorem BY{Q:M0->N1->Prop}(m:A.units+1<af7)(I:Inv X G σ H s)(g:nU H a y o)(j:aQ y u)(h:∀s',Inv X G σ H s'->Q (.bool (!o.isSome)) s'):
  P6 (R4 X.prog X.w) A (V4 .NotIn u (.ref a)) Q E s:=by
 rcases g with⟨c,k,e,ey,l⟩|⟨c,k,b,e,ey,eb,l⟩
 ·subst ey;obtain⟨z,f,n,rel,i⟩:=pV I.hok e;refine wpAny_notIn_of (qX j) f i.mapOf ?_;rw[<-(rel.val k).isSome_eq,<-l];exact h _ (I.tok _)
 ·subst ey;cases(show u=U4 b from j);obtain⟨z,f,p,rel,i⟩:=oy I.hok e;refine wpAny_notIn_heap (ai4 m) (k6 I.hok eb) f i ?_;have q:=(rel.val k).isSome_eq;rw[Option.isSome_map]at q;rw[<-q,<-l];exact h _ (I.tok _)
theorem mE{h':Q9}{t':Nat}{ob:HO}(I:Inv X G σ H s)(f:Mut (H a))(hs:S4 a s.heap h')(he:∃q,h'.get? a=some q)(new:cu X.prog X.w (upd H a ob) h' a ob):
  Inv X G σ (upd H a ob) { s with heap:=h',toks:=t' } :=
 I.write (x:=a) (e:=a) f (.inl rfl) (λb q c z=>(hs.2 b c).trans z) he new
theorem B1{P:Q7}{w:U9}{e:Hp}{h':Q9}{kvs:List (Key×V)}{c:List (Key×M0)}(z:kvs.length<=N7)(g:(a==aj3)=false)(rel:KV kvs c)(f:h'.DictOf (bo P w) a c):
  cu P w e h' a (.dK kvs):=⟨z,g,c,rel,f⟩
theorem xH{C:Hp}{Q:Unit->N1->Prop}(S:A.units+1<af7)(I:Inv X G σ H s)(g:uK H a y v C)(J:aQ y u)(x:aQ v r)(h:∀s',Inv X G σ C s'->Q () s'):
  P6 (R4 X.prog X.w) A (setItem (.ref a) u r) Q E s:=by
 rcases g with⟨f,k,e,ey,l,eH⟩|⟨f,k,b,e,ey,eb,l,eH⟩
 ·subst ey eH;obtain⟨z,o,T,rel,w⟩:=Ai I.hok e;have p:T.length<=N7:=by rw[<-rel.length];exact z
  have n:(fu f k v).length<=N7:=by have:=j3 f k v;exact N3 (by assumption) (by assumption)
  refine wpAny_setItem_pairs (hsz:=p) (qX J) w λL i m=>h _ ?_;have N:∃q,L.get? a=some q:=let⟨q,_,_,j,_⟩:=i;⟨q,j⟩
  exact mE I (by rw[e];exact al8) m N (B1 n o (rel.put k x) i)
 ·subst ey eH;cases(show u=U4 b from J);obtain⟨z,o,Z,rel,w⟩:=GV I.hok e;have p:Z.length<=N7:=by rw[<-ap6 rel];exact z
  have n:(fu f k v).length<=N7:=by have:=j3 f k v;exact N3 (by assumption) (by assumption)
  refine wpAny_setItem_heap (hsz:=p) (ai4 S) (k6 I.hok eb) w λL i m=>h _ ?_;obtain⟨q,P,M,j,O,R,U,_,Y⟩:=i;refine mE I (by rw[e];exact al8) m ⟨q,j⟩ ⟨n,o,_,(rel.put k eb x).keeps λc ys B=>?_,q,P,M,j,O,R,U,Y⟩;rw[aX (Gv B e (λz=>nomatch z))];exact B
end
def Aw(i:R6):Prop:=∀a c,ay5 i false a c=operate [a,c] (av8 a c)
theorem zd{prog:Q7}{w:U9}{A:S0}{E:M0->N1->Prop}{s:N1}{env:Env}{a slice:R6}{n:Pos}{T id:String}{Q:M0->N1->Prop}
  (q:typeLookup (.type T) "__getitem__"=al5 (some (.builtin id))) (hs:Aw slice)
  (h:P6 (R4 prog w) A (af8 a env) (λo g=>P6 (R4 prog w) A (af8 slice env) (λi c=>c.TypeIs o T/\P6 (R4 prog w) A (av8 o i) Q E c) E g) E s) :
  P6 (R4 prog w) A (af8 (.Subscript a slice n) env) Q E s:=by
 refine Subscript_ (X9 h (λo g l=>X9 l (λi c e=>?_) λ_ _ x=>x) λ_ _ x=>x);obtain⟨p,e⟩:=e;unfold subscriptTail;refine o0 ?_;rw[getitemInPython_of_ne p.not_modules];refine o0 (an1 p q ?_);have j:P6 (R4 prog w) A (ay5 slice false o i) (λr f=>P6 (R4 prog w) A (letTemporaryGo a o r >>= λ_=>al5 r) Q E f) E c:=by
  rw[hs o i];exact wpAny_operating (X9 e (λr f m=>o0 (wpAny_letTemporaryGo (M9 m))) λ_ _ x=>x)
 first
  |exact M9 (o0 j)
  |exact o0 (M9 (o0 j))
  |exact o0 j
theorem wB{X:Cx}{h:List (O1×Obj)}{σ:St}{H:Hp}{s:N1}{a:O1}{y:V}{o:Option V}(I:Inv X h σ H s)(g:nU H a y o):s.TypeIs (.ref a) "dict":=by
 rcases g with⟨f,k,e,_,_⟩|⟨f,k,b,e,_,_,_⟩
 ·obtain⟨_,_,j,_,c⟩:=pV I.hok e;exact c.typeIs
 ·obtain⟨_,_,i,_,c⟩:=oy I.hok e;exact c.typeIs
def JR(f ty:TE):TE:=λe H Q=>f e H λx g=>ty e g λy c=>∃a v,x=.ref a/\nU c a y (some v)/\Q v c
def Kc(ty f:TE):TE:=λe H Q=>ty e H λy g=>f e g λx c=>∃a o,x=.ref a/\nU c a y o/\Q (.bl o.isSome) c
def zJ(ty f:TE):TE:=λe H Q=>ty e H λy g=>f e g λx c=>∃a o,x=.ref a/\nU c a y o/\Q (.bl (!o.isSome)) c
def KP(g ty f:TE):TS:=λD c H=>f c H λv i=>g c i λx h=>ty c h λy j=>∃a e,x=.ref a/\uK j a y v e/\D.nx c e
section
variable{X:Cx}{o i e z:R6}{Y G tpos:Pos}{L N tv:TE}
theorem Ad(w:X.A.units+1<af7)(p:PE X o L)(C:PE X i N)(hs:Aw i):PE X (.Subscript o i Y) (JR L N):=by
 intro j s f H Q I h;refine zd PySem.F.slot_dict_getitem.lookup hs (thn (p j s f H _ I h) λu A c=>c.el λx J n m M=>thn (C j A f J _ n M) λP R ⟨y,B,l,z,a,v,q,g,G⟩=>?_);subst q;obtain rfl:u=U4 a:=m;exact⟨wB l g,yG w l g z λO S E e=>⟨v,B,E,e,G⟩⟩
theorem HA(p:X.A.units+1<af7)(B:PE X i N)(m:PE X o L):PC X .In i o (Kc N L):=by
 intro f s e H Q I h;refine thn (B f s e H _ I h) λO z c=>c.el λy G l q J=>thn (m f z e G _ l J) λu P ⟨x,A,M,j,a,w,n,g,E⟩=>?_;subst n;obtain rfl:u=U4 a:=j;exact JY p M g q λR C=>⟨.bl w.isSome,A,C,rfl,E⟩
theorem Ay(p:X.A.units+1<af7)(B:PE X i N)(m:PE X o L):PC X .NotIn i o (zJ N L):=by
 intro f s e H Q I h;refine thn (B f s e H _ I h) λO z c=>c.el λy G l q J=>thn (m f z e G _ l J) λu P ⟨x,A,M,j,a,w,n,g,E⟩=>?_;subst n;obtain rfl:u=U4 a:=j;exact BY p M g q λR C=>⟨.bl (!w.isSome),A,C,rfl,E⟩
theorem uk(R:X.A.units+1<af7)(P:PE X o L)(U:PE X i N)(T:PE X z tv)(hs:ai1 z (some (.Subscript o i G)) Y.line X.env=al5 false):
  PS X (.Assign [.Subscript o i G] z Y) (KP L N tv):=by
 intro f s e H D I h;refine wpAny_Assign_Subscript (thn (T f s e H _ I h) λr n c=>c.el λv B O m E=>thn (P f n e B _ O E) λu w c=>c.el λx p J M A=>thn (U f w e p _ J A) λiv s3 ⟨y,Z,q,S,a,l,Q,g,j⟩=>?_) hs;subst Q;obtain rfl:u=U4 a:=M;exact xH R q g S m λs4 C=>⟨e,l,C,j⟩
end
theorem D7{P:Q7}{w:U9}{H:Hp}(h:Q9)(a:aj3<h.objs.size):cu P w H (h.push { cls:=.type "dict",data:=.dict #[] }) h.objs.size (.dK []) :=
 ⟨O3 _,beq_eq_false_iff_ne.mpr (aa3 (P8 a)),[],.nil,Q9.DictOf.new h⟩
theorem wF{P:Q7}{w:U9}{H:Hp}(h:Q9)(a:aj3<h.objs.size):cu P w H (h.push { cls:=.type "dict",data:=.dict #[] }) h.objs.size (.dT []) :=
 ⟨O3 _,beq_eq_false_iff_ne.mpr (aa3 (P8 a)),[],.nil,_,#[],0,N6 _ rfl,⟨rfl,rfl,rfl⟩,rfl,rfl,List.nodup_nil⟩
def Jo:TE:=λ_ H Q=>∀p,H p=none->Q (.ref p) (upd H p (.dT []))
section
variable{X:Cx}{y:Pos}
theorem Cb:PE X (.Dict [] [] y) Jo:=λe s c H Q I h =>
 wpAny_Dict_empty ⟨.ref s.heap.objs.size,_,I.laid (a:=s.heap.objs.size) (o:=.dT []) (t':=s.toks) (λ_ _ q=>M7 _ q) (N2 _) (wF s.heap I.big),rfl,h _ (I.hok.fresh (N2 _))⟩
end
def yu:List (TE×TE)->St->Hp->(List (V×V)->Hp->Prop)->Prop
 |[],_,H,Q=>Q [] H
 |(h,c)::r,a,H,Q=>h a H λx g=>c a g λy f=>yu r a f λi e=>Q ((x,y)::i) e
abbrev VV:List (V×V)->List (M0×M0)->Prop:=af1 λp q=>aQ p.1 q.1/\aQ p.2 q.2
def PPs(X:Cx)(e:Pos)(keys:List (Option R6))(a:List R6)(f:List (TE×TE)):Prop :=
 ∀(g:List (O1×Obj)) (s:N1) (c:St) (H:Hp) (Q:List (V×V)->Hp->Prop),Inv X g c H s->yu f c H Q ->
  P6 (R4 X.prog X.w) X.A (evalPairs (pairTrees keys a X.env e)) (λl j=>∃i h,Inv X g c h j/\VV i l/\Q i h) X.xe s
theorem Fn{X:Cx}{a:Pos}:PPs X a [] [] []:=λe s c H Q I h=>pairTrees_nil_walk ⟨[],H,I,.nil,h⟩
theorem CV{X:Cx}{e:Pos}{k v:R6}{ks:List (Option R6)}{i:List R6}{j l:TE}{c:List (TE×TE)}(E:PE X k j)(z:PE X v l)(hr:PPs X e ks i c):
  PPs X e (some k::ks) (v::i) ((j,l)::c):=λg s f H Q I h =>
 pairTrees_cons_walk (thn (E g s f H _ I h) λu A a=>a.el λx M q p n=>thn (z g A f M _ q n) λP J a=>a.el λy B N w L =>
  thn (hr g J f B _ N L) λO R ⟨C,m,G,rel,o⟩=>⟨(x,y)::C,m,G,.cons ⟨p,w⟩ rel,o⟩)
def lF(kvs more:List (Key×V)):List (Key×V):=more.foldl (λa c=>fu a c.1 c.2) kvs
theorem KV.merge:∀{more:List (Key×V)}{rs:List (Key×M0)}{kvs:List (Key×V)}{a:List (Key×M0)},KV more rs->KV kvs a->KV (lF kvs more) (merged a rs):=by
 intro more rs kvs a r;unfold KV at r
 induction r generalizing kvs a with
 |nil=>intro q;exact q
 |@cons p q g f h t ih =>
  intro c;have e:KV (fu kvs p.1 p.2) (stored a q.1 q.2):=by
   have:=c.put p.1 h.2;rw[<-h.1];exact this
  exact ih e
theorem kN:∀(more kvs:List (Key×V)),(lF kvs more).length<=kvs.length+more.length
 |[],kvs=>by show kvs.length<=kvs.length+0;exact N2 _
 |p::r,kvs=>by
  have a:=kN r (fu kvs p.1 p.2);have c:=j3 kvs p.1 p.2;show(lF (fu kvs p.1 p.2) r).length<=_;rw[O2];lia
theorem qv{P:Q7}{w:U9}:∀{kvs:List (Key×V)}{ws:List (M0×M0)},VV (kvs.map λe=>(kV e.1,e.2)) ws->∃rs,Carries (bo P w) ws rs/\KV kvs rs
 |[],_,r=>by rw[an0]at r;cases r;exact⟨[],al8,.nil⟩
 |p::kvs,_,r=>by
  rw[N5]at r;cases r with
  |@cons a b g bs h t =>
   obtain⟨rs,c,q⟩:=qv (P:=P) (w:=w) t;obtain⟨i,f⟩:=b;exact⟨(p.1,f)::rs,⟨qX h.1,rfl,c⟩,.cons ⟨rfl,h.2⟩ q⟩
def KG(c:List (TE×TE)):TE:=λg H Q=>∀p,H p=none->yu c g (upd H p (.dK [])) λh e=>e p=some (.dK [])/\∃a:List (Key×V),h=a.map (λf=>(kV f.1,f.2))/\a.length<=15/\Q (.ref p) (upd e p (.dK (lF [] a)))
theorem EM{X:Cx}{m:Pos}{keys:List (Option R6)}{f:List R6}{j:List (TE×TE)}(h:PPs X m keys f j)(i:keys.all (·.isSome)=true)(O:keys.length=f.length)(h0:keys≠[])
  (n:keys.length<=15):PE X (.Dict keys f m) (KG j):=by
 intro Y s L H Q I q;have U:=I.hok.fresh (N2 s.heap.objs.size);have B:=I.laid (a:=s.heap.objs.size) (o:=.dK []) (h':=s.heap.push { cls:=.type "dict",data:=.dict #[] }) (t':=s.toks) (λ_ _ q=>M7 _ q) (N2 _) (D7 s.heap I.big);refine wpAny_Dict_walk (knd:=bo X.prog X.w) i O h0 n (thn (h Y _ L _ _ B (q _ U)) λZ s2 ⟨ps,H2,u,rel,e,g,M,lk,R⟩=>?_);subst M;obtain⟨rs,c,rk⟩:=qv (P:=X.prog) (w:=X.w) rel;obtain⟨z,E,G,C,T⟩:=Ai u.hok e;cases C;refine⟨rs,c,T,λp l x=>⟨.ref s.heap.objs.size,_,?_,rfl,R⟩⟩;have S:(lF [] g).length<=N7:=by
  have A:=kN g [];rw[V5]at A;rw[O7];lia
 have N:∃q,p.get? s.heap.objs.size=some q:=let⟨q,_,_,J,_⟩:=l;⟨q,J⟩
 exact mE u (by rw[e];exact al8) x N (B1 S E (rk.merge .nil) l)
structure M1(X:Cx) (o:R6) (m:Str) (cS:Pos) (e:R6) (bx:Pos):Prop where
 base:ac0 o m X.env (af8 o X.env)=af8 o X.env
 few:((ad7 bx (O5 [e] X.env)).all (λx=>!x.1)&&(az2 bx (at9 [] X.env)).all (λx=>x.1.isSome)
 &&decide (([e]:List R6).length+([]:List au0).length+(if([]:List au0).isEmpty then 0 else 1)<30))=true
 line:(cS.endLine==bx.line)=true
 trees:ad7 bx (O5 [e] X.env)=[(false,af8 e X.env)]
structure M2(X:Cx) (o:R6) (m:Str) (cS:Pos) (e f:R6) (bx:Pos):Prop where
 base:ac0 o m X.env (af8 o X.env)=af8 o X.env
 few:((ad7 bx (O5 [e,f] X.env)).all (λx=>!x.1)&&(az2 bx (at9 [] X.env)).all (λx=>x.1.isSome)
 &&decide (([e,f]:List R6).length+([]:List au0).length+(if([]:List au0).isEmpty then 0 else 1)<30))=true
 line:(cS.endLine==bx.line)=true
 trees:ad7 bx (O5 [e,f] X.env)=[(false,af8 e X.env),(false,af8 f X.env)]
def IsD(H:Hp)(a:O1):Prop:=(∃c,Rd H a (.dK c))∨∃c,Rd H a (.dT c)
theorem yM{X:Cx}{j:List (O1×Obj)}{σ:St}{H:Hp}{s:N1}{a:O1}(I:Inv X j σ H s)(d:IsD H a):
  s.TypeIs (.ref a) "dict"/\(∀b,U4 a=.ref b->∃ob,s.heap.get? b=some ob/\ob.dict=none)/\(a==aj3)=false:=by
 rcases d with⟨g,e⟩|⟨g,e⟩
 ·obtain⟨_,i,m,_,c⟩:=pV I.hok e;refine⟨c.typeIs,λb q=>?_,i⟩;cases q;obtain⟨ob,_,_,f,h,_⟩:=c;exact⟨ob,f,h.2.1⟩
 ·obtain⟨_,i,l,_,c⟩:=oy I.hok e;refine⟨c.typeIs,λb q=>?_,i⟩;cases q;obtain⟨ob,_,_,f,h,_⟩:=c;exact⟨ob,f,h.2.1⟩
section
variable{X:Cx}{G:List (O1×Obj)}{σ:St}{H:Hp}{s:N1}{a:O1}{y d:V}{u r:M0}{o:Option V}{A:S0}{E:M0->N1->Prop}
theorem F6{Q:M0->N1->Prop}(n:A.units+1<af7)(I:Inv X G σ H s)(g:nU H a y o)(m:aQ y u)(rd:aQ d r)(h:∀j s',Inv X G σ H s'->aQ (o.getD d) j->Q j s'):
  P6 (R4 X.prog X.w) A (call (.builtin "dict.get") [.ref a,u,r]) Q E s:=by
 rcases g with⟨f,k,e,ey,l⟩|⟨f,k,b,e,ey,eb,l⟩
 ·subst ey;obtain⟨z,i,q,rel,c⟩:=pV I.hok e;refine call_meetsIn PySem.F.slot_dict_get c.typeIs PySem.F.entry_dict_get (PySem.F.args_dict_get_3 _ _ _) (meets_dict_get_default (bo X.prog X.w) a (qX m) i r) ⟨_,c.mapOf,h _ _ (I.tok _) ?_⟩;rw[l];exact(rel.val k).getD rd
 ·subst ey;cases(show u=U4 b from m);obtain⟨z,i,p,rel,c⟩:=oy I.hok e;refine call_meetsIn PySem.F.slot_dict_get c.typeIs PySem.F.entry_dict_get (PySem.F.args_dict_get_3 _ _ _) (meetsH_dict_get_default (ao4 (bo X.prog X.w)) a b i r) ⟨ai4 n,k,p,k6 I.hok eb,c,h _ _ (I.tok _) ?_⟩;rw[l];exact(rel.val k).getD rd
end
def IX(g ty tx:TE):TE:=λc H Q=>g c H λx e=>∃a,x=.ref a/\IsD e a/\ty c e λy h=>tx c h λz f=>∃o,nU f a y o/\Q (o.getD z) f
section
variable{X:Cx}{o e f:R6}{G L:Pos}{N Y tx:TE}
theorem vE(hu:X.A.units+1<af7)(ho:PE X o N)(he:PE X e Y)(w:PE X f tx)(m:M2 X o "get" G e f L):PE X (.Call (.Attribute o "get" G) [e,f] [] L) (IX N Y tx):=by
 intro i s l H Q I h;refine wpAny_Call_method m.base m.few m.line PySem.F.plainAttrs_dict PySem.F.slot_dict_get PySem.F.type_dict_get (thn (ho i s l H _ I h) λu C ⟨x,P,n,Z,a,ex,d,T⟩=>?_);subst ex;obtain rfl:u=U4 a:=Z;obtain⟨A,B,_⟩:=yM n d;refine⟨A,B,?_⟩;rw[m.trees];refine am3 rfl (Calls.evalArgs_plain (af9 (thn (he i C l P _ n T) λiv M j=>j.el λy E U ry O =>
  af9 (thn (w i M l E _ U O) λfv s3 ⟨z,S,J,p,ov,g,q⟩=>ag7 ?_))))
 exact F6 hu J g ry p λw' s4 R c=>⟨_,S,R,c,q⟩
end
noncomputable def aL(X:Cx)(a:am0)(e:List (Str×O1))(N:List Str)(C:O1)(s:N1)(H:Hp)(c:List O1):Cx where
 prog:=X.prog
 w:=X.w
 K:=X.K
 mg:=X.mg
 base:=X.base
 A:=X.A
 N:=N
 s₀:=s
 H₀:=H
 env:=aw0 a e C X.env
 outer:=X.stack
 stack:=X.stack
 ex:=c
 calm:=X.calm
 fn:=λ_=>false
 pn:=[]
 xe:=λ_ _=>False
noncomputable def cv:List Bool->St->St
 |true::c,v::a=>v::cv c a
 |false::c,_::a=>none::cv c a
 |[],_::a=>none::cv [] a
 |_,[]=>[]
theorem cx:∀(ms:List Bool) (σ:St),(cv ms σ).length=σ.length
 |true::ms,v::σ=>by simp[cv,cx ms σ]
 |false::ms,_::σ=>by simp[cv,cx ms σ]
 |[],_::σ=>by simp[cv,cx [] σ]
 |[],[]=>by simp[cv]
 |true::_,[]=>by simp[cv]
 |false::_,[]=>by simp[cv]
theorem j4:∀{ms:List Bool}{σ:St}{i:Nat}{v:V},(cv ms σ)[i]?=some (some v)->ms[i]?=some true/\σ[i]?=some (some v)
 |true::ms,v::σ,0,x,h=>by simpa[cv]using h
 |true::ms,v::σ,i+1,x,h=>by
  have:=j4 (ms:=ms) (σ:=σ) (i:=i) (v:=x) (by simpa[cv]using h);simpa using this
 |false::ms,_::σ,0,x,h=>by simp[cv]at h
 |false::ms,_::σ,i+1,x,h=>by
  have:=j4 (ms:=ms) (σ:=σ) (i:=i) (v:=x) (by simpa[cv]using h);simpa using this
 |[],_::σ,0,x,h=>by simp[cv]at h
 |[],_::σ,i+1,x,h=>by
  have:=j4 (ms:=[]) (σ:=σ) (i:=i) (v:=x) (by simpa[cv]using h);simpa using this
 |[],[],_,_,h=>by simp[cv]at h
 |true::_,[],_,_,h=>by simp[cv]at h
 |false::_,[],_,_,h=>by simp[cv]at h
def kW(ms:List Bool)(k:Nat)(σ:St):St:=cv ms σ++R7 k none
theorem AJ{ms:List Bool}{k:Nat}{σ:St}{i:Nat}{v:V}(h:(kW ms k σ)[i]?=some (some v)):i<σ.length/\ms[i]?=some true/\σ[i]?=some (some v):=by
 unfold kW at h
 by_cases a:i<(cv ms σ).length
 ·rw[V7 a]at h;exact⟨by rwa [cx]at a,j4 h⟩
 ·rw[ad9 (by lia),ak5]at h
  split at h<;>cases h
structure eP(X:Cx) (scope:am0) (cl:List (Str×O1)) (ms:List Bool) (ar:List Str):Prop where
 kind:scope.kind=.function
 ncell:∀y∈scope.names,y.2≠.cell
 names:∀y∈scope.names,y.2=.local->scope.names.lookup y.1=some .local
 clos:closureFor scope X.env=al5 cl
 sub:∀x c,cl.lookup x=some c->X.env.cells.lookup x=some c
 has:∀x,scope.names.lookup x=some .free->∃c,cl.lookup x=some c
 fr:∀x,scope.names.lookup x=some .free->X.env.scope.names.lookup x=some .cell∨X.env.scope.names.lookup x=some .free
 mask:∀(i:Nat) (x:Str),ms[i]?=some true->X.N[i]?=some x->scope.names.lookup x=some .free
 mlen:ms.length<=X.N.length
theorem my{env:Env}:∀{names:List (Str×aa2)}{x:Str}{k:aa2},
  (names.map λ(n,k)=>if(k==ae7&&env.scope.kind==.function&&env.kindOf n==some .cell)then(n,ap9)else(n,k)).lookup x=some k->(∀y∈names,y.2≠.cell)->k=.cell∨k=.free->names.lookup x=some .free
 |[],_,_,h,_,_=>by simp at h
 |(n,c)::r,x,k,h,f,g=>by
  have ih:=@my env r x k;have h:ai7 x ((if(c==ae7&&env.scope.kind==.function&&env.kindOf n==some .cell)=true then(n,ap9)else(n,c))::_)=some k:=h;cases e:x==n with
  |true =>
   by_cases a:(c==ae7&&env.scope.kind==.function&&env.kindOf n==some .cell)=true
   ·have:c=.free:=by
     simp at a;exact a.1.1
    subst this;simp[V3,e]
   ·rw[if_neg a]at h;simp only[V3,e]at h;cases h;rcases g with rfl|rfl
    ·exact absurd rfl (f (n,.cell) V8)
    ·simp[V3,e]
  |false =>
   by_cases a:(c==ae7&&env.scope.kind==.function&&env.kindOf n==some .cell)=true
   ·rw[if_pos a]at h;simp only[V3,e]at h ⊢;exact ih h (λy i=>f y (S7 _ i)) g
   ·rw[if_neg a]at h;simp only[V3,e]at h ⊢;exact ih h (λy i=>f y (S7 _ i)) g
theorem mX{env:Env}:∀{names:List (Str×aa2)}{x:Str},names.lookup x=some .free ->
  (names.map λ(n,k)=>if(k==ae7&&env.scope.kind==.function&&env.kindOf n==some .cell)then(n,ap9)else(n,k)).lookup x=some .cell ∨
  (names.map λ(n,k)=>if(k==ae7&&env.scope.kind==.function&&env.kindOf n==some .cell)then(n,ap9)else(n,k)).lookup x=some .free
 |[],_,h=>by simp at h
 |(n,c)::r,x,h=>by
  have ih:=@mX env r x;show ai7 x ((if(c==ae7&&env.scope.kind==.function&&env.kindOf n==some .cell)=true then(n,ap9)else(n,c))::_)=_∨ai7 x ((if(c==ae7&&env.scope.kind==.function&&env.kindOf n==some .cell)=true then(n,ap9)else(n,c))::_)=_;cases a:x==n with
  |true =>
   simp only[V3,a]at h;cases h
   split
   ·left;simp[V3,a]
   ·right;simp[V3,a]
  |false =>
   simp only[V3,a]at h
   split<;>(simp only[V3,a];exact ih h)
section
variable{X:Cx}{af:List (O1×Obj)}{σ:St}{H H2:Hp}{s L:N1}{G:am0}{Y:List (Str×O1)}{ms:List Bool}{ar:List Str}
theorem Cc(I:Inv X af σ H s)(S:eP X G Y ms ar){i:List O1}(a:∀b∈i,gx X af H b)(j:∀b∈i,b<s.heap.objs.size){C:O1}(l:s.heap.objs.size<=C):
  (aL X G Y (X.N++ar) C s H i).Ok where
 mod:=I.ok.mod
 kind:=S.kind
 glob:=I.ok.glob
 blt:=I.ok.blt
 above:=l
 inj:=λx y c m n=>I.ok.inj x y c (S.sub x c m) (S.sub y c n)
 has:=λx g=>S.has x (my (env:=X.env) (k:=if(aL X G Y (X.N++ar) C s H i).env.kindOf x=some .cell then .cell else .free) (by
  rcases g with g|g
  ·rw[if_pos g];exact g
  ·rw[if_neg (by rw[g];decide)];exact g) S.ncell (by split<;>simp))
 cab:=λx c h=>by cases h
 hd:=I.ok.hd
 frames:=I.ok.frames
 stk:=.inl rfl
 exf:=λb f=>⟨P8 (O4 (j b f) l),λx c e=>(a b f).2.2.2.2.1 x c (S.sub x c e)⟩
 bs:=I.bs
 bsz:=N3 I.ok.bsz I.sz
 noex:=λb o e f=>by
  rcases(a b f).2.2.2.1 with z|z
  ·exact I.ok.noex b o e z
  ·exact absurd (O4 (P2 e) (N3 I.ok.bsz z)) (ai0 _)
 exfs:=λb f z=>by
  rcases O9.mp (I.stkSub b z)with e|e
  ·exact(a b f).2.1 e
  ·exact(a b f).2.2.1 e
 funs:=I.stack
 frf:=I.stkFree
theorem EL(I:Inv X af σ H s)(S:eP X G Y ms ar){q:List O1}(B:∀b∈q,gx X af H b)(h:∀b∈q,b<s.heap.objs.size){C:O1}(J:s.heap.objs.size<=C)
  (os:L.os=s.os) (a:av7 L.gens) (keep:∀b o,s.heap.get? b=some o->L.heap.get? b=some o) {m:Str->Option M0} (hn:L.heap.Ns C m) :
  Inv (aL X G Y (X.N++ar) C s H q) [] (kW ms ar.length σ) H L where
 ok:=Cc I S B h J
 os:=os
 bare:=a
 base:=Un.kept keep
 loc:=⟨m,hn,λi x v Q h2 h3=>by
  obtain⟨T,O,R⟩:=AJ h2;have A:i<X.N.length:=by rw[<-I.len];exact T
  have N:X.N[i]?=some x:=by
   have g:(X.N++ar)[i]?=some x:=Q
   rwa [V7 A]at g
  have f:=S.mask i x O N;obtain⟨m0,P,U⟩:=I.loc;obtain⟨u,r,l⟩:=U i x v N R (by rcases S.fr x f with z|z<;>simp[Vis,z]);refine⟨u,r,.inr ⟨?_,?_⟩⟩
  ·exact mX (env:=X.env) f
  ·obtain⟨c,M⟩:=S.has x f;have w:=S.sub x c M;rcases l with⟨k,_⟩|⟨_,c',e,z⟩
   ·rcases S.fr x f with z|z<;>(have E:X.env.scope.names.lookup x=some .local:=k;rw[z]at E;cases E)
   ·rw[w]at e;cases e;obtain⟨o,n,j⟩:=z;exact⟨c,M,o,keep _ _ n,j⟩⟩
 cell:=λx c e=>by
  obtain⟨v,o,n,j⟩:=I.cell x c (S.sub x c e);exact⟨v,o,keep _ _ n,j⟩
 free:=I.hok.fresh J
 freeC:=λx c e=>I.freeC x c (S.sub x c e)
 pin:=λp Z=>absurd (show p∈([]:List (O1×Obj))from Z) (by simp)
 hok:=I.hok.kept keep
 len:=by
  unfold kW;rw[O6,cx,List.length_replicate,I.len];show _=(X.N++ar).length;rw[O6]
end
def PIf(X:Cx)(a:List R6)(t:TT):Prop :=
 ∀(f:List (O1×Obj)) (s:N1) (e:St) (H:Hp) (Q:Bool->Hp->Prop),Inv X f e H s->t e H Q ->
  P6 (R4 X.prog X.w) X.A (forIn a true λc r=>if r=true then do let ok <-isTrue c X.env (af8 c X.env);al5 (ad4 ok)else al5 (ad4 r)) (TP X f e Q) X.xe s
def LR:TT:=λ_ H Q=>Q true H
theorem Em{X:Cx}:PIf X [] LR:=λ_ _ _ H _ I h=>wpAny_tests_nil ⟨H,I,h⟩
theorem FF{X:Cx}{c:R6}{t:TT}(h:PT X c t):PIf X [c] t:=λe s a H Q I q=>wpAny_tests_one (h e s a H Q I q)
noncomputable abbrev g8(a:List M0)(n:Nat):Obj:={ cls:=.type "list",data:=.seq a.toArray n }
theorem thF{c:Type}{t:Sem c}{Q f:c->N1->Prop}{M:Model}{A:S0}{E:M0->N1->Prop}{s:N1}(g:E=λ_ _=>False)(h:P6 M A t Q E s)(i:∀a s,Q a s->f a s):P6 M A t f (λ_ _=>False) s:=X9 h i λe s x=>by rw[g]at x;exact x
noncomputable abbrev lcE(el:R6)(a:List at5)(c:am0)(ps:Pos):R6:=.ListComp el a c ps
section
variable{prog:Q7}{w:U9}{A:S0}{R:aA0->N1->Prop}{s:N1}{el L H i:R6}{fs:List R6}{k:Nat}{p:Pos}{it y:M0}{env:Env}{z:List at5}{G:am0}{ps:Pos}
abbrev AWt:=(N1->Prop)->N1->Prop
def zl(prog:Q7)(w:U9)(A:S0)(H:R6)(y:M0)(env:Env):AWt:=λOk s=>P6 (R4 prog w) A (af8 H env) (λx a=>P6 (R4 prog w) A (call (.builtin "list.append") [y,x]) (λ_ c=>Ok c) (λ_ _=>False) a) (λ_ _=>False) s
def Dd(prog:Q7)(w:U9)(A:S0)(h:R6)(k:Nat)(i:R6)(y:M0)(env:Env):AWt:=λOk s=>P6 (R4 prog w) A (af8 i env) (λx a=>P6 (R4 prog w) A (au9 x) (λg c =>
 am8 (R4 prog w) A (.compStart h k g y env) (λr e=>(∃f,r=.ok f)/\Ok e) c) (λ_ _=>False) a) (λ_ _=>False) s
def F0(a:R6)(k:Nat)(p:Pos)(L:R6)(fs:List R6)(e:M0->M0->Env->Sem Fin):Prop:=∀it y env,compTurn a k it y env=(do
  ay3 p
  let r <-as1 it
  match r with
   |none=>al5 (Fin.done Flow.next)
   |some v=>do
    ap7 L it v
    au8 L env v
    let ok <-forIn fs true λc r=>if r=true then do let ok <-PySem.isTrue c env (af8 c env);al5 (ad4 ok)else al5 (ad4 r)
    if ok=true then e it y env else again (an5 a k it y env))
def FW(prog:Q7)(w:U9)(A:S0)(h:R6)(k:Nat)(i:M0->M0->Env->Sem Fin)(it y:M0)(env:Env)(g:AWt):Prop :=
 ∀Ok s (R:aA0->N1->Prop) (E:M0->N1->Prop),g Ok s->P6 (R4 prog w) A (i it y env) (λa c=>match a with|.done f=>R (.ok f) c|.again e=>e=an5 h k it y env/\Ok c) E s
theorem sE{B:M0->M0->Env->Sem Fin}{u:AWt}(J:F0 (lcE el z G ps) k p L fs B)(H:(an5 (lcE el z G ps) k it y env).quiet=true:=by rfl)(C:FW prog w A (lcE el z G ps) k B it y env u)(I:Nat->N1->Prop)
  (q:∀ n s,I n s → P6 (R4 prog w) A (as1 it) (λr a => match r with
   |none=>R (.ok .next) a
   | some v => P6 (R4 prog w) A (ap7 L it v) (λ_ a => P6 (R4 prog w) A (au8 L env v) (λ_ g =>
     P6 (R4 prog w) A (forIn fs true λc r=>if r=true then do let ok <-isTrue c env (af8 c env);al5 (ad4 ok)else al5 (ad4 r)) (λok f =>
      if ok=true then u (λo=>∃m,m<n/\I m o) f
      else ∃m,m<n/\I m f) (λ_ _=>False) g) (λ_ _=>False) a) (λ_ _=>False) a) (λ_ _=>False) s)
  (n:Nat) (h:I n s) :
  am8 (R4 prog w) A (.compLoop (lcE el z G ps) k it y env) R s:=by
 refine codeAny_loop H I (λn s E=>?_) n h;show P6 _ A ((compTurn (lcE el z G ps) k it y env).onRaise (λx=>do noteFrame x env;theTreesLotGoes x)) _ _ s;refine wpAny_noted ?_;rw[J];refine o0 (at3 (o0 (X9 (q n s E) (λr a e=>?_) λ_ _ j=>j.elim)));cases r with
 |none=>exact M9 e
 |some v =>
  refine o0 (X9 e (λ_ M e=>?_) λ_ _ j=>j.elim);refine o0 (X9 e (λ_ g l=>o0 (X9 l (λok f i=>?_) λ_ _ j=>j.elim)) λ_ _ j=>j.elim);cases ok with
  |false=>exact M9 ⟨rfl,i⟩
  |true=>exact C _ _ _ _ i
noncomputable def GT(a:R6)(k:Nat)(H:R6):M0->M0->Env->Sem Fin:=λit y env=>bind (bind (af8 H env) λx=>bind (call (M0.builtin "list.append") [y,x]) λ_=>al5 ()) λ(_:Unit)=>again (an5 a k it y env)
noncomputable def GI(c:R6)(k:Nat)(i:R6):M0->M0->Env->Sem Fin:=λit y env=>do
 let x <-af8 i env
 ay3 i.pos
 let x <-T0 i env x
 let a <-at7 [x] (au9 x)
 let _ <-runOwn (aA9.compStart c (k+1) a y env) env
 again (an5 c k it y env)
theorem EO:FW prog w A (lcE el z G ps) k (GT (lcE el z G ps) k H) it y env (zl prog w A H y env):=λOk s R E h =>
 o0 (o0 (X9 h (λx g c=>o0 (X9 c (λ_ f a=>M9 (M9 ⟨rfl,a⟩)) λ_ _ e=>e.elim)) λ_ _ e=>e.elim))
theorem EB(hs:∀x,T0 i env x=al5 x):FW prog w A (lcE el z G ps) k (GI (lcE el z G ps) k i) it y env (Dd prog w A (lcE el z G ps) (k+1) i y env):=λOk s R E h=>by
 refine o0 (X9 h (λx l c=>o0 (at3 ?_)) λ_ _ g=>g.elim);rw[hs x];refine o0 (M9 (o0 (W5 (X9 c (λn j e=>?_) λ_ _ g=>g.elim))));refine o0 (wpAny_runOwn (ai3 e λr m a=>?_));obtain⟨⟨f,rfl⟩,a⟩:=a;exact M9 ⟨rfl,a⟩
def Dw(a:R6)(k:Nat)(p:Pos):Prop:=∀it y env,compStart a k it y env=(do
  let r <-ask
  if r.params.followText "comprehension-iter-twice"=true then again (an5 a k it y env)
   else do
    rule "comprehension.iter-twice"
    ay3 p
    let i <-au9 it
    again (an5 a k i y env))
theorem rQ(e:Dw (lcE el z G ps) k p)(h:am8 (R4 prog w) A (.compLoop (lcE el z G ps) k it y env) R s)
  (f:P6 (R4 prog w) A (au9 it) (λa s'=>am8 (R4 prog w) A (.compLoop (lcE el z G ps) k a y env) R s') (λ_ _=>False) s) :
  am8 (R4 prog w) A (.compStart (lcE el z G ps) k it y env) R s:=by
 refine au2 ?_;show P6 _ A ((compStart (lcE el z G ps) k it y env).onRaise (λx=>do noteFrame x env;ay3 theWindowsPlace)) _ _ s;refine wpAny_onRaise ?_;rw[e];refine o0 (as9 ?_);dsimp only
 split
 ·exact M9 ⟨rfl,h⟩
 ·exact o0 (ap3 (o0 (at3 (o0 (X9 f (λa s' c=>M9 ⟨rfl,c⟩) λ_ _ c=>c.elim)))))
end
abbrev BK:=List V->St->Hp->(List V->St->Hp->Prop)->Prop
def nI(J:It)(g:TG)(tc:TT)(B:BK)(W:Nat->Nat->List V->St->Hp->Prop)(Z:List V->St->Hp->Prop):Prop :=
 ∀i m c j H,W i m c j H->c.length<=N7/\((J.stop i H/\Z c j H) ∨
  (J.go i H/\∀x f,J.yld i H x f->g x j f λa o=>tc a o λb n=>if b=true then B c a n (λh l f=>∃e,e<m/\W (i+1) e h l f)else ∃e,e<m/\W (i+1) e c a n))
def mJ(te:TE):BK:=λe a H Z=>te a H λy c=>Z (e++[y]) a c
def rK(wi:TI)(g:TG)(tc:TT)(B:BK):BK:=λe a H Z=>wi a H λJ c=>∃W:Nat->Nat->List V->St->Hp->Prop,(∃m,W 0 m e a c)/\nI J g tc B W Z
section
variable{Y:Cx}{D:O1}{el tg G i1:R6}{fs:List R6}{g:TG}{tc:TT}{te:TE}{wi:TI}{B:BK}{k:Nat}{p:Pos}{N:List at5}{sc:am0}{ps:Pos}
def GE(Y:Cx)(D:O1)(j:AWt)(B:BK):Prop:=∀(P:List (O1×Obj)) (c:List M0) (nn:Nat) (g:List V) (i:St) (H:Hp) (s:N1) (Z:List V->St->Hp->Prop),Inv Y ([(D,g8 c nn)]++P) i H s->aH g c->g.length<=N7->(∀p∈P,p.1≠D)->B g i H Z ->
 j (λl=>∃f a m e h,Inv Y ([(D,g8 a m)]++P) e h l/\aH f a/\Z f e h) s
structure rj(Y:Cx) (D:O1):Prop where
 pn:Y.pn=[]
 calm:Y.calm=true
 xe:Y.xe=λ_ _=>False
 ex:D∈Y.ex∨Y.s₀.heap.objs.size<=D
 cell:∀x c,Y.env.cells.lookup x=some c->c≠D
theorem AWt.mono_leaf{prog:Q7}{w:U9}{A:S0}{c:M0}{env:Env}{Ok a:N1->Prop}{s:N1}(h:zl prog w A G c env Ok s)(k:∀s,Ok s->a s):zl prog w A G c env a s :=
 X9 h (λ_ _ e=>X9 e (λ_ _ f=>k _ f) λ_ _ x=>x) λ_ _ x=>x
theorem Cq(c:rj Y D)(he:PE Y G te):GE Y D (zl Y.prog Y.w Y.A G (.ref D) Y.env) (mJ te):=by
 intro P f nn S n H s Z I B T l q;refine thF c.xe (he _ s n H _ I q) λv x j=>j.el λy C w U O=>?_;have a:=w.pin (D,g8 f nn) (S8 _ (ab5 _ V8));have u:f.toArray.size<=N7:=by rw[O0,<-B.length];exact T
 refine PySem.wpAny_list_append_plain (hsz:=u) ⟨nn,a.1⟩ λN g i=>?_;obtain⟨E,g⟩:=g;have m:Inv Y [] n C { x with heap:=N } :=
  Inv.turned (t':=x.toks) (it:=D) (w.pins_of λp h=>absurd h (by simp)) (λb o Q e=>(i.2 b Q).trans e) a.2.1 a.2.2.1 c.ex c.cell (λp h=>absurd (show p∈([]:List (O1×Obj))from by rw[c.pn]at h;exact h) (by simp))
 refine⟨S++[y],f++[v],E,n,C,m.pins_of λp h=>?_,B.append (.cons U .nil),O⟩;rcases P0.mp h with z|z
 ·have e:p=(D,g8 (f++[v]) E):=N8.mp z;subst e;refine⟨?_,a.2.1,a.2.2.1,a.2.2.2.1,λv z=>by cases z⟩;rw[g];simp[g8]
 ·obtain⟨R,J,M,X,L⟩:=w.pin p (S8 _ (S8 _ z));exact⟨(i.2 _ (l p z)).trans R,J,M,X,L⟩
structure Lv(Y:Cx) (D:O1) (ce:R6) (k:Nat) (p:Pos) (tg:R6) (fs:List R6) (B:BK):Prop where
 ex:∃bd AW,F0 ce k p tg fs bd/\(∀it,FW Y.prog Y.w Y.A ce k bd it (.ref D) Y.env AW)/\GE Y D AW B/\∀{Ok Ok':N1->Prop} {s:N1},AW Ok s->(∀s,Ok s->Ok' s)->AW Ok' s
theorem o8(c:rj Y D)(he:PE Y G te)(a:F0 (lcE el N sc ps) k p tg fs (GT (lcE el N sc ps) k G)):Lv Y D (lcE el N sc ps) k p tg fs (mJ te):=⟨_,_,a,λ_=>EO,Cq c he,AWt.mono_leaf⟩
theorem uf(c:rj Y D)(L:Lv Y D (lcE el N sc ps) k p tg fs B){O:O1}
  (hg:PG Y tg g) (a':PIf Y fs tc) {P:List (O1×Obj)} (a6:∀p∈P,p.1≠D)
  {its0:List M0} {nn0:Nat} {J:List V} {σ:St} {H:Hp} {s:N1} (I:Inv Y ([(D,g8 its0 nn0)]++P) σ H s) (b2:aH J its0) {l:List O1} {C:Nat->Q9->Prop} {J2:It} (T:m8 Y.prog Y.w Y.K tg J2 l O C) (st:C 0 s.heap)
  (f:∀b∈l,gx Y ([(D,g8 its0 nn0)]++P) H b) {W2:Nat->Nat->List V->St->Hp->Prop} {Z2:List V->St->Hp->Prop} {m0:Nat} (w0:W2 0 m0 J σ H) (S:nI J2 g tc B W2 Z2) {R:aA0->N1->Prop}
  (hR:∀(s':N1) (A:List V) (a:List M0) (n:Nat) (j:St) (q:Hp),Inv Y ([(D,g8 a n)]++P) j q s'->aH A a->A.length<=N7->Z2 A j q->R (.ok .next) s') :
  am8 (R4 Y.prog Y.w) Y.A (.compLoop (lcE el N sc ps) k (.ref O) (.ref D) Y.env) R s:=by
 obtain⟨bd,AW,hT,w,hB,b3⟩:=L.ex;have E:∀{H:Hp} {n:Nat} {a:List M0},(∀b∈l,H b=none)->∀b∈l,gx Y ([(D,g8 a n)]++P) H b:=λhn b w=>by
  obtain⟨_,a1,a2,a3,a4,a5⟩:=f b w;refine⟨hn b w,a1,a2,a3,a4,λp hp=>?_⟩;rw[c.pn,P1]at hp;rcases P0.mp hp with z|z
  ·obtain rfl:=N8.mp z;exact a5 (D,g8 its0 nn0) (by rw[c.pn];simp)
  ·exact a5 p (by rw[c.pn];simp[z])
 refine sE hT rfl (w _) (λn s'=>∃i A a nn j q,Inv Y ([(D,g8 a nn)]++P) j q s'/\aH A a/\C i s'.heap/\(∀b∈l,q b=none)/\W2 i n A j q) ?_ m0
  ⟨0,J,its0,nn0,σ,H,I,b2,st,λb w=>(f b w).1,w0⟩
 rintro n s' ⟨i,A,a,nn,j,q,I4,rv,U,X,w4⟩;obtain⟨hz,h⟩:=S i n A j q w4;rcases h with⟨stop,hZ⟩|⟨go,step⟩
 ·refine thn (T.done Y rfl rfl rfl c.calm i _ s' _ q (λ_ _=>False) I4 (E X) U stop) λr s4 ⟨hr,I5⟩=>?_;subst hr;exact hR s4 A a nn j q I5 rv hz hZ
 ·refine thn (T.item Y rfl rfl rfl c.calm i _ s' _ q (λ_ _=>False) I4 (E X) U go) λr s5 ⟨u,hr,h5⟩=>?_;subst hr;refine thn h5 λ_ s6 ⟨x,H6,I6,r6,y6,G,b5⟩=>?_;have b1:=I6.pinned (E b5) (T.obj _ _ G);refine thF c.xe (hg _ s6 _ H6 x u _ b1 r6 (step x H6 y6)) λ_ s7 ⟨M,H7,I7,q7⟩=>?_;refine thF c.xe (a' _ s7 M H7 _ I7 q7) λok s8 b4=>b4.el λH8 I8 q8=>?_;have m:∀{a:List M0} {nn:Nat} {Z:St} {H9:Hp} {s9:N1},Inv Y (([(D,g8 a nn)]++P)++lw l s6.heap) Z H9 s9->C (i+1) s9.heap/\∀b∈l,H9 b=none:=λ{a nn Z H9 s9} I9 =>
   ⟨T.keep _ _ _ G λb w o e=>(I9.pin (b,o) (S8 _ (S8 _ (iM w e)))).1,λb w=>by
    obtain⟨o,e,d⟩:=T.obj _ _ G b w;exact(I9.pin (b,o) (S8 _ (S8 _ (iM w e)))).2.1⟩
  cases ok with
  |false =>
   obtain⟨m',hm,w8⟩:=q8;obtain⟨a8,b8⟩:=m I8;exact⟨m',hm,i+1,A,a,nn,M,H8,I8.unpinned,rv,a8,b8,w8⟩
  |true =>
   have a0:∀p∈P++lw l s6.heap,p.1≠D:=λp hp=>by
    rcases P0.mp hp with z|z
    ·exact a6 p z
    ·have w:=(sZ z).1;intro e;exact(f _ w).2.2.2.2.2 (D,g8 its0 nn0) (by rw[c.pn];simp) e.symm
   refine b3 (hB (P++lw l s6.heap) a nn A M H8 s8 _ (by rw[<-aj7];exact I8) rv hz a0 q8) ?_;rintro s9 ⟨b0,Q,n',j,q,I',b6,m',hm,w'⟩;rw[<-aj7]at I';obtain⟨a9,b9⟩:=m I';exact⟨m',hm,i+1,b0,Q,n',j,q,I'.unpinned,b6,a9,b9,w'⟩
theorem xO{prog:Q7}{w:U9}{A:S0}{a:M0}{env:Env}{Ok c:N1->Prop}{s:N1}(h:Dd prog w A (lcE el N sc ps) k i1 a env Ok s)(h':∀s,Ok s->c s):Dd prog w A (lcE el N sc ps) k i1 a env c s :=
 X9 h (λ_ _ f=>X9 f (λ_ _ g=>ai3 g λ_ _ e=>⟨e.1,h' _ e.2⟩) λ_ _ x=>x) λ_ _ x=>x
theorem mw{l:R6}{o:List R6}{T:Pos}(c:rj Y D)(L:Lv Y D (lcE el N sc ps) (k+1) T l o B)(hS:Dw (lcE el N sc ps) (k+1) T)(hs:∀x,T0 i1 Y.env x=al5 x)(hi:PI Y l i1 wi)(hg:PG Y l g)(E:PIf Y o tc)
  (hT:F0 (lcE el N sc ps) k p tg fs (GI (lcE el N sc ps) k i1)):Lv Y D (lcE el N sc ps) k p tg fs (rK wi g tc B):=by
 refine⟨_,_,hT,λ_=>EB hs,?_,xO⟩;intro P m nn Q σ H s Z I rv hz A q;refine thF c.xe (hi _ s σ H _ I q) λv s9 h9=>thF c.xe h9 λa4 a2 M=>?_;obtain⟨a3,a0,a1,J2,U,e,C,S,j,G,W2,⟨m2,w2⟩,J⟩:=M;subst e;have h:=uf c L hg E A C rv S j G w2 J (R:=λr w=>(∃f,r=.ok f)/\∃u i n' a z,Inv Y ([(D,g8 i n')]++P) a z w/\aH u i/\Z u a z)
  (λs' Q m n a z X O _ hZ=>⟨⟨_,rfl⟩,Q,m,n,a,z,X,O,hZ⟩)
 exact rQ hS h (S.self _ 0 _ _ _ j h)
end
section
variable{X:Cx}{af:List (O1×Obj)}{σ L:St}{H2 H':Hp}{I s':N1}{G:am0}{Y:List (Str×O1)}{ms:List Bool}{ar:List Str}{elt t0 i0:R6}{f0:List R6}{gs:List at5}{g0:TG}{tc0:TT}{B:BK}{p pos:Pos}
theorem sU(S:eP X G Y ms ar)(eD:X.calm=true)
  (a6:∀C s H N,PG (aL X G Y (X.N++ar) C s H N) t0 g0) (U:∀C s H N,PIf (aL X G Y (X.N++ar) C s H N) f0 tc0)
  (hL:∀C s H N D,rj (aL X G Y (X.N++ar) C s H N) D->Lv (aL X G Y (X.N++ar) C s H N) D (lcE elt (⟨t0,i0,f0,0⟩::gs) G pos) 0 p t0 f0 B)
  (u:Inv X af σ H2 I) {it:O1} {M:List O1} {tn:Nat->Q9->Prop} {J:It} (T:m8 X.prog X.w X.K t0 J M it tn) (w:tn 0 I.heap) (fz:∀b∈M,gx X af H2 b)
  {W:Nat->Nat->List V->St->Hp->Prop} {Z:List V->St->Hp->Prop} {m0:Nat} (w0:W 0 m0 [] (kW ms ar.length σ) H2) (a0:nI J g0 tc0 B W Z)
  {RR:M0->O1->aA0->N1->Prop} {E:M0->N1->Prop}
  (a8:∀ (s':N1) (ys:List V) (j:List M0) (n:Nat) (L:St) (H':Hp),Inv (aL X G Y (X.N ++ ar) (I.heap.objs.size + 1) I H2 M) [(I.heap.objs.size,g8 j n)] L H' s' → aH ys j → ys.length ≤ N7 → Z ys L H' →
   RR (.ref I.heap.objs.size) (I.heap.objs.size+1) (.ok .next) s') :
  P6 (R4 X.prog X.w) X.A (newList []) (λR g=>P6 (R4 X.prog X.w) X.A (newFunctionEnv G X.env.globals Y [] X.env.qual none .none (some X.env)) (λm Q =>
   am8 (R4 X.prog X.w) X.A (.compStart (lcE elt (⟨t0,i0,f0,0⟩::gs) G pos) 0 (.ref it) R { m with scope:=relabel G X.env }) (RR R m.locals) Q) E g) E I:=by
 refine S3 (wpAny_newFunctionEnv S.ncell (by intro y hy;simp at hy) (λh f a=>?_) S.kind);dsimp only at f a ⊢;have a4:(I.heap.push { cls:=.type "list",dict:=none,data:=.seq ([]:List M0).toArray }).objs.size=I.heap.objs.size+1:=by rw[W1]
 rw[a4]at f a ⊢;have l:∀b∈M,b<I.heap.objs.size:=λb i=>by
  obtain⟨o,e,_⟩:=T.obj _ _ w b i;exact P2 e
 have A:∀b o,I.heap.get? b=some o->h.get? b=some o:=λb o e=>a.extBut b o (P8 (X7 (P2 e))) (M7 _ (M7 _ e));have a2:h.get? I.heap.objs.size=some (g8 [] 0):=a.extBut _ _ (P8 (ab9 _)) (M7 _ (N6 _ rfl));have a3:H2 I.heap.objs.size=none:=u.hok.fresh (N2 _);have O:∀b,I.heap.objs.size<=b->b∉(aL X G Y (X.N++ar) (I.heap.objs.size+1) I H2 M).fs:=λb i z=>by
  rcases O9.mp (u.stkSub b z)with e|e
  ·subst e;exact absurd (O4 u.lt i) (ai0 _)
  ·exact u.nofs i e
 have q:∀g:N1,g={ I with heap:=h,toks:=I.toks+([]:List (Str×M0)).length } ->
   am8 (R4 X.prog X.w) X.A (.compLoop (lcE elt (⟨t0,i0,f0,0⟩::gs) G pos) 0 (.ref it) (.ref I.heap.objs.size) (aw0 G Y (I.heap.objs.size+1) X.env)) (RR (.ref I.heap.objs.size) (I.heap.objs.size+1)) g:=by
  rintro g rfl;have I3:Inv (aL X G Y (X.N++ar) (I.heap.objs.size+1) I H2 M) [] (kW ms ar.length σ) H2 { I with heap:=h,toks:=I.toks+([]:List (Str×M0)).length } :=
   EL u S fz l (ar1 _) rfl u.bare A f
  have c:rj (aL X G Y (X.N++ar) (I.heap.objs.size+1) I H2 M) I.heap.objs.size:=⟨rfl,eD,rfl,.inr (N2 _),λx c e=>by
   obtain⟨v,o,ho,_⟩:=u.cell x c (S.sub x c e);exact P8 (P2 ho)⟩
  refine uf c (hL _ _ _ _ _ c) (a6 _ _ _ _) (U _ _ _ _) (P:=[]) (λp hp=>nomatch hp) (its0:=[]) (nn0:=0) (I3.pins_of λp hp=>?_) .nil T (T.keep _ _ _ w λb _ o e=>A b o e) (λb i=>?_) w0 a0 ?_
  ·have e:p=(I.heap.objs.size,g8 [] 0):=N8.mp hp;subst e;exact⟨a2,a3,P8 (ab9 _),O _ (N2 _),λv z=>by cases z⟩
  ·exact⟨(fz b i).1,P8 (X7 (l b i)),(Cc u S fz l (ar1 _)).exfs b i,.inl i,λx c e=>(fz b i).2.2.2.2.1 x c (S.sub x c e),λp hp=>by
    have:p=(I.heap.objs.size,_):=N8.mp (show p∈[(I.heap.objs.size,_)]from hp);subst this;exact ap2 (l b i)⟩
  ·exact λs' ys j n L H' I' rv hz hZ=>a8 s' ys j n L H' I' rv hz hZ
 exact codeAny_compStart_list (q _ rfl) (T.self _ 0 _ _ _ (T.keep _ _ _ w λb _ o e=>A b o e) (q _ rfl))
end
section
variable{X:Cx}{af:List (O1×Obj)}{σ σ':St}{H2 H':Hp}{Y s':N1}{G:am0}{cl:List (Str×O1)}{ms:List Bool}{ar:List Str}{tg L elt:R6}{ifs:List R6}{g:TG}{tc:TT}{te:TE}{pos p:Pos}{B:BK}{gs:List at5}
theorem sP(Q:Inv X af σ H2 Y){w:List O1}(x:∀b∈w,gx X af H2 b){f:List M0}{n:Nat}{m:List V}
  (j:Inv (aL X G cl (X.N++ar) (Y.heap.objs.size+1) Y H2 w) [(Y.heap.objs.size,g8 f n)] σ' H' s') (L:aH m f) (P:m.length<=N7) {h':Q9} (hs:S4 (Y.heap.objs.size+1) s'.heap h') :
  Inv X af σ (upd H' Y.heap.objs.size (.lst m)) { s' with heap:=h' }/\H' Y.heap.objs.size=none:=by
 have g:=j.pin (Y.heap.objs.size,g8 f n) (S8 _ V8);have J:H' (Y.heap.objs.size+1)=none:=j.free;have E:H' Y.heap.objs.size=none:=g.2.1;have up:∀b o,b≠Y.heap.objs.size+1->s'.heap.get? b=some o->h'.get? b=some o:=λb o a e=>(hs.2 b a).trans e;have s:∀b u,H' b=some u->b≠Y.heap.objs.size:=λb u e z=>by rw[z,E]at e;cases e
 have H:∀b u,H' b=some u->b≠Y.heap.objs.size+1:=λb u e z=>by rw[z,J]at e;cases e
 have l:h'.get? Y.heap.objs.size=some (g8 f n):=up _ _ (P8 (ab9 _)) g.1;have A:HOk X.prog X.w (upd H' Y.heap.objs.size (.lst m)) h':=λb u e=>by
  by_cases a:b=Y.heap.objs.size
  ·subst a;rw[aO]at e;cases e;exact⟨P,f,n,L,l⟩
  ·rw[aX a]at e;refine(j.hok b u e).stay (λc v C q=>up c v ?_ q) (λc q=>by rw[aX (s c _ q)];exact q) λc I q=>by rw[aX (s c _ q)];exact q
   rcases C with rfl|C
   ·exact H _ _ e
   ·exact H _ _ C
 have un:Un (frs X.stack) w H2 (upd H' Y.heap.objs.size (.lst m)) Y.heap h':=by
  have U:=j.base;have B:∀b o,Y.heap.get? b=some o->b≠Y.heap.objs.size:=λb o e=>P8 (P2 e);have h:∀b o,Y.heap.get? b=some o->b≠Y.heap.objs.size+1:=λb o e=>P8 (X7 (P2 e));refine⟨λb o e p a i=>up b o (h b o e) (U.keep b o e p a i),λb o e p a i=>?_,λb o e p i=>by rw[aX (B b o e)];exact U.free b o e p i,λb o e i=>?_,
   λb I e=>by have q:=U.tups b I e;rw[aX (s b _ q)];exact q,λb o u e=>by have q:=U.frzs b o u e;rw[aX (s b _ q)];exact q,λb N e=>?_⟩
  ·obtain⟨O,q⟩:=U.slot b o e p a i;exact⟨O,up b _ (h b o e) q⟩
  ·obtain⟨M,q⟩:=U.there b o e i;exact⟨M,up b _ (h b o e) q⟩
  ·obtain⟨more,q⟩:=U.tbls b N e;exact⟨more,by rw[aX (s b _ q)];exact q⟩
 exact⟨Q.call' (s':={ s' with heap:=h' }) (ch:=w) j.os un A j.bare λb a=>⟨(x b a).2.2.2.1,(x b a).2.1,(x b a).2.2.2.2.1,(x b a).2.2.2.2.2⟩,E⟩
def EK(ms:List Bool)(k:Nat)(wi:TI)(g:TG)(tc:TT)(B:BK):TE:=λσ H Q=>wi σ H λJ c=>∃(W:Nat->Nat->List V->St->Hp->Prop) (Z:List V->St->Hp->Prop),(∃m,W 0 m [] (kW ms k σ) c)/\nI J g tc B W Z /\
 ∀a σ' H p,Z a σ' H->H p=none->Q (.ref p) (upd H p (.lst a))
abbrev tLc(ms:List Bool)(k:Nat)(wi:TI)(g:TG)(tc:TT)(te:TE):TE:=EK ms k wi g tc (mJ te)
abbrev LvC(X:Cx)(G:am0)(cl:List (Str×O1))(ar:List Str)(c:R6)(p:Pos)(tg:R6)(ifs:List R6)(B:BK):Prop:=∀C s H a D,rj (aL X G cl (X.N++ar) C s H a) D->Lv (aL X G cl (X.N++ar) C s H a) D c 0 p tg ifs B
theorem DN(S:eP X G cl ms ar)(eD:X.calm=true){wi:TI}(hi:PI X tg L wi)
  (hg:∀C s H j,PG (aL X G cl (X.N++ar) C s H j) tg g) (c:∀C s H j,PIf (aL X G cl (X.N++ar) C s H j) ifs tc) (hL:LvC X G cl ar (lcE elt (⟨tg,L,ifs,0⟩::gs) G pos) p tg ifs B)
  (hs:∀x,T0 L X.env x=al5 x:=by intro _;rfl):PE X (lcE elt (⟨tg,L,ifs,0⟩::gs) G pos) (EK ms ar.length wi g tc B):=by
 intro af s σ H Q I h;rw[eval_ListComp];refine wpAny_comprehension_free (use:=none) rfl hs S.clos S.kind S.names (thn (hi af s σ H _ I h) λv s1 A=>thn A λP Y R=>?_);obtain⟨it,fp,tn,J,H2,e,o,T,l,w,W,Z,⟨m0,z⟩,a,q⟩:=R;subst e;refine sU S eD hg c hL o T l w z a (RR:=λi C=>compPost (R4 X.prog X.w) X.A X.xe none (EP X af σ Q) i C) ?_;intro s' ys E n σ' H' u O hz N;obtain⟨m,hm,_⟩:=u.loc;refine⟨m,hm,λh' f=>?_⟩;obtain⟨U,M⟩:=sP o w u O hz f;exact⟨.ref Y.heap.objs.size,_,U,rfl,q ys _ H' _ N M⟩
theorem kh{i:Nat}{x:Str}{j f:Pos}(hN:X.N.Nodup)(a0:X.N[i]?=some x)(hx:X.env.scope.names.lookup x=some .local)
  (a4:ai1 (lcE elt (⟨tg,L,ifs,0⟩::gs) G pos) (some (.Name x f)) j.line X.env=al5 true)
  (S:eP X G cl ms ar) (eD:X.calm=true) {wi:TI} (hi:PI X tg L wi)
  (hg:∀C s H ex,PG (aL X G cl (X.N++ar) C s H ex) tg g) (E:∀C s H ex,PIf (aL X G cl (X.N++ar) C s H ex) ifs tc) (R:LvC X G cl ar (lcE elt (⟨tg,L,ifs,0⟩::gs) G pos) p tg ifs B)
  (hs:∀x,T0 L X.env x=al5 x:=by intro _;rfl):PS X (.Assign [.Name x f] (lcE elt (⟨tg,L,ifs,0⟩::gs) G pos) j) (Jm (EK ms ar.length wi g tc B) (wY i)):=by
 intro af s σ H D I h;rw[exec_Assign_Name_used _ _ _ _ a4];refine o0 (at3 (o0 ?_));show P6 _ _ (do let _ <-comprehension (lcE elt (⟨tg,L,ifs,0⟩::gs) G pos) G X.env _ (newList []) false (af8 L X.env) (some (au8 (.Name x f) X.env))) _ _ s;refine o0 (X9 (wpAny_comprehension_free (use:=some (au8 (.Name x f) X.env)) (Q:=λ_ s'=>SP X af D .next s') rfl hs S.clos S.kind S.names
  (thn (hi af s σ H _ I h) λv s1 h1=>thn h1 λa8 Y h2=>?_)) (λ_ s' N=>M9 (M9 N)) λ_ _ e=>e)
 obtain⟨it,fp,tn,J,H2,e,u,T,a2,f2,W,Z,⟨m0,w0⟩,w,q⟩:=h2;subst e;refine sU S eD hg E R u T a2 f2 w0 w (RR:=λa1 C=>compPost (R4 X.prog X.w) X.A X.xe (some (au8 (.Name x f) X.env)) (λ_ s'=>SP X af D .next s') a1 C) ?_;intro s' ys a6 n σ' H' I' rv hz hZ;obtain⟨m,hm,_⟩:=I'.loc;obtain⟨I3,hD⟩:=sP u f2 I' rv hz (S4.refl (Y.heap.objs.size+1) s'.heap);have N:=q ys _ H' _ hZ hD;show P6 _ _ (au8 (.Name x f) X.env (.ref Y.heap.objs.size)) _ _ _;refine wpAny_assign_Name (sI I3 hN a0 (.inl hx) (v:=.ref Y.heap.objs.size) rfl (λs4 I4 l=>?_) (.inr hx));obtain⟨a,a3,O⟩:=l;have A:Y.heap.objs.size+1≠X.env.locals:=ap2 (X7 u.lt);have a5:Y.heap.objs.size+1≠a:=by
  rcases O with rfl|O
  ·exact A
  ·intro z;obtain⟨v,o,ho,_⟩:=u.cell x a O;exact absurd (X7 (P2 ho)) (by rw[<-z];exact ai0 _)
 have U:upd H' Y.heap.objs.size (.lst ys) (Y.heap.objs.size+1)=none:=by rw[aX (ap2 (ab9 _))];exact I'.free
 refine⟨m,hm.sameBut a3 a5,λP M=>?_⟩;refine⟨_,_,?_,N⟩;have R:∀b o,b≠Y.heap.objs.size+1->s4.heap.get? b=some o->P.get? b=some o:=λb o hb e=>(M.2 b hb).trans e;have I5:=Inv.turned (t':=s4.toks) (h':=P) (it:=Y.heap.objs.size+1) I4 (λb o hb e=>R b o hb e) U A (.inr (U7 u.sz)) (λy c e=>by
  obtain⟨v,o,ho,_⟩:=u.cell y c e;exact P8 (X7 (P2 ho))) (λp hp=>by
  exact P8 (X7 (P2 (u.pin p hp).1)))
 exact I5
theorem yp(he:∀C s H a,PE (aL X G cl (X.N++ar) C s H a) elt te):LvC X G cl ar (lcE elt [⟨tg,L,ifs,0⟩] G pos) L.pos tg ifs (mJ te):=λ_ _ _ _ _ c=>o8 c (he _ _ _ _) λ_ _ _=>rfl
end
inductive Bx where
 |dk (ks:List Key)|dt (ks:List (List Key))|ins (C:O1) (fs:List Str)|key
 deriving Inhabited
inductive D where
 |non|bl (b:Bool)|int (i:Int)|str (x:Str)|tup (ds:List D)|lst (ds:List D)|scr (ds:List D)|emp|ref (a:O1)|box (t:Bx) (ds:List D)
 deriving Inhabited
inductive HD where
 |lst (ds:List D)|dK (kvs:List (Key×D))|dT (kvs:List (List Key×D))|dKr (o:Obj) (ks:List (Key×V)) (kvs:List (Key×D))|ins (C:O1) (fs:List (Str×D))
 |ext (φ:List V->Q9->Prop) (ds:List D)
 deriving Inhabited
abbrev DH:=O1->Option HD
noncomputable def ay(M:DH)(a:O1)(o:HD):DH:=λb=>if b=a then some o else M b
noncomputable def k5(M:DH)(a:O1):DH:=λb=>if b=a then none else M b
noncomputable abbrev noM:DH:=λ_=>none
theorem aq{M:DH}{a:O1}{o:HD}:ay M a o a=some o:=if_pos rfl
theorem aA{M:DH}{a b:O1}{o:HD}(h:b≠a):ay M a o b=M b:=if_neg h
theorem aF{M:DH}{a:O1}{o u:HD}:ay (ay M a o) a u=ay M a u:=by
 funext b;unfold ay;split<;>rfl
theorem fC{M:DH}{a:O1}:k5 M a a=none:=if_pos rfl
theorem o9{M:DH}{a b:O1}(h:b≠a):k5 M a b=M b:=if_neg h
theorem ju{M:DH}{a:O1}{o:HD}(h:M a=none):k5 (ay M a o) a=M:=by
 funext b;unfold k5 ay;split
 ·rename_i e;rw[e,h]
 ·rfl
theorem t4{M:DH}{a:O1}{o:HD}(h:M a=some o):ay M a o=M:=by
 funext b;unfold ay;split
 ·rename_i e;rw[e,h]
 ·rfl
def tX(K:u8)(M:DH)(H:Hp)(a:O1)(c:List V):Prop:=(Rd H a (.tup c)/\M a=none)∨SqT K (λ_=>none) a c
def yU(M:DH)(H:Hp)(a:O1)(c:List V):Prop:=H a=some (.lst c)/\M a=none
def tZ(K:u8)(M:DH)(H:Hp)(a:O1)(c:List V):Prop:=((∃o,H a=some (.frz o (.lst c)))/\M a=none)∨SqL K (λ_=>none) a c
def KQ(M:DH)(H:Hp)(a:O1):Prop:=H a=some (.dK [])/\M a=none
def i5(M:DH)(H:Hp)(a:O1):Bx->List V->Prop
 |.dk e,c=>e.length=c.length/\(∃o,H a=some (.frz o (.dK (e.zip c))))/\M a=none
 |.dt e,c=>e.length=c.length/\(∃o,H a=some (.frz o (.dT (e.zip c))))/\M a=none
 |.ins C fs,c=>fs.length=c.length/\(∃f,H a=some (.ins C f (fs.zip c)))/\M a=none
 |.key,c=>True/\(∃g:Unit,H a=some (.tup c))/\M a=none
mutual
def Rep(K:u8)(M:DH)(H:Hp):D->V->Prop
 |.non,v=>v=.non
 |.bl b,v=>v=.bl b
 |.int i,v=>v=.int i
 |.str x,v=>v=.str x
 |.tup e,v=>∃a c,v=.ref a/\tX K M H a c/\aw K M H e c
 |.lst e,v=>∃a c,v=.ref a/\yU M H a c/\aw K M H e c
 |.scr e,v=>∃a c,v=.ref a/\tZ K M H a c/\aw K M H e c
 |.emp,v=>∃a,v=.ref a/\KQ M H a
 |.ref a,v=>v=.ref a
 |.box t e,v=>∃a c,v=.ref a/\i5 M H a t c/\aw K M H e c
def aw(K:u8)(M:DH)(H:Hp):List D->List V->Prop
 |[],a=>a=[]
 |d::e,a=>∃v c,a=v::c/\Rep K M H d v/\aw K M H e c
end
def Ext(M:DH)(H:Hp)(c:DH)(e:Hp):Prop:=∀a o,H a=some o->M a=none->e a=some o/\c a=none
theorem Ext.refl(M:DH)(H:Hp):Ext M H M H:=λ_ _ h n=>⟨h,n⟩
theorem Ext.trans{M M1 M2:DH}{H f e:Hp}(a:Ext M H M1 f)(b:Ext M1 f M2 e):Ext M H M2 e:=λc o h n=>b c o (a c o h n).1 (a c o h n).2
variable{K:u8}{M M' M1 M2:DH}{H H' H1 H2:Hp}
theorem tX.ext{a:O1}{c:List V}(h:tX K M H a c)(e:Ext M H M' H'):tX K M' H' a c:=by
 rcases h with⟨r|⟨o,r⟩,n⟩|h
 ·exact .inl ⟨.inl (e a _ r n).1,(e a _ r n).2⟩
 ·exact .inl ⟨.inr ⟨o,(e a _ r n).1⟩,(e a _ r n).2⟩
 ·exact .inr h
theorem yU.ext{a:O1}{c:List V}(h:yU M H a c)(e:Ext M H M' H'):yU M' H' a c:=e a _ h.1 h.2
theorem tZ.ext{a:O1}{c:List V}(h:tZ K M H a c)(e:Ext M H M' H'):tZ K M' H' a c:=by
 rcases h with⟨⟨o,r⟩,n⟩|h
 ·exact .inl ⟨⟨o,(e a _ r n).1⟩,(e a _ r n).2⟩
 ·exact .inr h
theorem i5.ext{a:O1}{t:Bx}{c:List V}(h:i5 M H a t c)(e:Ext M H M' H'):i5 M' H' a t c:=by
 cases t<;>(obtain⟨l,⟨o,r⟩,n⟩:=h;exact⟨l,⟨o,(e a _ r n).1⟩,(e a _ r n).2⟩)
mutual
theorem Rep.ext:∀{d:D}{v:V},Rep K M H d v->Ext M H M' H'->Rep K M' H' d v
 |.non,_,h,_=>h
 |.bl _,_,h,_=>h
 |.int _,_,h,_=>h
 |.str _,_,h,_=>h
 |.ref _,_,h,_=>h
 |.emp,_,h,e=>by
  simp only[Rep]at h ⊢;obtain⟨a,rfl,c,f⟩:=h;exact⟨a,rfl,e a _ c f⟩
 |.tup i,_,h,e=>by
  simp only[Rep]at h ⊢;obtain⟨a,g,rfl,c,f⟩:=h;exact⟨a,g,rfl,c.ext e,aw.ext f e⟩
 |.lst i,_,h,e=>by
  simp only[Rep]at h ⊢;obtain⟨a,g,rfl,c,f⟩:=h;exact⟨a,g,rfl,c.ext e,aw.ext f e⟩
 |.scr i,_,h,e=>by
  simp only[Rep]at h ⊢;obtain⟨a,g,rfl,c,f⟩:=h;exact⟨a,g,rfl,c.ext e,aw.ext f e⟩
 |.box t i,_,h,e=>by
  simp only[Rep]at h ⊢;obtain⟨a,g,rfl,c,f⟩:=h;exact⟨a,g,rfl,c.ext e,aw.ext f e⟩
theorem aw.ext:∀{ds:List D}{a:List V},aw K M H ds a->Ext M H M' H'->aw K M' H' ds a
 |[],_,h,_=>h
 |d::ds,_,h,e=>by
  simp only[aw]at h ⊢;obtain⟨v,c,rfl,f,g⟩:=h;exact⟨v,c,rfl,Rep.ext f e,aw.ext g e⟩
end
theorem aw.length:∀{ds:List D}{a:List V},aw K M H ds a->ds.length=a.length
 |[],_,h=>by simp only[aw]at h;subst h;rfl
 |d::ds,_,h=>by
  simp only[aw]at h;obtain⟨v,e,rfl,f,c⟩:=h;simp[aw.length c]
theorem aw.nil:aw K M H [] []:=by simp[aw]
theorem aw.cons{d:D}{v:V}{ds:List D}{a:List V}(h:Rep K M H d v)(t:aw K M H ds a):aw K M H (d::ds) (v::a):=by
 simp only[aw];exact⟨v,a,rfl,h,t⟩
theorem aw.append:∀{ds es:List D}{a ws:List V},aw K M H ds a->aw K M H es ws->aw K M H (ds++es) (a++ws)
 |[],_,_,_,h,t=>by simp only[aw]at h;subst h;exact t
 |d::ds,es,_,ws,h,t=>by
  simp only[aw]at h;obtain⟨v,f,rfl,c,e⟩:=h;exact aw.cons c (aw.append e t)
theorem aw.get:∀{ds:List D}{f:List V}{i:Nat}{d:D},aw K M H ds f->ds[i]?=some d->∃v,f[i]?=some v/\Rep K M H d v
 |[],_,_,_,_,e=>by simp at e
 |d::ds,_,0,x,h,e=>by
  simp only[aw]at h;obtain⟨v,j,rfl,c,g⟩:=h;simp at e;subst e;exact⟨v,rfl,c⟩
 |d::ds,_,i+1,x,h,e=>by
  simp only[aw]at h;obtain⟨v,j,rfl,c,g⟩:=h;obtain⟨w,a,b⟩:=aw.get (i:=i) (d:=x) g (by simpa using e);exact⟨w,by simpa using a,b⟩
theorem aw.take:∀{ds:List D}{a:List V}(n:Nat),aw K M H ds a->aw K M H (ds.take n) (a.take n)
 |ds,a,0,_=>by simp[aw]
 |[],_,n+1,h=>by simp only[aw]at h;subst h;simp[aw]
 |d::ds,_,n+1,h=>by
  simp only[aw]at h;obtain⟨v,f,rfl,c,e⟩:=h;exact aw.cons c (aw.take n e)
theorem aw.drop:∀{ds:List D}{a:List V}(n:Nat),aw K M H ds a->aw K M H (ds.drop n) (a.drop n)
 |ds,a,0,h=>h
 |[],_,n+1,h=>by simp only[aw]at h;subst h;simp[aw]
 |d::ds,_,n+1,h=>by
  simp only[aw]at h;obtain⟨v,e,rfl,f,c⟩:=h;exact aw.drop n c
theorem aw.set:∀{ds:List D}{e:List V}{d:D}{v:V}(n:Nat),aw K M H ds e->Rep K M H d v->aw K M H (ds.set n d) (e.set n v)
 |[],_,_,_,n,h,r=>by simp only[aw]at h;subst h;simp[aw]
 |d::ds,_,_,_,0,h,r=>by
  simp only[aw]at h;obtain⟨v,f,rfl,c,a⟩:=h;exact aw.cons r a
 |d::ds,_,_,_,n+1,h,r=>by
  simp only[aw]at h;obtain⟨v,f,rfl,c,a⟩:=h;exact aw.cons c (aw.set n a r)
theorem aw.one{d:D}{a:List V}(h:aw K M H [d] a):∃v,a=[v]/\Rep K M H d v:=by
 simp only[aw]at h;obtain⟨v,e,rfl,c,rfl⟩:=h;exact⟨v,rfl,c⟩
def KR(K:u8)(M:DH)(H:Hp){κ:Type}:List (κ×D)->List (κ×V)->Prop:=af1 λp q=>p.1=q.1/\Rep K M H p.2 q.2
theorem KR.ext{κ:Type}{kvs:List (κ×D)}{ks:List (κ×V)}(h:KR K M H kvs ks)(e:Ext M H M' H'):KR K M' H' kvs ks:=af1.imp' (λ_ _ r=>⟨r.1,r.2.ext e⟩) h
def rR(K:u8)(M:DH)(H:Hp)(a:O1):HD->Prop
 |.lst g=>∃f,H a=some (.lst f)/\aw K M H g f
 |.dK c=>∃e,H a=some (.dK e)/\KR K M H c e
 |.dT c=>∃e,H a=some (.dT e)/\KR K M H c e
 |.dKr o e c=>∃l:Unit,H a=some (.frz o (.dK e))/\KR K M H c e
 |.ins C fs=>∃h,(∃i,H a=some (.ins C i h))/\KR K M H fs h
 |.ext j g=>∃f,H a=some (.ext (j f))/\aw K M H g f
def HR(K:u8)(M:DH)(H:Hp):Prop:=∀a o,M a=some o->rR K M H a o
theorem rR.some{a:O1}{o:HD}(h:rR K M H a o):∃u,H a=V1 u/\∀xs,u≠.tup xs/\∀ob,u≠.frz ob (.tup xs):=by
 cases o with
 |ins C fs=>obtain⟨c,⟨f,r⟩,_⟩:=h;exact⟨_,r,λxs=>⟨(by intro z;cases z),(by intro ob z;cases z)⟩⟩
 |_=>obtain⟨e,r,_⟩:=h;exact⟨_,r,λxs=>⟨(by intro z;cases z),(by intro ob z;cases z)⟩⟩
theorem rR.keep{a:O1}{o:HD}(h:rR K M H a o)(e:Ext M H M' H')(q:H' a=H a):rR K M' H' a o:=by
 cases o with
 |ins C fs=>obtain⟨c,⟨f,r⟩,t⟩:=h;exact⟨c,⟨f,by rw[q];exact r⟩,t.ext e⟩
 |_=>obtain⟨g,r,t⟩:=h;exact⟨g,by rw[q];exact r,t.ext e⟩
theorem HR.fresh(h:HR K M H){p:O1}(e:H p=none):M p=none:=by
 cases q:M p with
 |none=>rfl
 |some o =>
  obtain⟨u,r,_⟩:=(h p _ q).some;rw[e]at r;cases r
theorem HR.nil:HR K noM H:=λ_ _ h=>nomatch h
theorem Ext.new{p:O1}{o:HO}(hr:HR K M H)(h:H p=none):Ext M H M (upd H p o):=λa u e n=>by
 have:a≠p:=cR e h;rw[aX this];exact⟨e,n⟩
theorem HR.ext1(h:HR K M H)(e:Ext M H M H')(keep:∀a o,M a=some o->H' a=H a):HR K M H':=λa o q=>(h a o q).keep e (keep a o q)
theorem HR.new{p:O1}{o:HO}(hr:HR K M H)(h:H p=none):HR K M (upd H p o):=hr.ext1 (Ext.new hr h) λa u q=>by
 have:a≠p:=λz=>by rw[z,hr.fresh h]at q;cases q
 rw[aX this]
theorem Ext.own{p:O1}{o:HO}{u:HD}(h:H p=none):Ext M H (ay M p u) (upd H p o):=λa x e n=>by
 have:a≠p:=cR e h;rw[aX this,aA this];exact⟨e,n⟩
theorem HR.put{p:O1}{o:HO}{u:HD}(hr:HR K M H)(e:Ext M H (ay M p u) (upd H p o))(c:rR K (ay M p u) (upd H p o) p u):HR K (ay M p u) (upd H p o):=λa w q=>by
 by_cases z:a=p
 ·subst z;rw[aq]at q;cases q;exact c
 ·rw[aA z]at q;exact(hr a w q).keep e (aX z)
theorem HR.own{p:O1}{ds:List D}{a:List V}(hr:HR K M H)(h:H p=none)(r:aw K M H ds a):HR K (ay M p (.lst ds)) (upd H p (.lst a)) :=
 hr.put (Ext.own h) ⟨a,aO,r.ext (Ext.own h)⟩
theorem Ext.write{a:O1}{o:HO}{u w:HD}(h:M a=some w):Ext M H (ay M a u) (upd H a o):=λb x e n=>by
 have:b≠a:=λz=>by rw[z,h]at n;cases n
 rw[aX this,aA this];exact⟨e,n⟩
theorem HR.write{a:O1}{w:HD}{ds:List D}{c:List V}(hr:HR K M H)(h:M a=some w)(r:aw K M H ds c):HR K (ay M a (.lst ds)) (upd H a (.lst c)) :=
 hr.put (Ext.write h) ⟨c,aO,r.ext (Ext.write h)⟩
def LeM(M1 M:DH):Prop:=∀a o,M1 a=some o->M a=some o
theorem LeM.none(h:LeM M1 M){a:O1}(n:M a=none):M1 a=none:=by
 cases q:M1 a with
 |none=>rfl
 |some o=>rw[h a o q]at n;cases n
theorem LeM.refl:LeM M M:=λ_ _ h=>h
theorem LeM.del{a:O1}:LeM (k5 M a) M:=λb o h=>by
 unfold k5 at h;split at h
 ·cases h
 ·exact h
theorem Ext.le(h:LeM M1 M):Ext M H M1 H:=λa o e n=>⟨e,h.none n⟩
theorem HR.le(hr:HR K M H)(h:LeM M1 M):HR K M1 H:=λa o q=>(hr a o (h a o q)).keep (Ext.le h) rfl
theorem Rep.froze(hr:HR K M H)(h:LeM M1 M){a:O1}{ds:List D}(e:M a=some (.lst ds))(n:M1 a=none):Rep K M1 H (.lst ds) (.ref a):=by
 obtain⟨c,r,t⟩:=hr a _ e;simp only[Rep];exact⟨a,c,rfl,⟨r,n⟩,t.ext (Ext.le h)⟩
noncomputable def kP(M M1 M2:DH):DH:=λa=>match M2 a with|some o=>some o|none=>if M1 a=none then M a else none
theorem Ext.back(h:LeM M1 M)(e:Ext M1 H M2 H2):Ext M H (kP M M1 M2) H2:=λa o q n=>by
 obtain⟨c,f⟩:=e a o q (h.none n);refine⟨c,?_⟩;unfold kP;rw[f];simp[h.none n,n]
mutual
noncomputable def noL:D->Bool
 |.tup a=>nJ a
 |.lst _=>false
 |.scr _=>false
 |.emp=>false
 |.box _ _=>false
 |_=>true
noncomputable def nJ:List D->Bool
 |[]=>true
 |d::a=>noL d&&nJ a
end
mutual
theorem Rep.hard:∀{d:D}{v:V},noL d=true->Rep K M H d v->(∀a xs,Rd H a (.tup xs)->M' a=none)->Rep K M' H d v
 |.non,_,_,h,_=>h
 |.bl _,_,_,h,_=>h
 |.int _,_,_,h,_=>h
 |.str _,_,_,h,_=>h
 |.ref _,_,_,h,_=>h
 |.emp,_,n,_,_=>by simp[noL]at n
 |.box _ _,_,n,_,_=>by simp[noL]at n
 |.lst _,_,n,_,_=>by simp[noL]at n
 |.scr _,_,n,_,_=>by simp[noL]at n
 |.tup i,_,n,h,e=>by
  simp only[Rep]at h ⊢;obtain⟨a,c,rfl,f,g⟩:=h;refine⟨a,c,rfl,?_,aw.hard (by simpa[noL]using n) g e⟩;rcases f with⟨r,_⟩|r
  ·exact .inl ⟨r,e a c r⟩
  ·exact .inr r
theorem aw.hard:∀{ds:List D}{c:List V},nJ ds=true->aw K M H ds c->(∀a xs,Rd H a (.tup xs)->M' a=none)->aw K M' H ds c
 |[],_,_,h,_=>h
 |d::ds,_,n,h,e=>by
  simp only[aw]at h ⊢;obtain⟨v,f,rfl,g,i⟩:=h;simp only[nJ,V2]at n;exact⟨v,f,rfl,Rep.hard n.1 g e,aw.hard n.2 i e⟩
end
theorem df(hr:HR K M H)(h:LeM M1 M)(e:Ext M1 H M2 H2)(g:HR K M2 H2):∀a xs,Rd H2 a (.tup xs)->kP M M1 M2 a=none:=by
 intro a xs r;unfold kP;cases q:M2 a with
 |some o =>
  obtain⟨u,z,n⟩:=(g a _ q).some;rcases r with r|⟨o,r⟩
  ·rw[z]at r;exact absurd (T4 r) (n xs).1
  ·rw[z]at r;exact absurd (T4 r) ((n xs).2 o)
 |none =>
  by_cases n:M1 a=none
  ·simp only[n,if_true];cases f:M a with
   |none=>rfl
   |some o =>
    obtain⟨u,z,m⟩:=(hr a _ f).some;have c:=(e a _ z n).1;rcases r with r|⟨o,r⟩
    ·rw[c]at r;exact absurd (T4 r) (m xs).1
    ·rw[c]at r;exact absurd (T4 r) ((m xs).2 o)
  ·simp[n]
noncomputable def noC:HD->Bool
 |.lst c=>nJ c
 |.dK a=>nJ (a.map (·.2))
 |.dT a=>nJ (a.map (·.2))
 |.dKr _ _ a=>nJ (a.map (·.2))
 |.ins _ fs=>nJ (fs.map (·.2))
 |.ext _ c=>nJ c
theorem KR.hard{κ:Type}{kvs:List (κ×D)}{ks:List (κ×V)}(h:KR K M H kvs ks)(n:nJ (kvs.map (·.2))=true)(e:∀a xs,Rd H a (.tup xs)->M' a=none):KR K M' H kvs ks:=by
 unfold KR at h ⊢
 induction h with
 |nil=>exact .nil
 |cons r _ ih =>
  simp only[N5,nJ,V2]at n;exact .cons ⟨r.1,Rep.hard n.1 r.2 e⟩ (ih n.2)
theorem HR.back(hr:HR K M H)(h:LeM M1 M)(e:Ext M1 H M2 H2)(g:HR K M2 H2)(m:∀a o,M2 a=some o->noC o=true):HR K (kP M M1 M2) H2:=by
 have p:Ext M H (kP M M1 M2) H2:=Ext.back h e;intro a o q;unfold kP at q;cases j:M2 a with
 |some w =>
  rw[j]at q;cases q;have c:=g a _ j;have n:=m a _ j;cases o with
  |lst l=>obtain⟨f,z,t⟩:=c;exact⟨f,z,aw.hard n t (df hr h e g)⟩
  |ext s l=>obtain⟨f,z,t⟩:=c;exact⟨f,z,aw.hard n t (df hr h e g)⟩
  |dK i=>obtain⟨f,z,t⟩:=c;exact⟨f,z,KR.hard t n (df hr h e g)⟩
  |dT i=>obtain⟨f,z,t⟩:=c;exact⟨f,z,KR.hard t n (df hr h e g)⟩
  |ins C fs=>obtain⟨f,z,t⟩:=c;exact⟨f,z,KR.hard t n (df hr h e g)⟩
  |dKr o x i=>obtain⟨f,z,t⟩:=c;exact⟨f,z,KR.hard t n (df hr h e g)⟩
 |none =>
  rw[j]at q
  by_cases n:M1 a=none
  ·simp only[n,if_true]at q;have c:=hr a _ q;obtain⟨u,z,_⟩:=c.some;exact c.keep p (by rw[z];exact(e a _ z n).1)
  ·simp[n]at q
abbrev DE:=List (Option D)
def SR(K:u8)(M:DH)(H:Hp)(σ:St)(a:DE):Prop:=σ.length=a.length/\∀(i:Nat) (d:D),a[i]?=some (some d)->∃v,σ[i]?=some (some v)/\Rep K M H d v
theorem SR.ext{σ:St}{c:DE}(h:SR K M H σ c)(e:Ext M H M' H'):SR K M' H' σ c:=⟨h.1,λi d q=>let⟨v,a,r⟩:=h.2 i d q;⟨v,a,r.ext e⟩⟩
theorem SR.set{σ:St}{a:DE}{d:D}{v:V}(h:SR K M H σ a)(i:Nat)(r:Rep K M H d v):SR K M H (σ.set i (some v)) (a.set i (some d)):=by
 refine⟨by simp[h.1],λj e q=>?_⟩
 by_cases f:j=i
 ·subst f
  by_cases c:j<a.length
  ·rw[am1 c]at q;cases q;exact⟨v,am1 (by rw[h.1];exact c),r⟩
  ·rw[S9 (by simp;lia)]at q;cases q
 ·rw[List.getElem?_set_ne (aa3 f)]at q ⊢;exact h.2 j e q
abbrev TEd:=DE->DH->(D->DH->Prop)->Prop
abbrev TAd:=DE->DH->(List D->DH->Prop)->Prop
abbrev TTd:=DE->DH->(Bool->DH->Prop)->Prop
structure fZ where
 nx:DE->DH->Prop
 rt:D->DH->Prop
 bk:DE->DH->Prop:=λ_ _=>False
 ct:DE->DH->Prop:=λ_ _=>False
abbrev TSd:=fZ->DE->DH->Prop
def up(K:u8)(t:TEd):TE:=λc H Q=>∃(a:DE) (M:DH) (R:D->DH->Prop),SR K M H c a/\HR K M H/\t a M R /\
 ∀d M' v H',R d M'->Ext M H M' H'->HR K M' H'->Rep K M' H' d v->Q v H'
def upA(K:u8)(t:TAd):TA:=λf H Q=>∃(e:DE) (M:DH) (R:List D->DH->Prop),SR K M H f e/\HR K M H/\t e M R /\
 ∀a M' c H',R a M'->Ext M H M' H'->HR K M' H'->aw K M' H' a c->Q c H'
def upT(K:u8)(t:TTd):TT:=λc H Q=>∃(a:DE) (M:DH) (R:Bool->DH->Prop),SR K M H c a/\HR K M H/\t a M R /\
 ∀b M' H',R b M'->Ext M H M' H'->HR K M' H'->Q b H'
theorem upT.el{K:u8}{t:TTd}{σ:St}{H:Hp}{Q:Bool->Hp->Prop}{P:Prop}(h:upT K t σ H Q)(f:∀(e:DE) (M:DH) (R:Bool->DH->Prop),SR K M H σ e->HR K M H->t e M R->(∀b M' H',R b M'->Ext M H M' H'->HR K M' H'->Q b H')->P):P:=by
 obtain⟨g,j,i,a,b,c,d⟩:=h;exact f g j i a b c d
theorem up.el{K:u8}{t:TEd}{σ:St}{H:Hp}{Q:VK}{P:Prop}(h:up K t σ H Q)(f:∀(e:DE) (M:DH) (R:D->DH->Prop),SR K M H σ e->HR K M H->t e M R->(∀d M' v H',R d M'->Ext M H M' H'->HR K M' H'->Rep K M' H' d v->Q v H')->P):P:=by
 obtain⟨g,j,i,a,b,c,d⟩:=h;exact f g j i a b c d
theorem upA.el{K:u8}{t:TAd}{σ:St}{H:Hp}{Q:List V->Hp->Prop}{P:Prop}(h:upA K t σ H Q)(f:∀(g:DE) (M:DH) (R:List D->DH->Prop),SR K M H σ g->HR K M H->t g M R->(∀ds M' e H',R ds M'->Ext M H M' H'->HR K M' H'->aw K M' H' ds e->Q e H')->P):P:=by
 obtain⟨i,l,j,a,b,c,d⟩:=h;exact f i l j a b c d
structure UpE(K:u8) (E:fZ) (D:xt) (M:DH) (H:Hp):Prop where
 nx:∀ Δ' M' σ' H',E.nx Δ' M'->Ext M H M' H'->HR K M' H'->SR K M' H' σ' Δ'->D.nx σ' H'
 bk:∀ Δ' M' σ' H',E.bk Δ' M'->Ext M H M' H'->HR K M' H'->SR K M' H' σ' Δ'->D.bk σ' H'
 ct:∀ Δ' M' σ' H',E.ct Δ' M'->Ext M H M' H'->HR K M' H'->SR K M' H' σ' Δ'->D.ct σ' H'
 rt:∀d M' v H',E.rt d M'->Ext M H M' H'->HR K M' H'->Rep K M' H' d v->D.rt v H'
theorem UpE.ext{E:fZ}{D:xt}(u:UpE K E D M H)(e:Ext M H M' H'):UpE K E D M' H' :=
 ⟨λa b c d h x=>u.nx a b c d h (e.trans x),λa b c d h x=>u.bk a b c d h (e.trans x),λa b c d h x=>u.ct a b c d h (e.trans x),λa b c d h x=>u.rt a b c d h (e.trans x)⟩
def upS(K:u8)(t:TSd):TS:=λD c H=>∃(a:DE) (M:DH) (E:fZ),SR K M H c a/\HR K M H/\t E a M/\UpE K E D M H
theorem upS.el{K:u8}{t:TSd}{E:xt}{σ:St}{H:Hp}{P:Prop}(h:upS K t E σ H)(f:∀(e:DE) (M:DH) (R:fZ),SR K M H σ e->HR K M H->t R e M->UpE K R E M H->P):P:=by
 obtain⟨g,i,j,a,b,c,d⟩:=h;exact f g i j a b c d
def PEd(X:Cx)(e:R6)(t:TEd):Prop:=PE X e (up X.K t)
def PAd(X:Cx)(es:List R6)(t:TAd):Prop:=PA X es (upA X.K t)
def PTd(X:Cx)(e:R6)(t:TTd):Prop:=PT X e (upT X.K t)
def PWd(X:Cx)(e:R6)(t:TTd):Prop:=PW X e (upT X.K t)
def PSd(X:Cx)(st:af0)(t:TSd):Prop:=PS X st (upS X.K t)
def FI(X:Cx)(st:List af0)(t:TSd):Prop:=PSs X st (upS X.K t)
theorem PE.conv{X:Cx}{e:R6}{t t':TE}(h:PE X e t)(k:∀ σ H Q,t' σ H Q->t σ H Q):PE X e t':=λp s σ H Q I q=>h p s σ H Q I (k σ H Q q)
theorem PT.conv{X:Cx}{e:R6}{t t':TT}(h:PT X e t)(k:∀ σ H Q,t' σ H Q->t σ H Q):PT X e t':=λp s σ H Q I q=>h p s σ H Q I (k σ H Q q)
theorem PA.conv{X:Cx}{e:List R6}{t t':TA}(h:PA X e t)(k:∀ σ H Q,t' σ H Q->t σ H Q):PA X e t':=λa p s σ H Q I q=>h a p s σ H Q I (k σ H Q q)
theorem PS.conv{X:Cx}{e:af0}{t t':TS}(h:PS X e t)(k:∀D σ H,t' D σ H->t D σ H):PS X e t':=λp s σ H D I q=>h p s σ H D I (k D σ H q)
theorem PSs.conv{X:Cx}{e:List af0}{t t':TS}(h:PSs X e t)(k:∀D σ H,t' D σ H->t D σ H):PSs X e t':=λp s σ H D I q=>h p s σ H D I (k D σ H q)
section
variable{X:Cx}{a b c:R6}{es:List R6}{G L:TEd}{N:Pos}
def bN(i:Nat):TEd:=λa M Q=>∃d,a[i]?=some (some d)/\Q d M
def dC(d:D):TEd:=λ_ M Q=>Q d M
theorem F8{x:Str}{i:Int}{t:Tok}{N:Pos}(hg:Gl X x)(c:X.mg x=some (.int i t))(e:(x==("__debug__":Str))=false:=by decide):PEd X (.Name x N) (dC (.int i)) :=
 (uj (v:=.int i) hg c ⟨t,rfl⟩ e).conv λj H Q a=>a.el λg M R h f q k=>k _ M _ H q (Ext.refl _ _) f (by simp[Rep])
theorem Ey{x y:Str}{t:Tok}{N:Pos}(hg:Gl X x)(c:X.mg x=some (.str y t))(e:(x==("__debug__":Str))=false:=by decide):PEd X (.Name x N) (dC (.str y)) :=
 (uj (v:=.str y) hg c ⟨t,rfl⟩ e).conv λi H Q a=>a.el λg M R h f q k=>k _ M _ H q (Ext.refl _ _) f (by simp[Rep])
def fk:TAd:=λ_ M Q=>Q [] M
def cE(G:TEd)(c:TAd):TAd:=λa M Q=>G a M λx M1=>c a M1 λe M2=>Q (x::e) M2
def vX(t:TAd):TEd:=λc M Q=>t c M λa M1=>a.length<=N7/\Q (.tup a) M1
def BX(t:TAd):TEd:=λc M Q=>t c M λa M1=>a.length<=N7/\Q (.lst a) M1
def Ge(t:TAd):TEd:=λc M Q=>t c M λa M1=>a.length<=N7/\∀p,M1 p=none->Q (.ref p) (ay M1 p (.lst a))
noncomputable def rdM(M:DH):D->D
 |.ref a=>match M a with|some (.lst c)=>.lst c|_=>.ref a
 |d=>d
def ba(K:u8)(M:DH)(H:Hp)(d:D)(v:V):Prop:=match d with
 |.tup e=>∃a c,v=.ref a/\SqT K H a c/\aw K M H e c
 |.lst e=>∃a c,v=.ref a/\H a=some (.lst c)/\aw K M H e c
 |.scr e=>∃a c,v=.ref a/\SqL K H a c/\aw K M H e c
 |d=>Rep K M H d v
theorem tX.sq{K:u8}{M:DH}{H:Hp}{a:O1}{c:List V}(h:tX K M H a c):SqT K H a c:=by
 rcases h with⟨h,_⟩|h
 ·exact .inl h
 ·rcases h with(h|⟨_,h⟩)|h
  ·cases h
  ·cases h
  ·exact .inr h
theorem tZ.sq{K:u8}{M:DH}{H:Hp}{a:O1}{c:List V}(h:tZ K M H a c):SqL K H a c:=by
 rcases h with⟨⟨o,h⟩,_⟩|h
 ·exact .inl (.inr ⟨o,h⟩)
 ·rcases h with(h|⟨_,h⟩)|h
  ·cases h
  ·cases h
  ·exact .inr h
theorem Rep.rd{K:u8}{M:DH}{H:Hp}{d:D}{v:V}(hr:HR K M H)(h:Rep K M H d v):ba K M H (rdM M d) v:=by
 cases d with
 |tup f=>simp only[Rep]at h;obtain⟨a,c,e,t,r⟩:=h;exact⟨a,c,e,t.sq,r⟩
 |lst f=>simp only[Rep]at h;obtain⟨a,c,e,t,r⟩:=h;exact⟨a,c,e,t.1,r⟩
 |scr f=>simp only[Rep]at h;obtain⟨a,c,e,t,r⟩:=h;exact⟨a,c,e,t.sq,r⟩
 |ref a =>
  simp only[rdM];cases q:M a with
  |none=>exact h
  |some o =>
   cases o with
   |lst f =>
    obtain⟨c,e,r⟩:=hr a _ q;simp only[Rep]at h;exact⟨a,c,h,e,r⟩
   |dK _=>exact h
   |dT _=>exact h
   |dKr _ _ _=>exact h
   |ins _ _=>exact h
   |ext _ _=>exact h
 |non=>exact h
 |bl b=>exact h
 |int i=>exact h
 |str x=>exact h
 |emp=>exact h
 |box _ _=>exact h
def cC(X:Cx)(f:M0->M0->Sem M0)(r:D->D->Option D):Prop :=
 ∀(c:List (O1×Obj)) (s:N1) (a:St) (H:Hp) (M:DH) (x y:V) (v u:M0) (g e h:D) (Q:VK),Inv X c a H s->HR X.K M H->aQ x v->aQ y u->ba X.K M H g x->ba X.K M H e y->r g e=some h ->
  (∀w H',Ext M H M H'->HR X.K M H'->Rep X.K M H' h w->Q w H')->P6 (R4 X.prog X.w) X.A (f v u) (EP X c a Q) X.xe s
def KN(X:Cx)(f:M0->Sem M0)(r:D->Option D):Prop :=
 ∀(c:List (O1×Obj)) (s:N1) (a:St) (H:Hp) (M:DH) (x:V) (v:M0) (g e:D) (Q:VK),Inv X c a H s->HR X.K M H->aQ x v->ba X.K M H g x->r g=some e ->
  (∀w H',Ext M H M H'->HR X.K M H'->Rep X.K M H' e w->Q w H')->P6 (R4 X.prog X.w) X.A (f v) (EP X c a Q) X.xe s
def bX(X:Cx)(f:M0)(r:List D->Option D):Prop :=
 ∀(g:List (O1×Obj)) (s:N1) (c:St) (H:Hp) (M:DH) (h:List V) (e:List M0) (a:List D) (i:D) (Q:VK),Inv X g c H s->HR X.K M H->aH h e->af1 (ba X.K M H) a h->r a=some i ->
  (∀w H',Ext M H M H'->HR X.K M H'->Rep X.K M H' i w->Q w H')->P6 (R4 X.prog X.w) X.A (call f e) (EP X g c Q) X.xe s
def dOp(r:D->D->Option D)(G L:TEd):TEd:=λa M Q=>G a M λx M1=>L a M1 λy M2=>∃z,r (rdM M2 x) (rdM M2 y)=some z/\Q z M2
def dUn(r:D->Option D)(G:TEd):TEd:=λa M Q=>G a M λx M1=>∃z,r (rdM M1 x)=some z/\Q z M1
def opV(K:u8)(r:D->D->Option D):R2:=λx y H Q=>∃c a e M,HR K M H/\ba K M H c x/\ba K M H a y/\r c a=some e/\∀w H',Ext M H M H'->HR K M H'->Rep K M H' e w->Q w H'
theorem cC.v{f:M0->M0->Sem M0}{r:D->D->Option D}(h:cC X f r):OpR X f (opV X.K r):=λo s g H x y v u Q I c i ⟨m,j,l,M,p,a,n,e,k⟩=>h o s g H M x y v u m j l Q I p c i a n e k
theorem Dq{K:u8}{r:D->D->Option D}{G L:TEd}:∀ σ H Q,up K (dOp r G L) σ H Q->tOp (opV K r) (up K G) (up K L) σ H Q:=λσ H Q c=>c.el λj M R h A q k =>
 ⟨j,M,_,h,A,q,λx M1 v H1 m l e o=>⟨j,M1,_,h.ext l,e,m,λy M2 u H2 ⟨z,s,p⟩ i a n=>⟨_,_,z,M2,a,(o.ext i).rd a,n.rd a,s,λw H' B f g=>k z M2 w H' p ((l.trans i).trans B) f g⟩⟩⟩
def rS(t:TEd):TTd:=λa M Q=>t a M λx M1=>∃k,x=.bl k/\Q k M1
theorem Ke{K:u8}{t:TEd}:∀ σ H Q,upT K (rS t) σ H Q->GC (up K t) σ H Q:=λσ H Q a=>a.el λi M R g l q k =>
 ⟨i,M,_,g,l,q,λd M1 v H1 ⟨b,e,f⟩ j c h=>⟨b,by subst e;simpa only[Rep]using h,k b M1 H1 f j c⟩⟩
def Gm(t:TTd):TTd:=λa M Q=>t a M λc M1=>Q (!c) M1
def CI(t u:TTd):TTd:=λa M Q=>t a M λc M1=>if c=true then u a M1 Q else Q false M1
def Kq(t u:TTd):TTd:=λa M Q=>t a M λc M1=>if c=true then Q true M1 else u a M1 Q
variable{tA tB':TTd}{Y:List R6}
theorem PW.conv{X:Cx}{e:R6}{t t':TT}(h:PW X e t)(k:∀ σ H Q,t' σ H Q->t σ H Q):PW X e t':=λw p s σ H Q I q=>h w p s σ H Q I (k σ H Q q)
theorem PWd.pt{e:R6}{t:TTd}(h:PWd X e t):PTd X e t:=PW.pt h
def KU(G L:TEd):TEd:=λa M Q=>G a M λx M1=>∃c,x=.bl c/\if c=true then L a M1 Q else Q (.bl false) M1
def KM(G:TEd):TEd:=λa M Q=>G a M λx M1=>∃c,x=.bl c/\Q (.bl (!c)) M1
def dIf(t:TTd)(G L:TEd):TEd:=λa M Q=>t a M λc M1=>if c=true then G a M1 Q else L a M1 Q
def Cj(r e:D->D->Option D)(G L tc:TEd):TEd:=λc M Q=>G c M λx M1=>L c M1 λy M2=>∃k,r (rdM M2 x) (rdM M2 y)=some (.bl k)/\if k=true then tc c M2 λz a=>∃w,e (rdM a y) (rdM a z)=some w/\Q w a else Q (.bl false) M2
theorem Ag{K:u8}{M:DH}{H:Hp}(hr:HR K M H):∀{ds:List D}{a:List V},aw K M H ds a->af1 (ba K M H) (ds.map (rdM M)) a
 |[],_,h=>by simp only[aw]at h;subst h;exact .nil
 |d::ds,_,h=>by
  simp only[aw]at h;obtain⟨v,f,rfl,c,e⟩:=h;exact .cons (c.rd hr) (Ag hr e)
def dCB(r:List D->Option D)(t:TAd):TEd:=λc M Q=>t c M λa M1=>∃z,r (a.map (rdM M1))=some z/\Q z M1
theorem Gk{K:u8}{r:List D->Option D}{t:TAd}:∀ σ H Q,up K (dCB r t) σ H Q->tCB (λxs H Q=>∃ds f M,HR K M H/\af1 (ba K M H) ds xs/\r ds=some f/\∀w H',Ext M H M H'->HR K M H'->Rep K M H' f w->Q w H') (upA K t) σ H Q:=λσ H Q c=>c.el λl M R h p q k =>
 ⟨l,M,_,h,p,q,λds M1 s H1 ⟨z,o,g⟩ n a i=>⟨_,z,M1,a,Ag a i,o,λw H' j e m=>k z M1 w H' g (n.trans j) e m⟩⟩
theorem bX.v{f:M0}{r:List D->Option D}(h:bX X f r):dN X f (λxs H Q=>∃ds a M,HR X.K M H/\af1 (ba X.K M H) ds xs/\r ds=some a/\∀w H',Ext M H M H'->HR X.K M H'->Rep X.K M H' a w->Q w H') :=
 λi s g H xs c Q I l ⟨ds,a,M,m,j,e,k⟩=>h i s g H M xs c ds a Q I m l j e k
end
section
variable{X:Cx}
theorem cC.of{f:M0->M0->Sem M0}{r2:R2}{r:D->D->Option D}(h:OpR X f r2)
  (k:∀(H:Hp) (M:DH) (x y:V) (g a c:D) (Q:VK),HR X.K M H->ba X.K M H g x->ba X.K M H a y->r g a=some c->(∀w H',Ext M H M H'->HR X.K M H'->Rep X.K M H' c w->Q w H')->r2 x y H Q):cC X f r :=
 λn s l H M x y v u g a c Q I o j m i r2 e q=>h n s l H x y v u Q I j m (k H M x y g a c Q o i r2 e q)
theorem bX.of{f:M0}{r2:List V->Hp->VK->Prop}{r:List D->Option D}(h:dN X f r2)
  (k:∀(H:Hp) (M:DH) (xs:List V) (ds:List D) (a:D) (Q:VK),HR X.K M H->af1 (ba X.K M H) ds xs->r ds=some a->(∀w H',Ext M H M H'->HR X.K M H'->Rep X.K M H' a w->Q w H')->r2 xs H Q):bX X f r :=
 λj s i H M xs c ds a Q I m l g e q=>h j s i H xs c Q I l (k H M xs ds a Q m g e q)
theorem jo{K:u8}{M:DH}{H:Hp}{i:Int}{v:V}(h:ba K M H (.int i) v):v=.int i:=by simpa[ba,Rep]using h
theorem sD{K:u8}{M:DH}{H:Hp}{i:Str}{v:V}(h:ba K M H (.str i) v):v=.str i:=by simpa[ba,Rep]using h
theorem rBl{K:u8}{M:DH}{H:Hp}{i:Bool}{v:V}(h:ba K M H (.bl i) v):v=.bl i:=by simpa[ba,Rep]using h
theorem Lh{K:u8}{M:DH}{H:Hp}{v:V}(h:ba K M H .non v):v=.non:=by simpa[ba,Rep]using h
noncomputable def iOp(f:Int->Int->Option D):D->D->Option D
 |.int a,.int b=>f a b
 |_,_=>none
theorem p7{f:Int->Int->Option D}{x y z:D}(h:iOp f x y=some z):∃a b,x=.int a/\y=.int b/\f a b=some z:=by
 cases x<;>first|cases h|skip
 rename_i a;cases y<;>first|cases h|skip
 rename_i b;exact⟨a,b,rfl,rfl,h⟩
noncomputable def bD:D->Bool
 |.non=>true|.bl _=>true|.int _=>true|.str _=>true|_=>false
noncomputable def toV:D->V
 |.bl b=>.bl b|.int i=>.int i|.str x=>.str x|_=>.non
theorem vD{K:u8}{M:DH}{H:Hp}{d:D}(h:bD d=true):Rep K M H d (toV d):=by
 cases d<;>first|(simp[Rep,toV];done)|cases h
theorem wk{f:M0->M0->Sem M0}{C:Int->Int->Prop}[∀i j,Decidable (C i j)]{g:Int->Int->D}(hs:∀i j,bD (g i j)=true)(h:OpR X f (rI C λi j=>toV (g i j))):
  cC X f (iOp λi j=>if C i j then some (g i j)else none) :=
 cC.of h λH M x y p s u Q o l m e q=>by
  obtain⟨a,b,rfl,rfl,n⟩:=p7 e;clear e;have e:=n
  by_cases c:C a b
  ·rw[if_pos c]at e;cases e;exact⟨a,b,jo l,jo m,c,q _ _ (Ext.refl _ _) o (vD (hs a b))⟩
  ·rw[if_neg c]at e;cases e
theorem qK{f:M0->M0->Sem M0}{g:Int->Int->D}(hs:∀i j,bD (g i j)=true)(h:OpR X f (rI0 λi j=>toV (g i j))):
  cC X f (iOp λi j=>some (g i j)) :=
 cC.of h λH M x y p n o Q c m l e q=>by
  obtain⟨a,b,rfl,rfl,e⟩:=p7 e;cases e;exact⟨a,b,jo m,jo l,q _ _ (Ext.refl _ _) c (vD (hs a b))⟩
instance:∀i j,Decidable (xJ i j):=λi j=>by unfold xJ;exact inferInstance
instance:∀i j,Decidable (nO i j):=λi j=>by unfold nO;exact inferInstance
instance:∀i j,Decidable (xb i j):=λi j=>by unfold xb;exact inferInstance
theorem GM:cC X (ad8 .Sub) (iOp λi j=>some (.int (i-j))):=qK (λ_ _=>rfl) IK
theorem IR:cC X (ad8 .Mult) (iOp λi j=>if nO i j then some (.int (i*j))else none):=wk (λ_ _=>rfl) HZ
theorem B4:cC X (ad8 .FloorDiv) (iOp λi j=>if xJ i j then some (.int (i / j))else none):=wk (λ_ _=>rfl) EC
theorem mK:cC X (ad8 .Mod) (iOp λi j=>if 0<j then some (.int (i % j))else none):=wk (C:=λ_ j=>0<j) (λ_ _=>rfl) Hg
theorem Kh:cC X (ad8 .Pow) (iOp λi j=>if xb i j then some (.int (i ^ j.toNat))else none):=wk (λ_ _=>rfl) IF
theorem Hk:cC X (V4 .Lt) (iOp λi j=>some (.bl (decide (i<j)))):=qK (λ_ _=>rfl) Kn
theorem rV:cC X (V4 .LtE) (iOp λi j=>some (.bl (decide (i<=j)))):=qK (λ_ _=>rfl) Kr
theorem GZ:cC X (V4 .Gt) (iOp λi j=>some (.bl (decide (j<i)))):=qK (λ_ _=>rfl) JL
theorem Mn:cC X (V4 .GtE) (iOp λi j=>some (.bl (decide (j<=i)))):=qK (λ_ _=>rfl) Ly
theorem aw.at_{K:u8}{M:DH}{H:Hp}{ds:List D}{c:List V}{i:Int}{d:D}(h:aw K M H ds c)(e:atI ds i=some d):∃v,atI c i=some v/\Rep K M H d v:=by
 unfold atI at e ⊢;rw[<-h.length];cases q:ixN ds.length i with
 |none=>rw[q]at e;cases e
 |some j =>
  rw[q]at e;have f:ds[j]?=some d:=e;obtain⟨v,a,b⟩:=h.get f;exact⟨v,a,b⟩
def ixD:D->D->Option D
 |.tup a,.int i=>atI a i
 |.lst a,.int i=>atI a i
 |.scr a,.int i=>atI a i
 |.str z,.int i=>if z.length<=N7 then(atI z.cps.toList i).map λc=>.str ⟨#[c]⟩else none
 |_,_=>none
theorem a7:IxR X (opV X.K ixD):=by
 intro f slice B s n H x y v u Q I rx ry h hs;obtain⟨J,o,L,M,p,C,A,e,k⟩:=h;cases J with
 |tup G =>
  cases o with
  |int i =>
   obtain⟨a,l,rfl,sq,j⟩:=C;obtain⟨w,m,g⟩:=j.at_ e;exact Hd f slice B s n H _ _ v u Q I rx ry ⟨a,l,i,w,rfl,jo A,sq,m,k w H (Ext.refl _ _) p g⟩ hs
  |_=>cases e
 |lst G =>
  cases o with
  |int i =>
   obtain⟨a,l,rfl,sq,j⟩:=C;obtain⟨w,m,g⟩:=j.at_ e;exact zV f slice B s n H _ _ v u Q I rx ry ⟨a,l,i,w,rfl,jo A,SqL.of sq,m,k w H (Ext.refl _ _) p g⟩ hs
  |_=>cases e
 |scr G =>
  cases o with
  |int i =>
   obtain⟨a,l,rfl,sq,j⟩:=C;obtain⟨w,m,g⟩:=j.at_ e;exact zV f slice B s n H _ _ v u Q I rx ry ⟨a,l,i,w,rfl,jo A,sq,m,k w H (Ext.refl _ _) p g⟩ hs
  |_=>cases e
 |str z =>
  cases o with
  |int i =>
   simp only[ixD]at e
   by_cases E:z.length<=N7
   ·rw[if_pos E]at e;cases q:atI z.cps.toList i with
    |none=>rw[q]at e;cases e
    |some c =>
     rw[q]at e;cases e;exact Hn f slice B s n H _ _ v u Q I rx ry ⟨z,i,c,sD C,jo A,E,q,k _ H (Ext.refl _ _) p (by simp[Rep])⟩ hs
   ·rw[if_neg E]at e;cases e
  |_=>cases e
 |_=>cases e
noncomputable def gM:D->D->Option D
 |.int a,.int b=>some (.int (a+b))
 |.str a,.str b=>if a.length+b.length<=N7 then some (.str (a++b))else none
 |.lst a,.lst b=>if a.length+b.length<=N7 then some (.lst (a++b))else none
 |.tup a,.tup b=>if a.length+b.length<=N7 then some (.tup (a++b))else none
 |_,_=>none
theorem gN{K:u8}{M:DH}{H:Hp}{p:O1}{ds:List D}{c:List V}{Q:VK}(hr:HR K M H)(a:H p=none)(r:aw K M H ds c)(q:∀w H',Ext M H M H'->HR K M H'->Rep K M H' (.lst ds) w->Q w H'):Q (.ref p) (upd H p (.lst c)) :=
 q _ _ (Ext.new hr a) (hr.new a) (by simp only[Rep];exact⟨p,c,rfl,⟨aO,hr.fresh a⟩,r.ext (Ext.new hr a)⟩)
theorem uA{K:u8}{M:DH}{H:Hp}{p:O1}{ds:List D}{c:List V}{Q:VK}(hr:HR K M H)(a:H p=none)(r:aw K M H ds c)(q:∀w H',Ext M H M H'->HR K M H'->Rep K M H' (.tup ds) w->Q w H'):Q (.ref p) (upd H p (.tup c)) :=
 q _ _ (Ext.new hr a) (hr.new a) (by simp only[Rep];exact⟨p,c,rfl,.inl ⟨.inl aO,hr.fresh a⟩,r.ext (Ext.new hr a)⟩)
theorem ba.tup{K:u8}{M:DH}{H:Hp}{ds:List D}{v:V}(hr:HR K M H)(h:ba K M H (.tup ds) v):Rep K M H (.tup ds) v:=by
 obtain⟨a,f,rfl,sq,c⟩:=h;simp only[Rep];refine⟨a,f,rfl,?_,c⟩;rcases sq with r|k
 ·refine .inl ⟨r,?_⟩;cases q:M a with
  |none=>rfl
  |some o =>
   obtain⟨u,z,m⟩:=(hr a _ q).some;rcases r with r|⟨e,r⟩
   ·rw[z]at r;exact absurd (T4 r) (m _).1
   ·rw[z]at r;exact absurd (T4 r) ((m _).2 e)
 ·exact .inr (.inr k)
theorem Dx{prog:Q7}{w:U9}{A:S0}{E:M0->N1->Prop}{s:N1}{t b:O1}{ws:List M0}{Q:M0->N1->Prop}(x:aw8 s.heap t ([]:List M0).toArray)(q:aw8 s.heap b ws.toArray)
  (h:Q (.ref b) s):P6 (R4 prog w) A (ad8 .Add (.ref t) (.ref b)) Q E s:=by
 obtain⟨⟨p,z,m,u⟩,j,l,n,i⟩:=id x;obtain⟨⟨o,g,data2,f⟩,c,a,B,e⟩:=id q;simp only at l i a e;subst l i a e;exact concat_meets ⟨_,j,rfl⟩ ⟨_,c,rfl⟩ noFill_tuple_add seq_tuple_add PySem.F.slot_tuple_add PySem.F.entry_tuple_add (PySem.F.args_tuple_add_2 _ _)
   (tuple_addW0 t b ([]:List M0).toArray ws.toArray n B z g u f (by simp)) ⟨j,c,h⟩
theorem aP:cC X (ad8 .Add) gM:=by
 intro n s i H M x y v u dx dy dz Q I hr rx ry r1 r2 e k;cases dx with
 |int a =>
  cases dy with
  |int b =>
   cases e;exact Jx n s i H x y v u Q I rx ry ⟨a,b,jo r1,jo r2,k _ H (Ext.refl _ _) hr (by simp[Rep])⟩
  |_=>cases e
 |str a =>
  cases dy with
  |str b =>
   simp only[gM]at e
   by_cases g:a.length+b.length<=N7
   ·rw[if_pos g]at e;cases e;exact xY n s i H x y v u Q I rx ry ⟨a,b,sD r1,sD r2,g,k _ H (Ext.refl _ _) hr (by simp[Rep])⟩
   ·rw[if_neg g]at e;cases e
  |_=>cases e
 |lst a =>
  cases dy with
  |lst b =>
   simp only[gM]at e
   by_cases g:a.length+b.length<=N7
   ·rw[if_pos g]at e;cases e;obtain⟨q,j,rfl,h,c⟩:=r1;obtain⟨l,o,rfl,m,f⟩:=r2;exact HK n s i H _ _ v u Q I rx ry ⟨q,l,j,o,rfl,rfl,h,m,by rw[<-c.length,<-f.length];exact g,λp w=>gN hr w (c.append f) k⟩
   ·rw[if_neg g]at e;cases e
  |_=>cases e
 |tup a =>
  cases dy with
  |tup b =>
   simp only[gM]at e
   by_cases g:a.length+b.length<=N7
   ·rw[if_pos g]at e;cases e;have C:=ba.tup hr r1;have G:=ba.tup hr r2;obtain⟨q,j,rfl,h,c⟩:=r1;obtain⟨l,o,rfl,m,f⟩:=r2
    by_cases A:j=[]
    ·subst A;have L:a=[]:=by
      have:=c.length;cases a with
      |nil=>rfl
      |cons _ _=>simp at this
     subst L;cases rx;cases ry;obtain⟨B,O,P,_⟩:=I.tuple h;obtain⟨z,R,J,_⟩:=I.tuple m;cases O;exact Dx P J ⟨.ref l,H,I,rfl,k _ H (Ext.refl _ _) hr G⟩
    ·refine FS n s i H _ _ v u Q I rx ry ⟨q,l,j,o,rfl,rfl,h,m,A,by rw[<-c.length,<-f.length];exact g,λE=>?_,λ_ p w=>uA hr w (c.append f) k⟩;subst E;have N:b=[]:=by
      have:=f.length;cases b with
      |nil=>rfl
      |cons _ _=>simp at this
     subst N;rw[aa4]at k;exact k _ H (Ext.refl _ _) hr C
   ·rw[if_neg g]at e;cases e
  |_=>cases e
 |_=>cases e
mutual
noncomputable def eqD:D->D->Bool
 |.non,.non=>true
 |.bl a,.bl b=>a==b
 |.bl a,.int b=>(if a then 1 else 0)==b
 |.int a,.bl b=>a==(if b then 1 else 0)
 |.int a,.int b=>a==b
 |.str a,.str b=>a==b
 |.tup a,.tup b=>dh a b
 |.lst a,.lst b=>dh a b
 |_,_=>false
noncomputable def dh:List D->List D->Bool
 |[],[]=>true
 |a::c,b::bs=>eqD a b&&dh c bs
 |_,_=>false
end
mutual
noncomputable def dLe:D->Nat->Bool
 |.tup _,0=>false
 |.tup a,n+1=>cT a n
 |.lst _,0=>false
 |.lst a,n+1=>cT a n
 |.scr _,_=>false
 |.emp,_=>false
 |.box _ _,_=>false
 |.ref _,_=>false
 |_,_=>true
noncomputable def cT:List D->Nat->Bool
 |[],_=>true
 |d::a,n=>dLe d n&&cT a n
end
theorem g9:∀{ds:List D}{n i:Nat}{d:D},cT ds n=true->ds[i]?=some d->dLe d n=true
 |[],_,_,_,_,e=>by simp at e
 |d::ds,n,0,x,h,e=>by
  simp only[cT,V2]at h;simp at e;subst e;exact h.1
 |d::ds,n,i+1,x,h,e=>by
  simp only[cT,V2]at h;exact g9 h.2 (by simpa using e)
theorem mF:∀{ds:List D}{n:Nat},cT ds n=true↔∀d∈ds,dLe d n=true
 |[],n=>by simp[cT]
 |d::ds,n=>by simp[cT,mF (ds:=ds)]
noncomputable def eqN(ds es:List D)(j:Nat):Bool:=match ds[j]?,es[j]? with|some a,some b=>eqD a b|_,_=>false
theorem xf:∀{ds es:List D},dh ds es=true->ds.length=es.length
 |[],[],_=>rfl
 |[],_::_,h=>by simp[dh]at h
 |_::_,[],h=>by simp[dh]at h
 |_::ds,_::es,h=>by
  simp only[dh,V2]at h;simp[xf h.2]
theorem pK:∀{ds es:List D},dh ds es=((Q0 (min ds.length es.length)).all (eqN ds es)&&ds.length==es.length)
 |[],[]=>by simp[dh]
 |[],_::_=>by simp[dh]
 |_::_,[]=>by simp[dh]
 |a::ds,b::es=>by
  have ih:=@pK ds es;simp only[dh,O2,Nat.add_min_add_right,List.range_succ_eq_map,ap8,an2];have e:eqN (a::ds) (b::es) 0=eqD a b:=by simp[eqN]
  have f:(eqN (a::ds) (b::es))∘aA2=eqN ds es:=by
   funext j;simp[eqN]
  rw[e,f,ih];have c:(ds.length+1==es.length+1)=(ds.length==es.length):=by
   rw[W0];simp
  rw[c,Bool.and_assoc]
theorem AV{ds es:List D}(h:ds.length=es.length):dh ds es=(Q0 ds.length).all (eqN ds es):=by
 rw[pK,<-h,Nat.min_self];simp
theorem Rep.r{K:u8}{M:DH}{H:Hp}{d:D}{v:V}(h:Rep K M H d v):ba K M H d v:=by
 cases d with
 |tup f=>simp only[Rep]at h;obtain⟨a,c,e,t,r⟩:=h;exact⟨a,c,e,t.sq,r⟩
 |lst f=>simp only[Rep]at h;obtain⟨a,c,e,t,r⟩:=h;exact⟨a,c,e,t.1,r⟩
 |scr f=>simp only[Rep]at h;obtain⟨a,c,e,t,r⟩:=h;exact⟨a,c,e,t.sq,r⟩
 |_=>exact h
theorem Gq{j:List (O1×Obj)}{σ:St}{H:Hp}{s:N1}{a:O1}{l ws:List V}(I:Inv X j σ H s)(h:SqT X.K H a l)(h':H a=some (.lst ws)):False:=by
 obtain⟨i,r,⟨o,e,c,n,d⟩,_⟩:=I.tuple h;obtain⟨_,f,m,_,g⟩:=I.hok a _ h';rw[e]at g;cases g;exact absurd (show aa0 "list"=aa0 "tuple" from c) (by decide)
theorem De{J:List (O1×Obj)}{σ:St}{H:Hp}{s:N1}(I:Inv X J σ H s){M M':DH}:∀(n:Nat) {d e:D}{v:V},dLe d n=true->dLe e n=true->ba X.K M H d v->ba X.K M' H e v->eqD d e=true:=by
  intro n
  induction n with
  | zero =>
    intro d e v hd he r1 f;cases d<;>first|(simp[dLe]at hd;done)|skip
    all_goals cases e<;>first|(simp[dLe]at he;done)|skip
    all_goals (simp only[ba,Rep]at r1 f;subst r1;first|(cases f;simp[eqD];done)|cases f)
  | succ n ih =>
    intro d e v hd he r1 f;have j:∀{l h:List D} {o:List V},cT l n=true->cT h n=true->aw X.K M H l o->aw X.K M' H h o->dh l h=true:=by
      intro l
      induction l with
      | nil =>
        intro h o _ _ p q;simp only[aw]at p;subst p;cases h with
        |nil=>simp[dh]
        |cons _ _=>simp[aw]at q
      | cons a l w =>
        intro h o x z p q;simp only[aw]at p;obtain⟨v,m,rfl,E,C⟩:=p;cases h with
        |nil=>simp[aw]at q
        | cons b h =>
          simp only[aw]at q;obtain⟨L,B,i,G,A⟩:=q;cases i;simp only[cT,V2]at x z;simp only[dh,V2];exact⟨ih x.1 z.1 E.r G.r,w x.2 z.2 C A⟩
    cases d with
    | tup l =>
      obtain⟨a,o,rfl,sq,u⟩:=r1;cases e with
      | tup h =>
        obtain⟨b,m,i,c,g⟩:=f;cases i;have:=I.tuple_inj sq c;subst this;simp only[eqD];exact j (by simpa[dLe]using hd) (by simpa[dLe]using he) u g
      | lst h =>
        obtain⟨b,m,i,c,g⟩:=f;cases i;exact(Gq I sq c).elim
      |_=>first|(simp[dLe]at he;done)|(simp only[ba,Rep]at f;cases f)
    | lst l =>
      obtain⟨a,o,rfl,sq,u⟩:=r1;cases e with
      | lst h =>
        obtain⟨b,m,i,c,g⟩:=f;cases i;rw[sq]at c;cases c;simp only[eqD];exact j (by simpa[dLe]using hd) (by simpa[dLe]using he) u g
      | tup h =>
        obtain⟨b,m,i,c,g⟩:=f;cases i;exact(Gq I c sq).elim
      |_=>first|(simp[dLe]at he;done)|(simp only[ba,Rep]at f;cases f)
    | _ =>
      first
      |(simp[dLe]at hd;done)
      | (cases e with
         |tup h=>(obtain⟨b,m,i,c,g⟩:=f;subst i;simp only[ba,Rep]at r1;cases r1)
         |lst h=>(obtain⟨b,m,i,c,g⟩:=f;subst i;simp only[ba,Rep]at r1;cases r1)
         |_=>first|(simp[dLe]at he;done)|(simp only[ba,Rep]at r1 f;subst r1;first|(cases f;simp[eqD];done)|cases f))
theorem ba.at{K:u8}{M:DH}{H:Hp}{d:D}{v:V}{u:M0}(r:ba K M H d v)(q:aQ v u):match d with|.non=>u=.none|.bl b=>u=.bool b|.int i=>∃t,u=.int i t|.str x=>∃t,u=.str x t|_=>True:=by
 cases d<;>first|trivial|(simp only[ba,Rep]at r;subst r;exact q)
open PySem.SeqAt in
theorem qY{af:List (O1×Obj)}{σ:St}{H:Hp}{s:N1}(I:Inv X af σ H s){M M':DH}:∀(n:Nat) {A:S0}{d e:D}{v w:V}{L O:M0},A.units+n<af7->dLe d n=true->dLe e n=true ->
  ba X.K M H d v->ba X.K M' H e w->aQ v L->aQ w O->EqAt A s L O (eqD d e)/\RcAt A s L O (eqD d e)/\RcNeAt A s L O (!(eqD d e)):=by
 intro n
 induction n with
 |zero =>
  intro A d e v w L O hu hd he z p B u;have c:A.units<af7:=by assumption
  cases d<;>first|(simp[dLe]at hd;done)|skip
  all_goals cases e<;>first|(simp[dLe]at he;done)|skip
  all_goals simp only[ba,Rep]at z p
  all_goals subst z
  all_goals subst p
  all_goals simp only[aQ]at B u
  all_goals first|(obtain⟨U,rfl⟩:=B)|subst B
  all_goals first|(obtain⟨Y,rfl⟩:=u)|subst u
  all_goals simp only[eqD]
  ·exact⟨EqAt.same _,RcAt.none_none,RcNeAt.none_none⟩
  ·exact⟨EqAt.none_bool _,RcAt.none_bool _,RcNeAt.none_bool _⟩
  ·exact⟨EqAt.none_int _ _,RcAt.none_int _ _,RcNeAt.none_int _ _⟩
  ·exact⟨EqAt.none_str _ _,RcAt.none_str _ _,RcNeAt.none_str _ _⟩
  ·exact⟨EqAt.bool_none _,RcAt.bool_none _,RcNeAt.bool_none _⟩
  ·exact⟨EqAt.bool_bool _ _,RcAt.bool_bool _ _,RcNeAt.bool_bool _ _⟩
  ·exact⟨EqAt.bool_int _ _ _,RcAt.bool_int _ _ _,RcNeAt.bool_int _ _ _⟩
  ·exact⟨EqAt.bool_str _ _ _,RcAt.bool_str _ _ _,RcNeAt.bool_str _ _ _⟩
  ·exact⟨EqAt.int_none _ _,RcAt.int_none _ _,RcNeAt.int_none _ _⟩
  ·exact⟨EqAt.int_bool _ _ _,RcAt.int_bool _ _ _,RcNeAt.int_bool _ _ _⟩
  ·exact⟨EqAt.int_int _ _ _ _,RcAt.int_int _ _ _ _,RcNeAt.int_int _ _ _ _⟩
  ·exact⟨EqAt.int_str _ _ _ _,RcAt.int_str _ _ _ _,RcNeAt.int_str _ _ _ _⟩
  ·exact⟨EqAt.str_none _ _,RcAt.str_none _ _,RcNeAt.str_none _ _⟩
  ·exact⟨EqAt.str_bool _ _ _,RcAt.str_bool _ _ _,RcNeAt.str_bool _ _ _⟩
  ·exact⟨EqAt.str_int _ _ _ _,RcAt.str_int _ _ _ _,RcNeAt.str_int _ _ _ _⟩
  ·exact⟨EqAt.str_str _ _ _ _,RcAt.str_str _ _ _ _,RcNeAt.str_str _ _ _ _⟩
 |succ n ih =>
  intro A d e v w L O hu hd he z p B u;have c:A.units<af7:=by lia
  have a1:A.in1.units+n<af7:=by show A.units+1+n<af7;lia
  have item:∀{x l:List D} {vs C:List V} {us G:List M0},cT x n=true->cT l n=true->aw X.K M H x vs->aw X.K M' H l C->aH vs us->aH C G ->
    ∀j (h1:j<us.toArray.size) (h2:j<G.toArray.size),EqAt A.in1 s us.toArray[j] G.toArray[j] (eqN x l j):=by
   intro x l vs C us G d1 d2 h1 h2 h3 h4 j R Q;have l1:=h1.length;have l2:=h2.length;have l3:=h3.length;have l4:=h4.length;have j1:j<x.length:=by simp at R;lia
   have j2:j<l.length:=by simp at Q;lia
   obtain⟨v1,g1,p1⟩:=h1.get (i:=j) (d:=x[j]) (by simp[j1]);obtain⟨v2,g2,p2⟩:=h2.get (i:=j) (d:=l[j]) (by simp[j2]);obtain⟨L,k1,m1⟩:=h3.get g1;obtain⟨O,k2,m2⟩:=h4.get g2;have e1:us.toArray[j]=L:=by
    simp at R;simpa[N0 R]using k1
   have e2:G.toArray[j]=O:=by
    simp at Q;simpa[N0 Q]using k2
   rw[e1,e2];have e3:eqN x l j=eqD x[j] l[j]:=by simp[eqN,j1,j2]
   rw[e3];exact(ih a1 (g9 d1 (i:=j) (by simp[j1])) (g9 d2 (i:=j) (by simp[j2])) p1.r p2.r m1 m2).1
  have N:∀{a b:O1},v=.ref a->w=.ref b->RcAt A s (.ref a) (.ref b) (eqD d e)->EqAt A s (.ref a) (.ref b) (eqD d e):=by
   intro a b ea eb S
   by_cases a0:a=b
   ·subst a0;subst ea;subst eb;rw[De I (n+1) hd he z p];exact EqAt.same _
   ·exact EqAt.of_refs a0 S
  cases d with
  |tup x =>
   obtain⟨a,vs,rfl,sq,rl⟩:=id z;cases B;obtain⟨J,rv,pt,_⟩:=I.tuple sq;have P:cT x n=true:=by simpa[dLe]using hd
   cases e with
   |tup l =>
    obtain⟨b,C,rfl,g,m⟩:=id p;cases u;obtain⟨h,o,f,_⟩:=I.tuple g;have T:cT l n=true:=by simpa[dLe]using he
    have it:=item P T rl m rv o;have U:=RcAt.tuples (e:=eqN x l) pt f c it;have Y:=RcNeAt.tuples (e:=eqN x l) pt f c it;rw[O0,O0,<-rv.length,<-o.length,<-rl.length,<-m.length,<-pK]at U Y;have S:RcAt A s (.ref a) (.ref b) (eqD (.tup x) (.tup l)):=by simpa only[eqD]using U
    exact⟨N rfl rfl S,S,by simpa only[eqD]using Y⟩
   |lst l =>
    obtain⟨b,C,rfl,g,m⟩:=id p;cases u;obtain⟨h,o,f,_⟩:=I.list (SqL.of g);simp only[eqD];exact⟨EqAt.tuple_list pt f.isList c,RcAt.tuple_list pt f.isList c,RcNeAt.tuple_list pt f.isList c⟩
   |non=>obtain rfl:=p.at u;simp only[eqD];exact⟨EqAt.tuple_none pt c,RcAt.tuple_none pt c,RcNeAt.tuple_none pt c⟩
   |bl b=>obtain rfl:=p.at u;simp only[eqD];exact⟨EqAt.tuple_bool _ pt c,RcAt.tuple_bool _ pt c,RcNeAt.tuple_bool _ pt c⟩
   |int b=>obtain⟨t,rfl⟩:=p.at u;simp only[eqD];exact⟨EqAt.tuple_int _ _ pt c,RcAt.tuple_int _ _ pt c,RcNeAt.tuple_int _ _ pt c⟩
   |str b=>obtain⟨t,rfl⟩:=p.at u;simp only[eqD];exact⟨EqAt.tuple_str _ _ pt c,RcAt.tuple_str _ _ pt c,RcNeAt.tuple_str _ _ pt c⟩
   |_=>simp[dLe]at he
  |lst x =>
   obtain⟨a,vs,rfl,sq,rl⟩:=id z;cases B;obtain⟨J,rv,pt,_⟩:=I.list (SqL.of sq);have P:cT x n=true:=by simpa[dLe]using hd
   cases e with
   |lst l =>
    obtain⟨b,C,rfl,g,m⟩:=id p;cases u;obtain⟨h,o,f,_⟩:=I.list (SqL.of g);have T:cT l n=true:=by simpa[dLe]using he
    have Z:J.toArray.size=x.length/\h.toArray.size=l.length:=by rw[O0,O0,<-rv.length,<-o.length,<-rl.length,<-m.length];exact⟨rfl,rfl⟩
    have S:RcAt A s (.ref a) (.ref b) (eqD (.lst x) (.lst l))/\RcNeAt A s (.ref a) (.ref b) (!(eqD (.lst x) (.lst l))):=by
     by_cases hl:x.length=l.length
     ·have E:J.toArray.size=h.toArray.size:=by rw[Z.1,Z.2];exact hl
      have it:=item P T rl m rv o;have U:=RcAt.lists (e:=eqN x l) pt.isList f.isList E c it;have Y:=RcNeAt.lists (e:=eqN x l) pt.isList f.isList E c it;rw[Z.1,<-AV hl]at U Y;exact⟨by simpa only[eqD]using U,by simpa only[eqD]using Y⟩
     ·have E:(J.toArray.size != h.toArray.size)=true:=by rw[Z.1,Z.2];simpa using hl
      have e0:eqD (.lst x) (.lst l)=false:=by
       simp only[eqD];cases q:dh x l with
       |false=>rfl
       |true=>exact absurd (xf q) hl
      rw[e0];exact⟨RcAt.lists_lengths pt.isList f.isList E c,RcNeAt.lists_lengths pt.isList f.isList E c⟩
    exact⟨N rfl rfl S.1,S⟩
   |tup l =>
    obtain⟨b,C,rfl,g,m⟩:=id p;cases u;obtain⟨h,o,f,_⟩:=I.tuple g;simp only[eqD];exact⟨EqAt.list_tuple pt.isList f c,RcAt.list_tuple pt.isList f c,RcNeAt.list_tuple pt.isList f c⟩
   |non=>obtain rfl:=p.at u;simp only[eqD];exact⟨EqAt.list_none pt.isList c,RcAt.list_none pt.isList c,RcNeAt.list_none pt.isList c⟩
   |bl b=>obtain rfl:=p.at u;simp only[eqD];exact⟨EqAt.list_bool _ pt.isList c,RcAt.list_bool _ pt.isList c,RcNeAt.list_bool _ pt.isList c⟩
   |int b=>obtain⟨t,rfl⟩:=p.at u;simp only[eqD];exact⟨EqAt.list_int _ _ pt.isList c,RcAt.list_int _ _ pt.isList c,RcNeAt.list_int _ _ pt.isList c⟩
   |str b=>obtain⟨t,rfl⟩:=p.at u;simp only[eqD];exact⟨EqAt.list_str _ _ pt.isList c,RcAt.list_str _ _ pt.isList c,RcNeAt.list_str _ _ pt.isList c⟩
   |_=>simp[dLe]at he
  |non =>
   cases e with
   |tup l =>
    obtain⟨b,C,rfl,g,m⟩:=id p;cases u;obtain⟨h,o,f,_⟩:=I.tuple g;obtain rfl:=z.at B;simp only[eqD];exact⟨EqAt.none_tuple f c,RcAt.none_tuple f c,RcNeAt.none_tuple f c⟩
   |lst l =>
    obtain⟨b,C,rfl,g,m⟩:=id p;cases u;obtain⟨h,o,f,_⟩:=I.list (SqL.of g);obtain rfl:=z.at B;simp only[eqD];exact⟨EqAt.none_list f.isList c,RcAt.none_list f.isList c,RcNeAt.none_list f.isList c⟩
   |_=>first|(simp[dLe]at he;done)|exact ih (A:=A) (by exact T8 (by assumption)) (by simp[dLe]) (by simp[dLe]) z p B u
  |bl a =>
   cases e with
   |tup l =>
    obtain⟨b,C,rfl,g,m⟩:=id p;cases u;obtain⟨h,o,f,_⟩:=I.tuple g;obtain rfl:=z.at B;simp only[eqD];exact⟨EqAt.bool_tuple _ f c,RcAt.bool_tuple _ f c,RcNeAt.bool_tuple _ f c⟩
   |lst l =>
    obtain⟨b,C,rfl,g,m⟩:=id p;cases u;obtain⟨h,o,f,_⟩:=I.list (SqL.of g);obtain rfl:=z.at B;simp only[eqD];exact⟨EqAt.bool_list _ f.isList c,RcAt.bool_list _ f.isList c,RcNeAt.bool_list _ f.isList c⟩
   |_=>first|(simp[dLe]at he;done)|exact ih (A:=A) (by exact T8 (by assumption)) (by simp[dLe]) (by simp[dLe]) z p B u
  |int a =>
   cases e with
   |tup l =>
    obtain⟨b,C,rfl,g,m⟩:=id p;cases u;obtain⟨h,o,f,_⟩:=I.tuple g;obtain⟨t,rfl⟩:=z.at B;simp only[eqD];exact⟨EqAt.int_tuple _ _ f c,RcAt.int_tuple _ _ f c,RcNeAt.int_tuple _ _ f c⟩
   |lst l =>
    obtain⟨b,C,rfl,g,m⟩:=id p;cases u;obtain⟨h,o,f,_⟩:=I.list (SqL.of g);obtain⟨t,rfl⟩:=z.at B;simp only[eqD];exact⟨EqAt.int_list _ _ f.isList c,RcAt.int_list _ _ f.isList c,RcNeAt.int_list _ _ f.isList c⟩
   |_=>first|(simp[dLe]at he;done)|exact ih (A:=A) (by exact T8 (by assumption)) (by simp[dLe]) (by simp[dLe]) z p B u
  |str a =>
   cases e with
   |tup l =>
    obtain⟨b,C,rfl,g,m⟩:=id p;cases u;obtain⟨h,o,f,_⟩:=I.tuple g;obtain⟨t,rfl⟩:=z.at B;simp only[eqD];exact⟨EqAt.str_tuple _ _ f c,RcAt.str_tuple _ _ f c,RcNeAt.str_tuple _ _ f c⟩
   |lst l =>
    obtain⟨b,C,rfl,g,m⟩:=id p;cases u;obtain⟨h,o,f,_⟩:=I.list (SqL.of g);obtain⟨t,rfl⟩:=z.at B;simp only[eqD];exact⟨EqAt.str_list _ _ f.isList c,RcAt.str_list _ _ f.isList c,RcNeAt.str_list _ _ f.isList c⟩
   |_=>first|(simp[dLe]at he;done)|exact ih (A:=A) (by exact T8 (by assumption)) (by simp[dLe]) (by simp[dLe]) z p B u
  |_=>simp[dLe]at hd
end
section
variable{X:Cx}{a b c e:R6}{es:List R6}{te ta Y:TEd}{pos:Pos}{st:af0}{rest:List af0}{t u:TSd}
def Da:TSd:=λE a M=>E.nx a M
def vh(t u:TSd):TSd:=λE a M=>t { E with nx:=u E } a M
def FO(te:TEd):TSd:=λE a M=>te a M E.rt
def vW(te:TEd):TSd:=λE a M=>te a M λ_ M1=>E.nx a M1
def Fl(c:TTd)(t u:TSd):TSd:=λE a M=>c a M λb M1=>if b=true then t E a M1 else u E a M1
def mR(i:Nat)(te:TEd):TSd:=λE a M=>te a M λd M1=>E.nx (a.set i (some d)) M1
def K5(i:Nat)(te:TEd)(r:D->D->Option D):TSd:=λE a M=>∃x,a[i]?=some (some x)/\te a M λy M1=>∃z,r (rdM M1 x) (rdM M1 y)=some z/\E.nx (a.set i (some z)) M1
abbrev GD:=D->DE->Option DE
def PGd(X:Cx)(L:R6)(g:GD):Prop:=∃f:TG,PG X L f/\∀(d:D) (v:V) (e:St) (h a:DE) (M:DH) (H:Hp) (Q:St->Hp->Prop),SR X.K M H e h->HR X.K M H->Rep X.K M H d v->g d h=some a->(∀ c,SR X.K M H c a->Q c H)->f v e H Q
noncomputable def bV(i:Nat):GD:=λd a=>some (a.set i (some d))
theorem aI{i:Nat}{x:Str}(g:X.N.Nodup)(c:X.N[i]?=some x)(l:Loc X.env.scope x)(f:X.fn x=true∨X.env.scope.names.lookup x=some .local:=by first|exact .inl rfl|exact .inr rfl|assumption):PGd X (.Name x pos) (bV i) :=
 ⟨wY i,Ah g c l f,λd v n m h M H Q j o a e k=>by cases e;exact k _ (j.set i a)⟩
abbrev GDs:=List D->DE->Option DE
def Fx(X:Cx)(e:List R6)(g:GDs):Prop:=∃j:TGs,PGs X e j/\∀(f:List D) (i:List V) (h:St) (l a:DE) (M:DH) (H:Hp) (Q:St->Hp->Prop),SR X.K M H h l->HR X.K M H->aw X.K M H f i->g f l=some a->(∀ c,SR X.K M H c a->Q c H)->j i h H Q
noncomputable def tP:GDs:=λc a=>match c with|[]=>some a|_=>none
noncomputable def iO(g:GD)(c:GDs):GDs:=λe f=>match e with|[]=>none|d::r=>(g d f).bind λa=>c r a
noncomputable def oh(g:GDs)(n:Nat):GD:=λd c=>match d with|.tup a=>if a.length=n then g a c else none|_=>none
theorem kE:Fx X [] tP:=⟨Im,zx,λg i h j c M H Q f l a e k=>by
 cases g with
 |nil=>simp only[aw]at a;subst a;cases e;exact⟨rfl,k _ f⟩
 |cons _ _=>cases e⟩
theorem bG{L:R6}{a:List R6}{g:GD}{n:GDs}(p:PGd X L g)(z:Fx X a n)
  (hs:(ae3 (L::a) X.env).map (·.2)=au8 L X.env::(ae3 a X.env).map (·.2):=by rfl):Fx X (L::a) (iO g n):=by
 obtain⟨u,J,A⟩:=p;obtain⟨x,w,I⟩:=z;refine⟨BJ u x,xD J w hs,λB N C l h M H Q s m j e k=>?_⟩;cases B with
 |nil=>cases e
 |cons d r =>
  simp only[aw]at j;obtain⟨v,o,rfl,G,E⟩:=j;simp only[iO]at e;cases q:g d l with
  |none=>rw[q]at e;cases e
  |some c =>
   rw[q]at e;exact⟨v,o,rfl,A d v C l c M H _ s m G q λf i=>I r o f c h M H Q i m E e k⟩
theorem kQ{c:List R6}{B:Nat}{g:GDs}{n:Nat}(x:X.calm=true)(h:Fx X c g)(hn:(ae3 c X.env).length=n:=by rfl)(i:(ae3 c X.env).findIdx? (·.1)=none:=by rfl):PGd X (.Tuple c B pos) (oh g n):=by
 obtain⟨q,s,C⟩:=h;refine⟨Jn X.K n q,DI x s hn i,λd v z u j M H Q w A l e k=>?_⟩;cases d with
 |tup m =>
  simp only[oh]at e
  by_cases f:m.length=n
  ·rw[if_pos f]at e;simp only[Rep]at l;obtain⟨a,p,rfl,ta,o⟩:=l;exact⟨a,p,rfl,ta.sq,by rw[<-o.length];exact f,C m p z u j M H Q w A o e k⟩
  ·rw[if_neg f]at e;cases e
 |_=>cases e
def Lp(te:TEd)(g:GD):TSd:=λE c M=>te c M λd M1=>∃ a,g d c=some a/\E.nx a M1
abbrev TId:=DE->DH->(List D->DH->Prop)->Prop
def ItD(K:u8)(J:It)(ds:List D)(M1:DH)(H1:Hp):Prop:=∀M2 H2,Ext M1 H1 M2 H2->HR K M2 H2->∀i,(∀d,ds[i]?=some d->J.go i H2/\∀x H',J.yld i H2 x H'->Ext M2 H2 M2 H'/\HR K M2 H'/\Rep K M2 H' d x)/\(ds.length<=i->J.stop i H2)
def upI(K:u8)(wi:TId):TI:=λf H R=>∃(e:DE) (M:DH) (c:List D->DH->Prop),SR K M H f e/\HR K M H/\wi e M c/\∀a M1 J H1,c a M1->Ext M H M1 H1->HR K M1 H1->ItD K J a M1 H1->R J H1
theorem upI.el{K:u8}{t:TId}{σ:St}{H:Hp}{Q:It->Hp->Prop}{P:Prop}(h:upI K t σ H Q)(f:∀(e:DE) (M:DH) (R:List D->DH->Prop),SR K M H σ e->HR K M H->t e M R->(∀ds M1 J H1,R ds M1->Ext M H M1 H1->HR K M1 H1->ItD K J ds M1 H1->Q J H1)->P):P:=by
 obtain⟨g,j,i,a,b,c,d⟩:=h;exact f g j i a b c d
def PId(X:Cx)(L G:R6)(wi:TId):Prop:=PI X L G (upI X.K wi)
theorem PI.conv{L G:R6}{w a:TI}(h:PI X L G w)(k:∀ σ H R,a σ H R->w σ H R):PI X L G a:=λp s σ H R I q=>h p s σ H R I (k σ H R q)
variable{L G:R6}
noncomputable def jm(lo:Int)(n:Nat):List D:=(Q0 n).map λ(k:Nat)=>.int (lo+(k:Int))
theorem cD{lo:Int}{n i:Nat}{d:D}(h:(jm lo n)[i]?=some d):i<n/\d=.int (lo+i):=by
 unfold jm at h;rw[Q6]at h
 by_cases a:i<n
 ·rw[ap0 a]at h;cases h;exact⟨a,rfl⟩
 ·rw[S9 (by simp;omega)]at h;cases h
theorem EU{K:u8}{lo:Int}{n:Nat}{M1:DH}{H1:Hp}:ItD K (Itr lo n) (jm lo n) M1 H1:=λM2 H2 h a i=>⟨λd f=>by
  obtain⟨c,rfl⟩:=cD f;refine⟨c,λx H' ⟨g,y⟩=>?_⟩;subst g;subst y;exact⟨Ext.refl _ _,a,by simp[Rep]⟩,λe=>by
  show n<=i;simpa[jm]using e⟩
def yS(ta:TAd):TId:=λc M R=>ta c M λa M1=>∃j:Int,a=[.int j]/\-(2 ^ 62)<=j/\j<2 ^ 62/\R (jm 0 j.toNat) M1
def cy(g:GD)(Y:TSd)(E:fZ):List D->DE->DH->Prop
 |[],c,M=>E.nx c M
 |d::e,c,M=>∃ a,g d c=some a/\Y { E with nx:=cy g Y E e,ct:=cy g Y E e,bk:=E.nx } a M
def yk(wi:TId)(g:GD)(Y:TSd):TSd:=λE a M=>wi a M λc M1=>cy g Y E c a M1
def DC(c:TTd)(Y:TSd):TSd:=λE e M=>∃W:Nat->DE->DH->Prop,(∃m,W m e M)/\∀m e M,W m e M->c e M λb M1=>if b=true then Y { E with nx:=λa M'=>∃f,f<m/\W f a M',ct:=λa M'=>∃f,f<m/\W f a M',bk:=E.nx } e M1 else E.nx e M1
end
def zF:D->Prop
 |.tup a=>a.length<=N7
 |.lst a=>a.length<=N7
 |.scr a=>a.length<=N7
 |_=>True
section
variable{X:Cx}{a b c e:R6}{es:List R6}{te ta tb:TEd}{L:Pos}{tg iter elt:R6}
theorem ba.len{K:u8}{g:List (O1×Obj)}{σ:St}{H:Hp}{s:N1}{M:DH}{d:D}{v:V}(I:Inv X g σ H s)(h:Rep X.K M H d v):zF d:=by
 cases d with
 |tup c =>
  simp only[Rep]at h;obtain⟨a,f,e,t,r⟩:=h;obtain⟨_,_,_,z⟩:=I.tuple t.sq;simp only[zF];rw[r.length];exact z
 |lst c =>
  simp only[Rep]at h;obtain⟨a,f,e,t,r⟩:=h;obtain⟨_,_,_,z⟩:=I.list (SqL.of t.1);simp only[zF];rw[r.length];exact z
 |scr c =>
  simp only[Rep]at h;obtain⟨a,f,e,t,r⟩:=h;obtain⟨_,_,_,z⟩:=I.list t.sq;simp only[zF];rw[r.length];exact z
 |_=>trivial
noncomputable def cW:List Bool->DE->DE
 |true::c,v::a=>v::cW c a
 |false::c,_::a=>none::cW c a
 |[],_::a=>none::cW [] a
 |_,[]=>[]
def i4(ms:List Bool)(k:Nat)(a:DE):DE:=cW ms a++R7 k none
theorem dB:∀(ms:List Bool) (σ:DE),(cW ms σ).length=σ.length
 |true::ms,v::σ=>by simp[cW,dB ms σ]
 |false::ms,_::σ=>by simp[cW,dB ms σ]
 |[],_::σ=>by simp[cW,dB [] σ]
 |[],[]=>by simp[cW]
 |true::_,[]=>by simp[cW]
 |false::_,[]=>by simp[cW]
theorem ki:∀{ms:List Bool}{σ:DE}{i:Nat}{v:D},(cW ms σ)[i]?=some (some v)->ms[i]?=some true/\σ[i]?=some (some v)
 |true::ms,v::σ,0,x,h=>by simpa[cW]using h
 |true::ms,v::σ,i+1,x,h=>by
  have:=ki (ms:=ms) (σ:=σ) (i:=i) (v:=x) (by simpa[cW]using h);simpa using this
 |false::ms,_::σ,0,x,h=>by simp[cW]at h
 |false::ms,_::σ,i+1,x,h=>by
  have:=ki (ms:=ms) (σ:=σ) (i:=i) (v:=x) (by simpa[cW]using h);simpa using this
 |[],_::σ,0,x,h=>by simp[cW]at h
 |[],_::σ,i+1,x,h=>by
  have:=ki (ms:=[]) (σ:=σ) (i:=i) (v:=x) (by simpa[cW]using h);simpa using this
 |[],[],_,_,h=>by simp[cW]at h
 |true::_,[],_,_,h=>by simp[cW]at h
 |false::_,[],_,_,h=>by simp[cW]at h
theorem k7:∀{ms:List Bool}{σ:St}{i:Nat}{v:V},ms[i]?=some true->σ[i]?=some (some v)->(cv ms σ)[i]?=some (some v)
 |true::ms,v::σ,0,x,h,a=>by simpa[cv]using a
 |true::ms,v::σ,i+1,x,h,a=>by
  have:=k7 (ms:=ms) (σ:=σ) (i:=i) (v:=x) (by simpa using h) (by simpa using a);simpa[cv]using this
 |false::ms,_::σ,0,x,h,a=>by simp at h
 |false::ms,_::σ,i+1,x,h,a=>by
  have:=k7 (ms:=ms) (σ:=σ) (i:=i) (v:=x) (by simpa using h) (by simpa using a);simpa[cv]using this
 |[],_,_,_,h,_=>by simp at h
 |_::_,[],_,_,_,h=>by simp at h
theorem SR.comp{K:u8}{M:DH}{H:Hp}{σ:St}{a:DE}(ms:List Bool)(k:Nat)(h:SR K M H σ a):SR K M H (kW ms k σ) (i4 ms k a):=by
 refine⟨by simp[kW,i4,cx,dB,h.1],λi d q=>?_⟩;unfold i4 at q
 by_cases c:i<(cW ms a).length
 ·rw[V7 c]at q;obtain⟨m,e⟩:=ki q;obtain⟨v,g,f⟩:=h.2 i d e;refine⟨v,?_,f⟩;have:=k7 m g;unfold kW;rw[V7 (by rw[cx,h.1,<-dB ms];exact c)];exact this
 ·rw[ad9 (by lia),ak5]at q
  split at q<;>cases q
def cY(g:GD)(tc:TTd)(te:TEd):List D->DE->DH->List D->(List D->DH->Prop)->Prop
 |[],_,M,c,Q=>Q c M
 |d::e,f,M,c,Q=>∃ a,g d f=some a/\tc a M λb M1=>if b=true then te a M1 λy M2=>cY g tc te e a M2 (c++[y]) Q else cY g tc te e a M1 c Q
def dLc(ms:List Bool)(k:Nat)(wi:TId)(g:GD)(tc:TTd)(te:TEd):TEd:=λc M Q=>wi c M λa M1=>a.length<=N7/\cY g tc te a (i4 ms k c) M1 [] λe M2=>Q (.lst e) M2
def JN(X:Cx)(Y:List R6)(t:TTd):Prop:=PIf X Y (upT X.K t)
def yz:TTd:=λ_ M Q=>Q true M
abbrev qV(K:u8)(g:GD)(h:TG):Prop:=∀(d:D) (v:V) (e:St) (f a:DE) (M:DH) (H:Hp) (Q:St->Hp->Prop),SR K M H e f->HR K M H->Rep K M H d v->g d f=some a->(∀ c,SR K M H c a->Q c H)->h v e H Q
theorem zm{K:u8}{g:GD}{tc:TTd}{te:TEd}{P:TG}(kg:qV K g P){J:It}{ds:List D}{M1:DH}{H1:Hp}(it:ItD K J ds M1 H1)(E:HR K M1 H1)(hz:ds.length<=N7){R:List D->DH->Prop}{σ:St}{O:DE}(U:SR K M1 H1 σ O)(q:cY g tc te ds O M1 [] R):
  ∃(W:Nat->Nat->List V->St->Hp->Prop) (Z:List V->St->Hp->Prop),(∃m,W 0 m [] σ H1)/\nI J P (upT K tc) (mJ (up K te)) W Z/\∀l h H',Z l h H'->∃M' a,Ext M1 H1 M' H'/\HR K M' H'/\aw K M' H' a l/\R a M':=by
 refine⟨λi m l h H'=>∃ n M' a,m=ds.length-i/\i<=ds.length/\Ext M1 H1 M' H'/\HR K M' H'/\SR K M' H' h n/\aw K M' H' a l/\a.length<=i/\cY g tc te (ds.drop i) n M' a R,_,
  ⟨ds.length,_,M1,[],by simp,O3 _,Ext.refl _ _,E,U,aw.nil,by simp,q⟩,?_,λ_ _ _ z=>z⟩
 rintro i m l G H2 ⟨L,M2,a,rfl,a0,C,p,I,A,la,w⟩;have hl:l.length<=N7:=by rw[<-A.length];lia
 refine⟨hl,?_⟩;obtain⟨go,stop⟩:=it M2 H2 C p i
 by_cases e:i<ds.length
 ·have T:ds[i]?=some ds[i]:=by simp[e]
  obtain⟨g1,X⟩:=go _ T;rw[T5 e]at w;simp only[cY]at w;obtain⟨c,S,f3⟩:=w;refine .inr ⟨g1,λx H' hy=>?_⟩;obtain⟨s,u,rx⟩:=X x H' hy;refine kg _ x G L c M2 H' _ (I.ext s) u rx S λa1 f=>?_;refine⟨c,M2,_,f,u,f3,λb Q H4 B j o=>?_⟩;cases b with
  |true =>
   simp only[if_true]at B ⊢;refine⟨c,Q,_,f.ext j,o,B,λy M5 v5 H5 Y M N H=>?_⟩;refine⟨ds.length-(i+1),by lia,c,M5,a++[y],rfl,e,((C.trans s).trans j).trans M,N,(f.ext j).ext M,(((A.ext s).ext j).ext M).append (aw.cons H aw.nil),by simp;assumption,Y⟩
  |false =>
   simp only[N9,if_false]at B ⊢;exact⟨ds.length-(i+1),by lia,c,Q,a,rfl,e,(C.trans s).trans j,o,f.ext j,(A.ext s).ext j,by exact U7 (by assumption),B⟩
 ·rw[Z8 (by lia)]at w;exact .inl ⟨stop (by lia),M2,a,C,p,A,w⟩
theorem zM{K:u8}{wi:TId}{g:GD}{tc:TTd}{te:TEd}{i:TG}{ms:List Bool}{e:Nat}(s:qV K g i):
  ∀ σ H Q,up K (dLc ms e wi g tc te) σ H Q->tLc ms e (upI K wi) i (upT K tc) (up K te) σ H Q:=by
 rintro σ H Q ⟨G,M,R,h,L,q,k⟩;refine⟨G,M,_,h,L,q,λN M1 J H1 ⟨I,l⟩ j f w=>?_⟩;obtain⟨W,Z,n,x,B⟩:=zm s w f I ((h.ext j).comp ms e) l;refine⟨W,Z,n,x,λE u H' p z c=>?_⟩;obtain⟨M',o,A,a,m,C⟩:=B _ _ _ z;refine k _ M' _ _ C ((j.trans A).trans (Ext.new a c)) (a.new c) ?_;simp only[Rep];exact⟨p,E,rfl,⟨aO,a.fresh c⟩,m.ext (Ext.new a c)⟩
variable{G:am0}{cl:List (Str×O1)}{ms:List Bool}{ar:List Str}{Y:List R6}
def PGa(X:Cx)(G:am0)(cl:List (Str×O1))(ar:List Str)(tg:R6)(g:GD):Prop:=∃a:TG,(∀C s H c,PG (aL X G cl (X.N++ar) C s H c) tg a)/\qV X.K g a
theorem aC{i:Nat}{x:Str}{L:Pos}(g:(X.N++ar).Nodup)(f:(X.N++ar)[i]?=some x)(a:(relabel G X.env).names.lookup x=some .local):PGa X G cl ar (.Name x L) (bV i) :=
 ⟨wY i,λC s H m=>Ah g f (.inl a) (.inr a),λd v n l h M H Q j o c e k=>by cases e;exact k _ (j.set i c)⟩
end
abbrev SpD:=List D->DH->(D->DH->Prop)->Prop
def spD(K:u8)(n:Nat)(S:SpD):Sp:=λc H Q _=>∃(a:List D) (M:DH) (R:D->DH->Prop),a.length=n/\aw K M H a c/\HR K M H/\S a M R/\∀d M' v H',R d M'->Ext M H M' H'->HR K M' H'->Rep K M' H' d v->Q v H'
theorem E3{K:u8}{n:Nat}{S:SpD}{a:List V}{H:Hp}{Q:VK}{E:XK}(h:spD K n S a H Q E):a.length=n:=by
 obtain⟨e,M,R,c,r,_⟩:=h;rw[<-r.length];exact c
noncomputable def k9(N:List Str)(ds:List D):DE:=ds.map some++R7 (N.length-ds.length) none
theorem Ea{K:u8}{M:DH}{H:Hp}{N:List Str}:∀{ds:List D}{a:List V},aw K M H ds a->SR K M H (cX N a) (k9 N ds):=by
 intro ds a h;have g:=h.length;refine⟨by simp[cX,k9,g],λi d q=>?_⟩;unfold k9 at q
 by_cases c:i<ds.length
 ·rw[V7 (by simpa using c),Q6]at q;cases e:ds[i]? with
  |none=>rw[e]at q;cases q
  |some l =>
   rw[e]at q;cases q;obtain⟨v,j,f⟩:=h.get e;refine⟨v,?_,f⟩;unfold cX;rw[V7 (by simp;lia),Q6,j];rfl
 ·rw[ad9 (by simpa using c),ak5]at q
  split at q<;>cases q
section
variable{P:Q7}{w:U9}{K:u8}{z:Str->Option M0}{base:Q9}{f:O1}{y:P5}
theorem Fun.okD{x c:Str}{st:af0}{f:O1}{y:P5}{N ps:List Str}{k n:Nat}{S:SpD}(F:Fun K x c st f y)(hn:ps.length=n)(J:ax N ps (aj st))
  (g:∀ (e:M0) (A:S0) (a:List Env) (s:N1) (H:Hp) (E:XK),cQ k (A.deeper (ay0 c (aj st) s.heap.objs.size f e)) →
   ∃t:TSd,FI (wO CX0 P w K z base N c (aj st) f e A a s H E).nox (eA st) t/\∀ds M R,ds.length=n->S ds M R->t { nx:=λ_ M'=>R .non M',rt:=R } (k9 N ds) M):aV P w K z base CX0 (k+1) f y ps (spD K n S):=by
 refine F.ok J (λB H Q E h=>by rw[hn];exact E3 h) (λe A a s H B Q E O h=>?_);obtain⟨t,L,p⟩:=g e A a s H E O;obtain⟨ds,M,R,G,r,m,q,o⟩:=h;refine⟨_,L,k9 N ds,M,_,Ea r,m,p ds M R G q,⟨λI M' u H' i l j _=>o .non M' .non H' i l j (by simp[Rep]),λ_ _ _ _ i=>ae2 i,λ_ _ _ _ i=>ae2 i,λd M' v H' i l j C=>o d M' v H' i l j C⟩⟩
end
section
variable{X:Cx}{a b c e:R6}{es:List R6}{te z G:TEd}{t:TAd}{y:Pos}
def jg(n:Nat)(S:SpD)(t:TAd):TEd:=λc M Q=>t c M λa M1=>a.length=n/\S a M1 Q
theorem IH{k:Nat}{f:O1}{i:P5}{ps:List Str}{n:Nat}{S:SpD}{x:Str}{p:Pos}(F:aV X.prog X.w X.K X.mg X.base CX0 k f i ps (spD X.K n S))(hr:cQ k X.A)(hg:Gl X x)(z:X.mg x=some (.ref f))(s:ag5 X.K (.ref f)=true)(C:dM X.K i ps [])
  (ha:PAd X (e::es) t) (hdb:(x==("__debug__":Str))=false:=by decide) (he:O5 (e::es) X.env=(false,af8 e X.env)::O5 es X.env:=by rfl) (hpl:(ad7 y (O5 es X.env)).any (·.1)=false:=by rfl) :
  PEd X (.Call (.Name x p) (e::es) [] y) (jg n S t) :=
 (ze F hr hg z s C .nil Ce ha hdb he hpl).conv λG H Q c => c.el λo M R j hr q k => ⟨o,M,_,j,hr,q,λw M1 I H1 ⟨m,u⟩ E a l => by
  dsimp only;rw[aa4];exact⟨w,M1,R,m,l,a,u,λd M' v H' B A g h=>k d M' v H' B (E.trans A) g h⟩⟩
def GK(M1 M2:DH)(d c:D):Prop:=c=d∨∃a l,d=.ref a/\M1 a=some (.lst l)/\M2 a=none/\c=.lst l
theorem xg{K:u8}{M1 M2:DH}{H:Hp}(hr:HR K M1 H)(c:LeM M2 M1):∀{ds e:List D}{g:List V},af1 (GK M1 M2) ds e->aw K M1 H ds g->aw K M2 H e g
 |_,_,_,.nil,h=>by simp only[aw]at h ⊢;exact h
 |_,_,_,.cons i t,h=>by
  simp only[aw]at h;obtain⟨v,o,rfl,f,j⟩:=h;refine aw.cons ?_ (xg hr c t j);rcases i with rfl|⟨a,l,rfl,n,m,rfl⟩
  ·exact f.ext (Ext.le c)
  ·simp only[Rep]at f;subst f;exact Rep.froze hr c n m
def u4(n:Nat)(S:SpD)(t:TAd):TEd:=λg M Q=>t g M λf M1=>∃(M2:DH) (c:List D) (R:D->DH->Prop),LeM M2 M1/\af1 (GK M1 M2) f c/\c.length=n/\S c M2 R /\
 ∀d e,R d e->noL d=true/\(∀a o,e a=some o->noC o=true)/\Q d (kP M1 M2 e)
theorem Ew{k:Nat}{f:O1}{m:P5}{ps:List Str}{n:Nat}{S:SpD}{x:Str}{p:Pos}(F:aV X.prog X.w X.K X.mg X.base CX0 k f m ps (spD X.K n S))(hr:cQ k X.A)(hg:Gl X x)(J:X.mg x=some (.ref f))(C:ag5 X.K (.ref f)=true)(N:dM X.K m ps [])
  (ha:PAd X (e::es) t) (hdb:(x==("__debug__":Str))=false:=by decide) (he:O5 (e::es) X.env=(false,af8 e X.env)::O5 es X.env:=by rfl) (hpl:(ad7 y (O5 es X.env)).any (·.1)=false:=by rfl) :
  PEd X (.Call (.Name x p) (e::es) [] y) (u4 n S t) :=
 (ze F hr hg J C N .nil Ce ha hdb he hpl).conv λU H Q h => h.el λB M R u hr q k => ⟨B,M,_,u,hr,q,λT M1 Y H1 ⟨M2,j,R2,a,P,A,I,E⟩ O c w => by
  dsimp only;rw[aa4];refine⟨j,M2,R2,A,xg c a P w,c.le a,I,λd o v H' L i g l=>?_⟩;obtain⟨z,G,s⟩:=E d o L;exact k d _ v H' s (O.trans (Ext.back a i)) (c.back a i g G) (Rep.hard z l (df c a i g))⟩
def Lu(g h te:TEd):TSd:=λE c M=>te c M λd M1=>g c M1 λo M2=>h c M2 λi f=>∃a e k j,o=.ref a/\i=.int k/\f a=some (.lst e)/\ixN e.length k=some j/\E.nx c (ay f a (.lst (e.set j d)))
def Du(f te:TEd):TEd:=λe M Q=>f e M λo M1=>∃a l,o=.ref a/\M1 a=some (.lst l)/\te e M1 λd M2=>∃c,M2 a=some (.lst c)/\c.length<N7/\Q .non (ay M2 a (.lst (c++[d])))
end
noncomputable def ItW(n:Nat)(a:Nat->V->Prop):It:=⟨λi _=>i<n,λi H x H'=>H'=H/\a i x,λi _=>n<=i⟩
theorem Bg{P:Q7}{w:U9}{K:u8}{tg:R6}{it:O1}{n:Nat}{U:Nat->M0->Prop}{St:Nat->Q9->Prop}{ty:String}{T:Nat->V->Prop}
  (W:∀A:S0,A.handled=none->az4 P w A it [it] [it] n U St) (Z:∀i h,St i h->∃o,h.get? it=some o/\o.cls=.type ty/\∃O,o.data=.fields O)
  (hn:["enumerate","zip","dict_itemiterator","dict_reverseitemiterator","odict_iterator","itertools.zip_longest","itertools.pairwise"].contains ty=false)
  (hv:∀i u,U i u->∃x,aQ x u/\T i x) (a:∀(A:S0) (i:Nat) (s:N1) (Q:M0->N1->Prop) (E:M0->N1->Prop),St i s.heap->Q (.ref it) s->P6 (R4 P w) A (au9 (.ref it)) Q E s):m8 P w K tg (ItW n T) [it] it (λi h=>i<=n/\St i h) where
 mem:=by simp
 obj:=λi h st b f=>by
  have e:b=it:=by simpa using f
  subst e;obtain⟨o,e,c,O,d⟩:=Z i h st.2;exact⟨o,e,λv z=>by rw[d]at z;cases z⟩
 keep:=λi h g st k=>⟨st.1,(W { handled:=none } rfl).frame i h g st.2 k⟩
 item:=by
  intro X J L hK q i Y s σ H E I p st m;subst J L hK;obtain⟨S,G,f2,R,C,M⟩:=p it (by simp);refine(W X.A (I.ok.hd q)).item i s _ _ m st.2 λv g B pv l N=>?_;have I1:Inv X Y σ H { s with heap:=g,toks:=B }:=I.turned (λb o f e=>N b o (by simpa using f) e) S G R C M;obtain⟨x,rx,vx⟩:=hv i v pv;obtain⟨o,e,c,O,d⟩:=Z _ _ l;exact⟨v,rfl,sJ (s:={ s with heap:=g,toks:=B }) e c d hn ⟨x,H,I1,rx,⟨rfl,vx⟩,⟨m,l⟩,λb f=>(p b f).1⟩⟩
 done:=by
  intro X J L hK q i Y s σ H E I p st m;subst J L hK;obtain⟨S,G,f2,R,C,M⟩:=p it (by simp);have e:i=n:=Nat.le_antisymm st.1 m;subst e;exact(W X.A (I.ok.hd q)).done s _ _ st.2 λg B N=>⟨rfl,I.turned (λb o f e=>N b o (by simpa using f) e) S G R C M⟩
 self:=λA i s Q E st h=>a A i s Q E st.2 h
section
variable{X:Cx}{a b c e:R6}{es:List R6}{te L N:TEd}{t:TAd}{z:Pos}{G y:R6}
noncomputable def bB(x:Str):List D:=x.cps.toList.map λc=>.str ⟨#[c]⟩
theorem zR{f:List (O1×Obj)}{σ:St}{H:Hp}{s:N1}{x:Str}{t:Tok}{R:It->Hp->Prop}(I:Inv X f σ H s)(ty:String)(hn:["enumerate","zip","dict_itemiterator","dict_reverseitemiterator","odict_iterator","itertools.zip_longest","itertools.pairwise"].contains ty=false)
  (W:∀A:S0,A.handled=none->az4 X.prog X.w A s.heap.objs.size [s.heap.objs.size] [s.heap.objs.size] x.cps.size (SignAt x) (λi h=>h.IsStrIter s.heap.objs.size ty x t i))
  (a:∀(A:S0) (i:Nat) (s':N1) (Q:M0->N1->Prop) (E:M0->N1->Prop),s'.heap.IsStrIter s.heap.objs.size ty x t i->Q (.ref s.heap.objs.size) s'->P6 (R4 X.prog X.w) A (au9 (.ref s.heap.objs.size)) Q E s')
  (q:R (ItW x.cps.size λi v=>∃c,x.cps[i]?=some c/\v=.str ⟨#[c]⟩) H):PIE X f σ G R (.ref s.heap.objs.size) { s with heap:=s.heap.push { cls:=.type ty,data:=.fields #[.str x t,.int 0 0] } }:=by
 have l:Inv X f σ H { s with heap:=s.heap.push { cls:=.type ty,data:=.fields #[.str x t,.int 0 0] } }:=I.kept (t':=s.toks) λb o e=>M7 _ e;refine⟨s.heap.objs.size,[s.heap.objs.size],_,_,H,rfl,l,Bg W (λi h st=>?_) hn (λi u ⟨c,g,e,m⟩=>⟨.str ⟨#[c]⟩,⟨g,m⟩,c,e,rfl⟩) a,⟨O3 _,_,N6 _ rfl,rfl,rfl⟩,λb j=>?_,q⟩
 ·obtain⟨o,e,c,d⟩:=st;exact⟨o,e,c,_,d⟩
 ·have e:b=s.heap.objs.size:=by simpa using j
  subst e;exact I.fpOk (N2 _) (I.hok.fresh (N2 _))
end
section
variable{X:Cx}{a b c e:R6}{es:List R6}{te L N:TEd}{t:TAd}{G:Pos}
noncomputable def eqF(x y:D):Option D:=if dLe x 60=true/\dLe y 60=true then some (.bl (eqD x y))else none
theorem CK{x y z:D}(h:eqF x y=some z):dLe x 60=true/\dLe y 60=true/\z=.bl (eqD x y):=by
 unfold eqF at h
 by_cases a:dLe x 60=true/\dLe y 60=true
 ·rw[if_pos a]at h;cases h;exact⟨a.1,a.2,rfl⟩
 ·rw[if_neg a]at h;cases h
theorem mm(g:X.A.units+64<af7):cC X (V4 .Eq) eqF:=by
 intro h s f H M x y v u dx dy dz Q I hr rx ry r1 r2 e k;obtain⟨a,c,rfl⟩:=CK e;exact(qY I 60 (A:=X.A) (by lia) a c r1 r2 rx ry).2.1 X.prog X.w X.xe _ ⟨.bl (eqD dx dy),H,I,rfl,k _ H (Ext.refl _ _) hr (by simp[Rep])⟩
def inD(c:Bool)(x y:D):Option D:=match y with
 |.lst a=>if bD x=true/\a.all bD=true then some (.bl (xor c (a.any λd=>eqD d x)))else none
 |.tup a=>if bD x=true/\a.all bD=true then some (.bl (xor c (a.any λd=>eqD d x)))else none
 |_=>none
theorem ID{K:u8}{M:DH}{H:Hp}{d:D}{v:V}(h:bD d=true)(r:Rep K M H d v):v=toV d/\jw v=true:=by
 cases d<;>first|(simp only[Rep]at r;subst r;exact⟨rfl,rfl⟩)|cases h
theorem Fs{x y:D}(c:bD x=true)(a:bD y=true):eqV (toV x) (toV y)=eqD x y:=by
 cases x<;>cases y<;>first|(simp[bD]at c;done)|(simp[bD]at a;done)|(simp[toV,eqV,eqD];done)
theorem jA{K:u8}{M:DH}{H:Hp}{x:D}(f:bD x=true):∀{ds:List D}{c:List V},aw K M H ds c->ds.all bD=true->c.all jw=true/\inV (toV x) c=ds.any λd=>eqD d x
 |[],_,h,_=>by simp only[aw]at h;subst h;simp[inV]
 |d::ds,_,h,a=>by
  simp only[aw]at h;obtain⟨v,n,rfl,j,m⟩:=h;rw[ap8,V2]at a;obtain⟨l,g⟩:=ID a.1 j;obtain⟨i,e⟩:=jA f m a.2;subst l;refine⟨by rw[ap8,g,i];rfl,?_⟩;unfold inV at e ⊢;rw[ad3,ad3,e,Fs a.1 f]
theorem ba.scal{K:u8}{M:DH}{H:Hp}{d:D}{v:V}(h:bD d=true)(r:ba K M H d v):v=toV d/\jw v=true:=by
 cases d<;>first|(simp only[ba,Rep]at r;subst r;exact⟨rfl,rfl⟩)|cases h
theorem L3:cC X (V4 .In) (inD false):=cC.of AK λH M x y o u w Q n s p e q=>by
 cases u with
 |lst c =>
  simp only[inD]at e
  by_cases a:bD o=true/\c.all bD=true
  ·rw[if_pos a]at e;cases e;obtain⟨l,g,rfl,sq,f⟩:=p;obtain⟨j,h⟩:=ba.scal a.1 s;obtain⟨m,i⟩:=jA a.1 f a.2;subst j;refine⟨l,g,rfl,.inl (SqL.of sq),h,m,q _ H (Ext.refl _ _) n ?_⟩;rw[i];simp[Rep]
  ·rw[if_neg a]at e;cases e
 |tup c =>
  simp only[inD]at e
  by_cases a:bD o=true/\c.all bD=true
  ·rw[if_pos a]at e;cases e;obtain⟨l,g,rfl,sq,f⟩:=p;obtain⟨j,h⟩:=ba.scal a.1 s;obtain⟨m,i⟩:=jA a.1 f a.2;subst j;refine⟨l,g,rfl,.inr sq,h,m,q _ H (Ext.refl _ _) n ?_⟩;rw[i];simp[Rep]
  ·rw[if_neg a]at e;cases e
 |_=>cases e
theorem Fc:cC X (V4 .NotIn) (inD true):=cC.of ug λH M x y o u w Q n s p e q=>by
 cases u with
 |lst c =>
  simp only[inD]at e
  by_cases a:bD o=true/\c.all bD=true
  ·rw[if_pos a]at e;cases e;obtain⟨l,g,rfl,sq,f⟩:=p;obtain⟨j,h⟩:=ba.scal a.1 s;obtain⟨m,i⟩:=jA a.1 f a.2;subst j;refine⟨l,g,rfl,.inl (SqL.of sq),h,m,q _ H (Ext.refl _ _) n ?_⟩;rw[i];simp[Rep]
  ·rw[if_neg a]at e;cases e
 |tup c =>
  simp only[inD]at e
  by_cases a:bD o=true/\c.all bD=true
  ·rw[if_pos a]at e;cases e;obtain⟨l,g,rfl,sq,f⟩:=p;obtain⟨j,h⟩:=ba.scal a.1 s;obtain⟨m,i⟩:=jA a.1 f a.2;subst j;refine⟨l,g,rfl,.inr sq,h,m,q _ H (Ext.refl _ _) n ?_⟩;rw[i];simp[Rep]
  ·rw[if_neg a]at e;cases e
 |_=>cases e
noncomputable def lr(f:D->Option D):List D->Option D
 |[d]=>f d
 |_=>none
theorem kY{K:u8}{M:DH}{H:Hp}{d:D}{xs:List V}(h:af1 (ba K M H) [d] xs):∃v,xs=[v]/\ba K M H d v:=by
 cases h with
 |cons r t=>cases t;exact⟨_,rfl,r⟩
theorem cK{f:D->Option D}{ds:List D}{z:D}(h:lr f ds=some z):∃d,ds=[d]/\f d=some z:=by
 match ds,h with
 |[d],h=>exact⟨d,rfl,h⟩
noncomputable def oT:D->Option D
 |.tup a=>some (.int a.length)
 |.lst a=>some (.int a.length)
 |.scr a=>some (.int a.length)
 |.str x=>if x.length<=N7 then some (.int x.length)else none
 |_=>none
theorem cM:bX X (.builtin "len") (lr oT):=bX.of (dN.or vv uR) λH M n g m Q f j e q=>by
 obtain⟨d,rfl,i⟩:=cK e;clear e;have e:=i;clear i;obtain⟨v,rfl,r⟩:=kY j;cases d with
 |tup g=>cases e;obtain⟨l,c,rfl,sq,a⟩:=r;exact .inl ⟨l,c,rfl,.inr sq,q _ H (Ext.refl _ _) f (by rw[<-a.length];simp[Rep])⟩
 |lst g=>cases e;obtain⟨l,c,rfl,sq,a⟩:=r;exact .inl ⟨l,c,rfl,.inl (SqL.of sq),q _ H (Ext.refl _ _) f (by rw[<-a.length];simp[Rep])⟩
 |scr g=>cases e;obtain⟨l,c,rfl,sq,a⟩:=r;exact .inl ⟨l,c,rfl,.inl sq,q _ H (Ext.refl _ _) f (by rw[<-a.length];simp[Rep])⟩
 |str x =>
  simp only[oT]at e
  by_cases h:x.length<=N7
  ·rw[if_pos h]at e;cases e;exact .inr ⟨x,by rw[sD r],h,q _ H (Ext.refl _ _) f (by simp[Rep])⟩
  ·rw[if_neg h]at e;cases e
 |_=>cases e
noncomputable def K8:D->Option D
 |.int i=>some (.int (if i<0 then -i else i))
 |_=>none
theorem JF:bX X (.builtin "abs") (lr K8):=bX.of BO λH M j g h Q f c e q=>by
 obtain⟨d,rfl,a⟩:=cK e;clear e;have e:=a;clear a;obtain⟨v,rfl,r⟩:=kY c;cases d with
 |int i=>cases e;exact⟨i,by rw[jo r],q _ H (Ext.refl _ _) f (by simp[Rep])⟩
 |_=>cases e
noncomputable def E7:D->Option D
 |.lst a=>some (.tup a)
 |.tup a=>some (.tup a)
 |_=>none
theorem fB:bX X (.type "tuple") (lr E7):=bX.of sf λH M o f n Q c m e q=>by
 obtain⟨d,rfl,g⟩:=cK e;clear e;have e:=g;clear g;obtain⟨v,rfl,r⟩:=kY m;cases d with
 |lst f=>cases e;obtain⟨l,a,rfl,sq,h⟩:=r;exact⟨l,a,rfl,.inl ⟨SqL.of sq,λp j=>uA c j h q⟩⟩
 |tup f=>cases e;have i:=ba.tup c r;obtain⟨l,a,rfl,sq,h⟩:=r;exact⟨l,a,rfl,.inr ⟨sq,q _ H (Ext.refl _ _) c i⟩⟩
 |_=>cases e
noncomputable def Kk:D->Option D
 |.lst a=>some (.lst a)
 |.scr a=>some (.lst a)
 |.tup a=>some (.lst a)
 |_=>none
theorem G4:bX X (.type "list") (lr Kk):=bX.of uU λH M n g m Q h j e q=>by
 obtain⟨d,rfl,i⟩:=cK e;clear e;have e:=i;clear i;obtain⟨v,rfl,r⟩:=kY j;cases d with
 |lst g=>cases e;obtain⟨l,c,rfl,sq,a⟩:=r;exact⟨l,c,rfl,.inl (SqL.of sq),λp f=>gN h f a q⟩
 |scr g=>cases e;obtain⟨l,c,rfl,sq,a⟩:=r;exact⟨l,c,rfl,.inl sq,λp f=>gN h f a q⟩
 |tup g=>cases e;obtain⟨l,c,rfl,sq,a⟩:=r;exact⟨l,c,rfl,.inr sq,λp f=>gN h f a q⟩
 |_=>cases e
noncomputable def wb:D->Bool
 |.bl _=>true
 |_=>false
noncomputable def wN:D->Bool
 |.bl b=>b
 |_=>false
noncomputable def Bh:D->Option D
 |.lst a=>if a.all wb=true then some (.bl (a.all wN))else none
 |_=>none
noncomputable def E1:D->Option D
 |.lst a=>if a.all wb=true then some (.bl (a.any wN))else none
 |_=>none
theorem A0{p:Nat->Bool}{q:D->Bool}:∀{ds:List D},(∀i d,ds[i]?=some d->p i=q d)->(Q0 ds.length).all p=ds.all q:=by
 intro ds h;rw[W0,Z3,Z3];constructor
 ·intro c d f;obtain⟨i,a,e⟩:=ad6.mp f;rw[<-h i d (by rw[N0 a,e])];exact c i (R0.mpr a)
 ·intro c i a;have a:=R0.mp a;rw[h i ds[i] (by simp[a])];exact c _ (V0 a)
theorem AU{p:Nat->Bool}{q:D->Bool}:∀{ds:List D},(∀i d,ds[i]?=some d->p i=q d)->(Q0 ds.length).any p=ds.any q:=by
 intro ds h;rw[W0,ab0,ab0];constructor
 ·rintro⟨i,a,g⟩;have a:=R0.mp a;exact⟨ds[i],V0 a,by rw[<-h i ds[i] (by simp[a])];exact g⟩
 ·rintro⟨d,c,f⟩;obtain⟨i,a,e⟩:=ad6.mp c;exact⟨i,R0.mpr a,by rw[h i d (by rw[N0 a,e])];exact f⟩
theorem wL{K:u8}{M:DH}{H:Hp}{ds:List D}{j:List V}{e:List M0}(f:aw K M H ds j)(l:aH j e)(n:ds.all wb=true){i:Nat}{u:M0}(h:e[i]?=some u):∃d,ds[i]?=some d/\u=.bool (wN d):=by
 have c:i<ds.length:=by rw[f.length,l.length];exact(N4.mp h).1
 obtain⟨v,g,r⟩:=f.get (i:=i) (d:=ds[i]) (by simp[c]);obtain⟨p,m,o⟩:=l.get g;rw[h]at m;cases m;have a:=Z3.mp n ds[i] (V0 c);refine⟨ds[i],by simp[c],?_⟩;cases q:ds[i]with
 |bl b=>rw[q]at r;simp only[Rep]at r;subst r;exact o
 |_=>rw[q]at a;cases a
theorem sV(N:X.calm=true):bX X (.builtin "all") (lr Bh):=by
 intro G s E H M xs S g U Q I R f P e k;obtain⟨d,rfl,n⟩:=cK e;clear e;have e:=n;clear n;obtain⟨v,rfl,r⟩:=kY P;obtain⟨u,rfl,L⟩:=aH.one f;cases d with
 |lst g =>
  simp only[Bh]at e
  by_cases m:g.all wb=true
  ·rw[if_pos m]at e;cases e;obtain⟨l,T,rfl,sq,p⟩:=r;cases L;obtain⟨a,f,w,hz⟩:=I.list (SqL.of sq);have j:l≠s.heap.objs.size:=P8 (I.hok.lt sq);refine call_all_walk (an6 w.isList ⟨s.heap.objs.size,[s.heap.objs.size,l],[s.heap.objs.size],a.toArray.size,_,_,λi=>(g[i]?.map wN).getD false,rfl,az4.list (A:=X.A.in1) (show X.A.in1.handled=none from I.ok.hd N) s.heap.objs.size l j a.toArray,⟨⟨_,N6 _ rfl,rfl,rfl⟩,?_⟩,λi v Z Q' Y O q=>?_,λJ z C=>?_⟩)
   ·obtain⟨o,e,c⟩:=w.isList;exact⟨o,M7 _ e,c⟩
   ·obtain⟨d,h,rfl⟩:=wL p f m (i:=i) (u:=v) (by simpa using O);dsimp only at q;rw[h]at q;exact ae1 q
   ·have B:Inv X G E H { s with heap:=J,toks:=z }:=I.kept (t':=z) λb o e=>C b o (by simpa using P8 (P2 e)) (M7 _ e);refine⟨.bl _,H,B,rfl,k _ H (Ext.refl _ _) R ?_⟩;rw[O0,<-f.length,<-p.length,A0 (q:=wN) (λi d h=>by simp[h])];simp[Rep]
  ·rw[if_neg m]at e;cases e
 |_=>cases e
theorem Ll(N:X.calm=true):bX X (.builtin "any") (lr E1):=by
 intro G s E H M xs S g U Q I R f P e k;obtain⟨d,rfl,n⟩:=cK e;clear e;have e:=n;clear n;obtain⟨v,rfl,r⟩:=kY P;obtain⟨u,rfl,L⟩:=aH.one f;cases d with
 |lst g =>
  simp only[E1]at e
  by_cases m:g.all wb=true
  ·rw[if_pos m]at e;cases e;obtain⟨l,T,rfl,sq,p⟩:=r;cases L;obtain⟨a,f,w,hz⟩:=I.list (SqL.of sq);have j:l≠s.heap.objs.size:=P8 (I.hok.lt sq);refine call_any_walk (an6 w.isList ⟨s.heap.objs.size,[s.heap.objs.size,l],[s.heap.objs.size],a.toArray.size,_,_,λi=>(g[i]?.map wN).getD false,rfl,az4.list (A:=X.A.in1) (show X.A.in1.handled=none from I.ok.hd N) s.heap.objs.size l j a.toArray,⟨⟨_,N6 _ rfl,rfl,rfl⟩,?_⟩,λi v Z Q' Y O q=>?_,λJ z C=>?_⟩)
   ·obtain⟨o,e,c⟩:=w.isList;exact⟨o,M7 _ e,c⟩
   ·obtain⟨d,h,rfl⟩:=wL p f m (i:=i) (u:=v) (by simpa using O);dsimp only at q;rw[h]at q;exact ae1 q
   ·have B:Inv X G E H { s with heap:=J,toks:=z }:=I.kept (t':=z) λb o e=>C b o (by simpa using P8 (P2 e)) (M7 _ e);refine⟨.bl _,H,B,rfl,k _ H (Ext.refl _ _) R ?_⟩;rw[O0,<-f.length,<-p.length,AU (q:=wN) (λi d h=>by simp[h])];simp[Rep]
  ·rw[if_neg m]at e;cases e
 |_=>cases e
end
section
variable{X:Cx}{a b c e:R6}{es:List R6}{te G L:TEd}{t:TAd}{y:Pos}
noncomputable def ES(T:String):D->Option Bool
 |.non=>some false
 |.bl _=>some (T=="bool" || T=="int")
 |.int _=>some (T=="int")
 |.str _=>some (T=="str")
 |.tup _=>some (T=="tuple")
 |.lst _=>some (T=="list")
 |.emp=>some (T=="dict")
 |_=>none
noncomputable def okT(T:String):Bool:=T=="bool" || T=="int" || T=="str" || T=="tuple" || T=="list"
def Ka(T:String)(te:TEd):TEd:=λa M Q=>te a M λd M1=>∃k,ES T (rdM M1 d)=some k/\Q (.bl k) M1
theorem AY{T:String}(A:okT T=true){p:List (O1×Obj)}{s:N1}{σ:St}{H:Hp}{M:DH}{v:V}{u:M0}{d:D}{k:Bool}{Q:VK}(I:Inv X p σ H s)(r:aQ v u)(rd:ba X.K M H d v)(e:ES T d=some k)(q:Q (.bl k) H):
  P6 (R4 X.prog X.w) X.A (call (.builtin "isinstance") [u,.type T]) (EP X p σ Q) X.xe s:=by
 have g:∀{k'} ,k=k'->EP X p σ Q (.bool k') s:=λe=>by subst e;exact⟨.bl k,H,I,rfl,q⟩
 have c:∀{k'} ,k=k'->EP X p σ Q (.bool k') { s with toks:=s.toks+1 }:=λe=>by subst e;exact⟨.bl k,H,I.tok _,rfl,q⟩
 have l:T="bool"∨T="int"∨T="str"∨T="tuple"∨T="list":=by
  simp[okT]at A;rcases A with(((h|h)|h)|h)|h<;>simp[h]
 cases d with
 |non =>
  simp only[ba,Rep]at rd;subst rd;simp only[aQ]at r;subst r;cases e;rcases l with rfl|rfl|rfl|rfl|rfl
  ·exact IsiPair.NoneType_bool (c rfl)
  ·exact IsiPair.NoneType_int (c rfl)
  ·exact IsiPair.NoneType_str (c rfl)
  ·exact IsiPair.NoneType_tuple (c rfl)
  ·exact IsiPair.NoneType_list (c rfl)
 |bl b =>
  simp only[ba,Rep]at rd;subst rd;simp only[aQ]at r;subst r;cases e;rcases l with rfl|rfl|rfl|rfl|rfl
  ·exact IsiPair.bool_bool (g rfl)
  ·exact IsiPair.bool_int (g rfl)
  ·exact IsiPair.bool_str (c rfl)
  ·exact IsiPair.bool_tuple (c rfl)
  ·exact IsiPair.bool_list (c rfl)
 |int i =>
  simp only[ba,Rep]at rd;subst rd;obtain⟨t,rfl⟩:=r;cases e;rcases l with rfl|rfl|rfl|rfl|rfl
  ·exact IsiPair.int_bool (c rfl)
  ·exact IsiPair.int_int (g rfl)
  ·exact IsiPair.int_str (c rfl)
  ·exact IsiPair.int_tuple (c rfl)
  ·exact IsiPair.int_list (c rfl)
 |str x =>
  simp only[ba,Rep]at rd;subst rd;obtain⟨t,rfl⟩:=r;cases e;rcases l with rfl|rfl|rfl|rfl|rfl
  ·exact IsiPair.str_bool (c rfl)
  ·exact IsiPair.str_int (c rfl)
  ·exact IsiPair.str_str (g rfl)
  ·exact IsiPair.str_tuple (c rfl)
  ·exact IsiPair.str_list (c rfl)
 |tup B =>
  obtain⟨a,G,rfl,sq,E⟩:=rd;cases r;cases e;obtain⟨w,J,⟨o,f,j,_⟩,_⟩:=I.tuple sq;rcases l with rfl|rfl|rfl|rfl|rfl
  ·exact IsiPair.tuple_bool f j (c rfl)
  ·exact IsiPair.tuple_int f j (c rfl)
  ·exact IsiPair.tuple_str f j (c rfl)
  ·exact IsiPair.tuple_tuple f j (g rfl)
  ·exact IsiPair.tuple_list f j (c rfl)
 |lst B =>
  obtain⟨a,G,rfl,sq,E⟩:=rd;cases r;cases e;obtain⟨w,J,⟨o,n,f,j,_⟩,_⟩:=I.list (SqL.of sq);rcases l with rfl|rfl|rfl|rfl|rfl
  ·exact IsiPair.list_bool f j (c rfl)
  ·exact IsiPair.list_int f j (c rfl)
  ·exact IsiPair.list_str f j (c rfl)
  ·exact IsiPair.list_tuple f j (c rfl)
  ·exact IsiPair.list_list f j (g rfl)
 |emp =>
  simp only[ba,Rep]at rd;obtain⟨a,rfl,C,_⟩:=rd;cases r;cases e;obtain⟨_,_,_,_,o,es,L,f,m,_⟩:=I.hok a _ C;rcases l with rfl|rfl|rfl|rfl|rfl
  ·exact IsiPair.dict_bool f m.1 (c rfl)
  ·exact IsiPair.dict_int f m.1 (c rfl)
  ·exact IsiPair.dict_str f m.1 (c rfl)
  ·exact IsiPair.dict_tuple f m.1 (c rfl)
  ·exact IsiPair.dict_list f m.1 (c rfl)
 |_=>cases e
abbrev TOd:=DE->DH->(Option Int->DH->Prop)->Prop
def upO(K:u8)(t:TOd):TO:=λc H Q=>∃(a:DE) (M:DH) (R:Option Int->DH->Prop),SR K M H c a/\HR K M H/\t a M R/\∀i M' H',R i M'->Ext M H M' H'->HR K M' H'->Q i H'
theorem upO.el{K:u8}{t:TOd}{σ:St}{H:Hp}{Q:Option Int->Hp->Prop}{P:Prop}(h:upO K t σ H Q)(f:∀(e:DE) (M:DH) (R:Option Int->DH->Prop),SR K M H σ e->HR K M H->t e M R->(∀i M' H',R i M'->Ext M H M' H'->HR K M' H'->Q i H')->P):P:=by
 obtain⟨g,l,j,a,b,c,d⟩:=h;exact f g l j a b c d
def POd(X:Cx)(e:Option R6)(t:TOd):Prop:=PO X e (upO X.K t)
def uM:TOd:=λ_ M Q=>Q none M
def C5(t:TEd):TOd:=λa M Q=>t a M λd M1=>∃i,d=.int i/\Q (some i) M1
theorem PO.conv{e:Option R6}{t t':TO}(h:PO X e t)(k:∀ σ H Q,t' σ H Q->t σ H Q):PO X e t':=λp s σ H Q I q=>h p s σ H Q I (k σ H Q q)
theorem E5:POd X none uM:=FZ.conv λf H Q a=>a.el λg M R e c q k=>k none M H q (Ext.refl _ _) c
theorem Ej(h:PEd X e te):POd X (some e) (C5 te):=(FQ h).conv λp H Q a=>a.el λm M R f g q k=>⟨m,M,_,f,g,q,λd M1 v H1 ⟨i,l,o⟩ n c j=>⟨i,by subst l;simpa only[Rep]using j,k _ M1 H1 o n c⟩⟩
def cZ(xs:List D)(lo a:Option Int):List D:=(xs.drop (HT.sIx xs.length 0 lo)).take (HT.sIx xs.length xs.length a-HT.sIx xs.length 0 lo)
def slD:D->Option Int->Option Int->Option D
 |.lst a,lo,c=>some (.lst (cZ a lo c))
 |.scr a,lo,c=>some (.lst (cZ a lo c))
 |.str x,lo,c=>if x.length<=N7 then some (.str (as4 x lo c))else none
 |.tup a,lo,c=>if HT.sIx a.length 0 lo=0/\HT.sIx a.length a.length c=a.length then none else some (.tup (cZ a lo c))
 |_,_,_=>none
def Mm:V->Option Int->Option Int->Hp->VK->Prop:=λx lo a H Q=>∃z,x=.str z/\z.length<=N7/\Q (.str (as4 z lo a)) H
theorem Ji:SlR X Mm:=by
 intro o s n H x v vl vu lo hi sl Q I rx hs pl pu h;obtain⟨z,rfl,c,q⟩:=h;obtain⟨t,rfl⟩:=rx;refine⟨"str",_,PySem.F.slot_str_getitem.lookup,typeIs_str _ _ _,?_⟩;have a:∀(e:Tok) (k:Nat),EP X o n Q (.str (as4 z lo hi) e) { s with toks:=k }:=λe k=>⟨.str (as4 z lo hi),H,I.tok _,⟨e,rfl⟩,q⟩;cases pl with
 |none =>
  cases pu with
  |none=>exact ak6 (l:=none) (u:=none) (st:=none) hs rfl (au3 ⟨N3 (ax1 z _ _) c,a⟩)
  |int j f=>exact ak6 (l:=none) (u:=some (j,f)) (st:=none) hs rfl (au3 ⟨N3 (ax1 z _ _) c,a⟩)
 |int i m =>
  cases pu with
  |none=>exact ak6 (l:=some (i,m)) (u:=none) (st:=none) hs rfl (au3 ⟨N3 (ax1 z _ _) c,a⟩)
  |int j f=>exact ak6 (l:=some (i,m)) (u:=some (j,f)) (st:=none) hs rfl (au3 ⟨N3 (ax1 z _ _) c,a⟩)
noncomputable def iC:List D->Option (List Str)
 |[]=>some []
 |.str x::a=>(iC a).map (x::·)
 |_=>none
theorem qJ{K:u8}{M:DH}{H:Hp}:∀{ds:List D}{i:List V}{f:List M0}{c:List Str},aw K M H ds i->aH i f->iC ds=some c->StrsAre f c
 |[],_,_,_,h,a,e=>by
  simp only[aw]at h;subst h;cases a;cases e;exact .nil
 |d::ds,_,_,c,h,a,e=>by
  simp only[aw]at h;obtain⟨v,n,rfl,g,l⟩:=h;cases d with
  |str x =>
   simp only[iC]at e;cases q:iC ds with
   |none=>rw[q]at e;cases e
   |some o =>
    rw[q]at e;cases e;simp only[Rep]at g;subst g;cases a with
    |cons m j =>
     obtain⟨t,rfl⟩:=m;exact .cons x t (qJ l j q)
  |_=>cases e
def Aj(a:Str):D->Option D
 |.lst e=>match iC e with|some c=>if(c.map (·.length)).sum+c.length*a.length<=16777216 then some (.str (Txt.join a c))else none|none=>none
 |_=>none
def Gc(e te:TEd):TEd:=λc M Q=>e c M λo M1=>∃a,o=.str a/\te c M1 λd M2=>∃z,Aj a (rdM M2 d)=some z/\Q z M2
end
noncomputable def dG(names:List (Str×aa2))(a:List (Str×O1)):List (Str×O1):=(names.filterMap λy=>if y.2==.free then(a.lookup y.1).map λc=>(y.1,c)else none).reverse
noncomputable def gY(env:Env)(y:Str×aa2)(a:List (Str×O1)):Sem (ForInStep (List (Str×O1))):=if(y.2==.free)=true then(do let c <-cellOf env y.1;al5 (ad4 ((y.1,c)::a)))else al5 (ad4 a)
theorem ni{env:Env}:∀(names:List (Str×aa2)) (a:List (Str×O1)),(∀y∈names,y.2=.free->(env.cells.lookup y.1).isSome=true) ->
  (forIn names a (gY env):Sem (List (Str×O1)))=al5 (dG names env.cells++a)
 |[],a,_=>by simp[dG]
 |y::r,a,h=>by
  rw[List.forIn_cons]
  by_cases e:(y.2==ae7)=true
  ·have l:=h y V8 (by simpa using e);obtain⟨c,j⟩:=X5.mp l;have g:gY env y a=al5 (ad4 ((y.1,c)::a)):=by
    unfold gY cellOf;rw[if_pos e,j];simp only[aA6]
   rw[g];simp only[aA6];rw[ni r ((y.1,c)::a) λy i=>h y (S7 _ i)];have f:dG (y::r) env.cells=dG r env.cells++[(y.1,c)]:=by
    unfold dG;rw[W9,if_pos e,j];simp
   rw[f];simp
  ·have g:gY env y a=al5 (ad4 a):=by
    unfold gY;rw[if_neg e]
   rw[g];simp only[aA6];rw[ni r a λy i=>h y (S7 _ i)];have f:dG (y::r) env.cells=dG r env.cells:=by
    unfold dG;rw[W9,if_neg e]
   rw[f]
theorem Fq{a:am0}{env:Env}(h:∀y∈a.names,y.2=.free->(env.cells.lookup y.1).isSome=true):closureFor a env=al5 (dG a.names env.cells):=by
 have:=ni (env:=env) a.names [] h;simp only[aa4]at this;show(forIn a.names [] (gY env) >>= λc=>al5 c)=_;rw[this];simp only[aA6]
theorem BH{a:List (Str×O1)}{names:List (Str×aa2)}{x:Str}{c:O1}(h:(dG names a).lookup x=some c):a.lookup x=some c:=by
 have f:=aa5 h;unfold dG at f;rw[ah8,ai2]at f;obtain⟨y,_,e⟩:=f
 split at e
 ·cases q:a.lookup y.1 with
  |none=>rw[q]at e;cases e
  |some g=>rw[q]at e;cases e;exact q
 ·cases e
theorem fN:∀{l:List (Str×O1)}{x:Str}{c:O1},(x,c)∈l->∃a,l.lookup x=some a
 |(y,d)::l,x,c,h=>by
  rw[V3];cases q:x==y with
  |true=>exact⟨d,by simp⟩
  |false =>
   rcases O9.mp h with e|h
   ·cases e;simp at q
   ·simpa using fN h
theorem CF{a:List (Str×O1)}{names:List (Str×aa2)}{x:Str}(h:names.lookup x=some .free)(hs:(a.lookup x).isSome=true):∃c,(dG names a).lookup x=some c:=by
 obtain⟨c,e⟩:=X5.mp hs;refine fN (c:=c) ?_;unfold dG;rw[ah8,ai2];exact⟨(x,.free),aa5 h,by simp[e]⟩
noncomputable def aS(fs:am0)(N:List Str)(a:am0)(ms:List Bool):Bool :=
 a.kind==.function&&a.names.all (λy=>y.2 != .cell)&&a.names.all (λy=>y.2 != .local || a.names.lookup y.1==some .local) &&
 a.names.all (λy=>y.2 != .free || fs.names.lookup y.1==some .cell)&&(ms.zip N).all (λy=>!y.1 || a.names.lookup y.2==some .free)&&decide (ms.length<=N.length)
theorem aE{X:Cx}{f:am0}{ms:List Bool}{ar:List Str}{n0:Nat}(q:X.env.cells=aA5 n0 X.env.scope.names [])(c:aS X.env.scope X.N f ms=true):eP X f (dG f.names X.env.cells) ms ar:=by
 unfold aS at c;simp only[V2,Z3,decide_eq_true_eq]at c;obtain⟨⟨⟨⟨⟨o,z⟩,A⟩,s⟩,n⟩,u⟩:=c;have m:∀x,(x,ae7)∈f.names->X.env.scope.names.lookup x=some .cell:=λx j=>by
  have:=s _ j;simpa using this
 have l:∀x,(x,ae7)∈f.names->(X.env.cells.lookup x).isSome=true:=λx j=>by
  rw[q];exact PySem.W.cellsFrom_some _ _ _ (.inl (m x j))
 refine⟨by simpa using o,λy g e=>?_,λy g e=>?_,Fq λy g e=>?_,λx c h=>BH h,λx h=>CF h (l x (aa5 h)),λx h=>.inl (m x (aa5 h)),λi x p w=>?_,u⟩
 ·have:=z y g;rw[e]at this;simp at this
 ·have:=A y g;simpa[e]using this
 ·obtain⟨a,b⟩:=y;cases e;exact l a g
 ·have:=n (true,x) (by
   rw[af4];exact⟨i,by rw[List.getElem?_zip_eq_some];exact⟨p,w⟩⟩)
  simpa using this
structure FnD(P:Q7) (w:U9) (K:u8) (mg:Str->Option M0) (base:Q9) (x:Str) (k n:Nat) (S:SpD):Prop where
 ex:∃(f:O1) (fd:P5) (ps:List Str),aV P w K mg base CX0 k f fd ps (spD K n S)/\mg x=some (.ref f)/\ag5 K (.ref f)=true/\dM K fd ps []
section
variable{X:Cx}{e:R6}{es:List R6}{t:TAd}{y p:Pos}{x:Str}{k n:Nat}{S:SpD}
theorem dc(F:FnD X.prog X.w X.K X.mg X.base x k n S)(hr:cQ k X.A)(hg:Gl X x)(ha:PAd X (e::es) t)(hdb:(x==("__debug__":Str))=false:=by decide)(he:O5 (e::es) X.env=(false,af8 e X.env)::O5 es X.env:=by rfl)(hpl:(ad7 y (O5 es X.env)).any (·.1)=false:=by rfl):
  PEd X (.Call (.Name x p) (e::es) [] y) (jg n S t):=by
 obtain⟨f,i,j,c,h,a,g⟩:=F.ex;exact IH c hr hg h a g ha hdb he hpl
theorem dcL(F:FnD X.prog X.w X.K X.mg X.base x k n S)(hr:cQ k X.A)(hg:Gl X x)(ha:PAd X (e::es) t)(hdb:(x==("__debug__":Str))=false:=by decide)(he:O5 (e::es) X.env=(false,af8 e X.env)::O5 es X.env:=by rfl)(hpl:(ad7 y (O5 es X.env)).any (·.1)=false:=by rfl):
  PEd X (.Call (.Name x p) (e::es) [] y) (u4 n S t):=by
 obtain⟨f,i,j,c,h,a,g⟩:=F.ex;exact Ew c hr hg h a g ha hdb he hpl
end
section
variable{X:Cx}{a b c e:R6}{es:List R6}{te L N:TEd}{t:TAd}{G:Pos}{Y z:R6}
def GL(te:TEd):TSd:=λE e M=>te e M λd M1=>∃a c,d=.ref a/\M1 a=some (.lst c)/\E.rt (.lst c) (k5 M1 a)
theorem Hw:cC X (aA4 .Add) (iOp λi j=>some (.int (i+j))):=by
 intro f s a H M x y v u dx dy dz Q I hr rx ry r1 r2 e k;obtain⟨i,j,rfl,rfl,c⟩:=p7 e;cases c;exact Jc f s a H x y v u Q I rx ry ⟨i,j,jo r1,jo r2,k _ H (Ext.refl _ _) hr (by simp[Rep])⟩
theorem Ij:KN X (unaryOp .USub) (λd=>match d with|.int i=>some (.int (-i))|_=>none):=by
 intro c s a H M x v dx dz Q I hr rx r1 e k;cases dx with
 |int i=>cases e;exact Jr c s a H x v Q I rx ⟨i,jo r1,k _ H (Ext.refl _ _) hr (by simp[Rep])⟩
 |_=>cases e
def lu:D->Option (List D)
 |.tup a=>some a
 |.lst a=>some a
 |.scr a=>some a
 |.str x=>if x.length<=N7 then some (bB x)else none
 |_=>none
def gK(te:TEd):TId:=λc M R=>te c M λd M1=>∃a,lu d=some a/\(a.length<=N7->R a M1)
theorem uB{a:List (O1×Obj)}{σ:St}{H:Hp}{s:N1}{o:Obj}(I:Inv X a σ H s):∀b∈[s.heap.objs.size],gx X a H b:=λb c=>by
 have e:b=s.heap.objs.size:=by simpa using c
 subst e;exact I.fpOk (N2 _) (I.hok.fresh (N2 _))
theorem H0{K:u8}{x:Str}{M1:DH}{H1:Hp}:ItD K (ItW x.cps.size λi v=>∃c,x.cps[i]?=some c/\v=.str ⟨#[c]⟩) (bB x) M1 H1:=λM2 H2 m f i=>⟨λd a=>by
  unfold bB at a;rw[Q6]at a;cases q:x.cps.toList[i]? with
  |none=>rw[q]at a;cases a
  |some c =>
   rw[q]at a;cases a;have g:x.cps[i]?=some c:=by simpa using q
   refine⟨?_,λy H' ⟨l,n,e,h⟩=>?_⟩
   ·exact(ah6.mp g).1
   ·subst l;subst h;rw[g]at e;cases e;exact⟨Ext.refl _ _,f,by simp[Rep]⟩,λj=>by
  show x.cps.size<=i;simpa[bB]using j⟩
end
section
variable{M:DH}
theorem En{i:Int}:rdM M (.int i)=.int i:=rfl
theorem Hj{i:Bool}:rdM M (.bl i)=.bl i:=rfl
theorem Ed{i:Str}:rdM M (.str i)=.str i:=rfl
theorem FP:rdM M .non=.non:=rfl
theorem EE{i:List D}:rdM M (.tup i)=.tup i:=rfl
theorem EF{i:List D}:rdM M (.lst i)=.lst i:=rfl
theorem El{i:List D}:rdM M (.scr i)=.scr i:=rfl
theorem pd{a:O1}{ds:List D}(h:M a=some (.lst ds)):rdM M (.ref a)=.lst ds:=by simp[rdM,h]
theorem Fd{a:O1}{ds:List D}:rdM (ay M a (.lst ds)) (.ref a)=.lst ds:=pd aq
theorem II{f:Int->Int->Option D}{a b:Int}:iOp f (.int a) (.int b)=f a b:=rfl
theorem Eb{a b:Int}:gM (.int a) (.int b)=some (.int (a+b)):=rfl
theorem Fv{a b:Str}:gM (.str a) (.str b)=if a.length+b.length<=N7 then some (.str (a++b))else none:=rfl
theorem Eh{a b:List D}:gM (.lst a) (.lst b)=if a.length+b.length<=N7 then some (.lst (a++b))else none:=rfl
theorem fq{a b:List D}:gM (.tup a) (.tup b)=if a.length+b.length<=N7 then some (.tup (a++b))else none:=rfl
theorem JG{a:List D}{b:Int}:ixD (.lst a) (.int b)=atI a b:=rfl
theorem K4{a:List D}{b:Int}:ixD (.scr a) (.int b)=atI a b:=rfl
theorem K7{a:List D}{b:Int}:ixD (.tup a) (.int b)=atI a b:=rfl
theorem Kz{z:Str}{i:Int}:ixD (.str z) (.int i)=if z.length<=N7 then(atI z.cps.toList i).map λc=>.str ⟨#[c]⟩else none:=rfl
theorem CU{a:Type}{x:a}{xs:List a}:atI (x::xs) 0=some x:=cf (j:=0) rfl
theorem GG{a:Type}{x y:a}{xs:List a}:atI (x::y::xs) 1=some y:=cf (j:=1) rfl
theorem K6{a:Type}{x y z:a}{xs:List a}:atI (x::y::z::xs) 2=some z:=cf (j:=2) rfl
theorem CN{f:D->Option D}{d:D}:lr f [d]=f d:=rfl
theorem HY{a:List D}:oT (.lst a)=some (.int a.length):=rfl
theorem Jv{a:List D}:oT (.tup a)=some (.int a.length):=rfl
theorem Ht{a:List D}:oT (.scr a)=some (.int a.length):=rfl
theorem Hz{x:Str}:oT (.str x)=if x.length<=N7 then some (.int x.length)else none:=rfl
theorem Hh{i:Int}:K8 (.int i)=some (.int (if i<0 then -i else i)):=rfl
theorem HI{a:List D}:E7 (.lst a)=some (.tup a):=rfl
theorem HS{a:List D}:E7 (.tup a)=some (.tup a):=rfl
theorem K1{b:Bool}{x:D}{ds:List D}:inD b x (.lst ds)=if bD x=true/\ds.all bD=true then some (.bl (xor b (ds.any λd=>eqD d x)))else none:=rfl
theorem Ld{b:Bool}{x:D}{ds:List D}:inD b x (.tup ds)=if bD x=true/\ds.all bD=true then some (.bl (xor b (ds.any λd=>eqD d x)))else none:=rfl
theorem Hc{a b:Int}:eqF (.int a) (.int b)=some (.bl (a==b)):=by simp[eqF,dLe,eqD]
theorem Io{a b:Str}:eqF (.str a) (.str b)=some (.bl (a==b)):=by simp[eqF,dLe,eqD]
theorem G1{a b:Bool}:eqF (.bl a) (.bl b)=some (.bl (a==b)):=by simp[eqF,dLe,eqD]
theorem J8{ds:List D}{lo a:Option Int}:slD (.scr ds) lo a=some (.lst (cZ ds lo a)):=rfl
theorem K3{ds:List D}{lo a:Option Int}:slD (.lst ds) lo a=some (.lst (cZ ds lo a)):=rfl
theorem JU{x:Str}{lo a:Option Int}:slD (.str x) lo a=if x.length<=N7 then some (.str (as4 x lo a))else none:=rfl
theorem D2{a:List D}:lu (.lst a)=some a:=rfl
theorem B2{a:List D}:lu (.tup a)=some a:=rfl
theorem DW{a:List D}:lu (.scr a)=some a:=rfl
theorem C9{x:Str}:lu (.str x)=if x.length<=N7 then some (bB x)else none:=rfl
theorem J0{n:Nat}:ixN (n+1) 0=some 0:=by simp[ixN]<;>omega
theorem K9{n:Nat}:ixN (n+2) 1=some 1:=by simp[ixN]<;>omega
theorem J5{n:Nat}:ixN (n+3) 2=some 2:=by simp[ixN]<;>omega
theorem sz3(n:Nat)(h:n<=1000:=by decide):n<=N7:=N3 h (by decide)
theorem Jj{b:Bool}:ES "bool" (.bl b)=some true:=rfl
end
end L2
namespace L2
theorem Kf{i j:Int}(h:-18446744073709551616<j/\j<18446744073709551616):nO i j=True:=by unfold nO;simp;right;assumption
theorem GA{i j:Int}(h:-18446744073709551616<i/\i<18446744073709551616):nO i j=True:=by unfold nO;simp;left;assumption
theorem BQ:xb 10 18=True:=by simp[xb]
theorem Ln{i j:Int}(h:0<j/\j<1073741824):xJ i j=True:=by unfold xJ;simp[h]
end L2
namespace L2
open PySem PySem.Spec PyProof.Rows
theorem fT{g:GD}{tc:TTd}{te:TEd}{M:DH}{Q:List D->DH->Prop}(b:D->Bool)(y:D->D)(Ok:DE->Prop):∀(ds:List D) (e:DE) (c:List D),
  (∀d∈ds,∀ e,Ok e->∃ a,g d e=some a/\Ok a/\(∀f:Bool->DH->Prop,f (b d) M->tc a M f)/\(b d=true->∀i:D->DH->Prop,i (y d) M->te a M i))->Ok e ->
  Q (c++(ds.filter b).map y) M->cY g tc te ds e M c Q
 |[],e,c,_,_,q=>by simpa[cY]using q
 |d::ds,e,c,h,j,q=>by
  simp only[cY];obtain⟨a,n,ok,o,p⟩:=h d V8 e j;refine⟨a,n,o _ ?_⟩;have m:∀d∈ds,∀ e,Ok e->∃ a,g d e=some a/\Ok a/\(∀f:Bool->DH->Prop,f (b d) M->tc a M f)/\(b d=true->∀i:D->DH->Prop,i (y d) M->te a M i):=λx s=>h x (S7 _ s);cases l:b d with
  |true =>
   simp only[if_true];refine p l _ (fT b y Ok ds a (c++[y d]) m ok ?_);simpa[ab1,l]using q
  |false =>
   simp only[N9,if_false];refine fT b y Ok ds a c m ok ?_;simpa[ab1,l]using q
theorem Es{a b:Str}:eqD (.str a) (.str b)=(a==b):=by simp[eqD]
theorem fP{x:Str}:∀{ws:List Str},(ws.map D.str).any (λd=>eqD d (.str x))=decide (x∈ws)
 |[]=>by simp
 |w::ws=>by
  rw[N5,ad3,fP (ws:=ws),Es]
  by_cases h:w=x
  ·subst h;simp
  ·have c:(w==x)=false:=by simpa using h
   have a:¬ x=w:=λe=>h e.symm;simp[c,a]
theorem ip{ws:List Str}:(ws.map D.str).all bD=true:=by
 induction ws with
 |nil=>rfl
 |cons w ws ih=>rw[N5,ap8,ih];rfl
theorem qG:∀{ws:List Str},iC (ws.map D.str)=some ws
 |[]=>rfl
 |w::ws=>by rw[N5];simp only[iC];rw[qG];rfl
section
variable{X:Cx}{e:R6}{te:TEd}{y:Pos}
def Gr(te:TEd):TSd:=λE a M=>te a M λd M1=>∃M2,LeM M2 M1/\E.rt d M2
theorem o6{M:DH}{q:O1}{o:HD}(h:M q=none):LeM M (ay M q o):=λa u e=>by
 by_cases c:a=q
 ·subst c;rw[h]at e;cases e
 ·rw[aA c];exact e
end
end L2
namespace L2
open PySem PySem.Spec PyProof.Rows PySem.Builtin.Str
noncomputable def tx(a:List Nat):Str:=⟨a.toArray⟩
theorem Jd{a b:List Nat}:tx a=tx b↔a=b:=by
 unfold tx;constructor
 ·intro h;injection h with h;simpa using congrArg Array.toList h
 ·intro h;rw[h]
theorem gH(a:List Nat):(tx a).cps.toList=a:=by simp[tx]
theorem iR(a:List Nat):(tx a).length=a.length:=by show(tx a).cps.size=_;simp[tx]
theorem yh(a b:List Nat):tx a++tx b=tx (a++b):=by
 show Str.mk (a.toArray++b.toArray)=_;simp[tx]
theorem KF:(ab6 "":Str)=tx []:=by decide +kernel
theorem uV:∀a:List Nat,Txt.join (tx []) (a.map λc=>tx [c])=tx a:=by
 intro a;unfold Txt.join;rw[StrLaws.glued_eq_join]
 induction a with
 |nil=>rfl
 |cons c a ih =>
  cases a with
  |nil=>rfl
  |cons d a =>
   rw[N5]at ih ⊢;rw[N5];show tx [c]++tx []++Str.join (tx []) (tx [d]::a.map λc=>tx [c])=_;rw[ih,yh,yh];rfl
theorem Be{x:Array Nat}:∀k,k<=x.size->(Q0 k).filterMap (x[·]?)=x.toList.take k:=by
 intro k
 induction k with
 |zero=>intro _;simp
 |succ k ih =>
  intro h;rw[aq0,List.filterMap_append,ih (by exact T8 (by assumption))];have a:x[k]?=some x[k]:=by simp[show k<x.size by assumption]
  rw[S1];simp[a,show k<x.size by assumption]
theorem yr(a:List Nat)(k:Nat):as4 (tx a) none (some (k:Int))=tx (a.take k):=by
 have h:strSliceIndices none (some (k:Int)) 1 (tx a).length=Q0 (min k a.length):=by
  unfold strSliceIndices sliceRange;rw[iR];have g:(max 0 (min (if(k:Int)<0 then(k:Int)+(a.length:Int)else(k:Int)) (a.length:Int)))=((min k a.length:Nat):Int):=by
   rw[if_neg (by lia)];lia
  simp only[show(1:Int) > 0 by decide,if_true];rw[g];have i:(if(0:Int)<((min k a.length:Nat):Int)then(((min k a.length:Nat):Int)-0+1-1) / 1 else 0).toNat=min k a.length:=by
   split<;>lia
  rw[i];apply an7;intro j;rw[Q6]
  by_cases f:j<min k a.length
  ·rw[ap0 f];simp
  ·rw[S9 (by simp;lia)];rfl
 unfold as4;rw[h]
 by_cases c:(((1:Int)==1&&(Q0 (min k a.length)).length==(tx a).length))=true
 ·rw[if_pos c];have:a.length<=k:=by
   simp[iR]at c
   lia
  rw[ae0 this]
 ·rw[if_neg c];have e:(Q0 (min k a.length)).filterMap ((tx a).cps[·]?)=a.take k:=by
   rw[Be _ (by simp[tx];lia),gH];rw[List.take_eq_take_iff]
   lia
  rw[e];rfl
theorem fE{a:Type}[DecidableEq a]:∀(V K:List a),V.Nodup->(∀x∈V,x∈K)->V.length<=K.length
 |[],_,_,_=>O3 _
 |x::V,K,i,h=>by
  have c:=h x V8;obtain⟨f,g⟩:=Z1.mp i;have:=fE V (K.erase x) g λy e=>(List.mem_erase_of_ne (by rintro rfl;exact f e)).mpr (h y (S7 _ e));rw[List.length_erase_of_mem c]at this;have j:0<K.length:=List.length_pos_of_mem c;simp only[O2]
  lia
def qu(c:Nat):Prop:=97<=c/\c<=122
def eX(w:Str):Prop:=1<=w.cps.toList.length/\w.cps.toList.length<=8/\∀c∈w.cps.toList,qu c
noncomputable abbrev abc:Str:=ab6 "abcdefghijklmnopqrstuvwxyz"
noncomputable def gU:List Nat:=List.range' 97 26
theorem qk:abc=tx gU:=by decide +kernel
theorem HP{v:Int}(h0:0<=v)(g:v<26):∃c,qu c/\ixD (.str abc) (.int v)=some (.str (tx [c])):=by
 obtain⟨n,rfl⟩:=Z0 h0;have f:n<26:=by lia
 refine⟨97+n,⟨by lia,by lia⟩,?_⟩;have e:abc.length<=N7:=by rw[qk,iR];exact sz3 _
 have a:atI abc.cps.toList (n:Int)=some (97+n):=by
  rw[qk,gH];exact cf (by unfold gU;rw[List.getElem?_range' f];simp)
 rw[Kz,if_pos e,a];rfl
theorem ua:bB abc=gU.map λc=>D.str (tx [c]):=by
 unfold bB;rw[qk,gH];rfl
theorem BZ{w:Str}{f:List Str}(n:f.length<=25):∃c∈gU,tx (w.cps.toList.take 7++[c])∉f:=by
 refine X0 λh=>?_;have l:∀c∈gU,tx (w.cps.toList.take 7++[c])∈f:=λc i=>X0 λg=>h ⟨c,i,g⟩;have g:(gU.map λc=>tx (w.cps.toList.take 7++[c])).Nodup:=by
  rw[List.nodup_iff_pairwise_ne,an8];have:gU.Nodup:=by decide
  exact ar3 (λ{a b} j e=>j (by rw[Jd]at e;simpa using e)) this
 have:=fE _ f g (λx m=>by
  obtain⟨c,i,rfl⟩:=P4.mp m;exact l c i)
 simp[gU]at this
 lia
theorem yF{w:Str}{c:Nat}(g:eX w)(f:qu c):eX (tx (w.cps.toList.take 7++[c])):=by
 obtain⟨i,j,a⟩:=g;unfold eX;rw[gH];refine⟨by simp,by simp;lia,λx e=>?_⟩;rcases P0.mp e with h|h
 ·exact a x (aj2 h)
 ·have:x=c:=by simpa using h
  subst this;exact f
theorem Dn{c:Nat}(h:c∈gU):qu c:=by
 unfold gU at h;rw[List.mem_range'_1]at h;exact⟨by lia,by lia⟩
end L2
namespace L2
open PySem PySem.Spec PyProof.Rows
theorem tY{g:GD}{m:TSd}{E:fZ}{all:List D}(I:Nat->DE->DH->Prop)
  (step:∀(i:Nat) (d:D) (c:DE) (M:DH) (X:DE->DH->Prop),all[i]?=some d->I i c M->(∀ a j,I (i+1) a j->X a j)->∃ a,g d c=some a/\m { E with nx:=X,ct:=X,bk:=E.nx } a M)
  (f:∀ c M,I all.length c M->E.nx c M):∀(ds:List D) (i:Nat) (c:DE) (M:DH),all.drop i=ds->i<=all.length->I i c M->cy g m E ds c M
 |[],i,c,M,e,p,h=>by
  have:i=all.length:=by
   have:=congrArg ad2 e;simp at this;lia
  subst this;simpa only[cy]using f c M h
 |d::ds,i,c,M,e,p,h=>by
  have l:i<all.length:=by
   have:=congrArg ad2 e;simp at this;lia
  have n:all[i]?=some d:=by
   have:=congrArg List.head? e;simpa using this
  have q:all.drop (i+1)=ds:=by
   rw[<-List.tail_drop,e];rfl
  simp only[cy];exact step i d c M _ n h λa j o=>tY I step f ds (i+1) a j q l o
theorem aG{g:GD}{h:TSd}{E:fZ}{ds:List D}{c:DE}{M:DH}(I:Nat->DE->DH->Prop)(h0:I 0 c M)
  (step:∀(i:Nat) (d:D) (c:DE) (M:DH) (X:DE->DH->Prop),ds[i]?=some d->I i c M->(∀ a f,I (i+1) a f->X a f)->∃ a,g d c=some a/\h { E with nx:=X,ct:=X,bk:=E.nx } a M)
  (e:∀ c M,I ds.length c M->E.nx c M):cy g h E ds c M:=tY I step e ds 0 c M rfl (O3 _) h0
theorem w6{g:GD}{tc:TTd}{te:TEd}{all:List D}{Q:List D->DH->Prop}(I:Nat->List D->DE->DH->Prop)
  (step:∀ (i:Nat) (d:D) (a:List D) (j:DE) (M:DH) (X:List D → DE → DH → Prop),all[i]? = some d → I i a j M → (∀ f c l,I (i + 1) f c l → X f c l) →
   ∃ c,g d j=some c/\tc c M λb M1=>if b=true then te c M1 λy M2=>X (a++[y]) c M2 else X a c M1)
  (m:∀a j M,I all.length a j M->Q a M):∀(ds:List D) (i:Nat) (a:List D) (j:DE) (M:DH),all.drop i=ds->i<=all.length->I i a j M->cY g tc te ds j M a Q
 |[],i,a,j,M,e,s,h=>by
  have:i=all.length:=by
   have:=congrArg ad2 e;simp at this;lia
  subst this;simpa only[cY]using m a j M h
 |d::ds,i,a,j,M,e,s,h=>by
  have n:i<all.length:=by
   have:=congrArg ad2 e;simp at this;lia
  have p:all[i]?=some d:=by
   have:=congrArg List.head? e;simpa using this
  have o:all.drop (i+1)=ds:=by
   rw[<-List.tail_drop,e];rfl
  simp only[cY];exact step i d a j M (λf c l=>cY g tc te ds c l f Q) p h λf c l q=>w6 I step m ds (i+1) f c l o n q
theorem C4{g:GD}{tc:TTd}{te:TEd}{ds:List D}{f:DE}{M:DH}{Q:List D->DH->Prop}(I:Nat->List D->DE->DH->Prop)(h0:I 0 [] f M)
  (step:∀ (i:Nat) (d:D) (c:List D) (f:DE) (M:DH) (X:List D → DE → DH → Prop),ds[i]? = some d → I i c f M → (∀ e a j,I (i + 1) e a j → X e a j) →
   ∃ a,g d f=some a/\tc a M λb M1=>if b=true then te a M1 λy M2=>X (c++[y]) a M2 else X c a M1)
  (h:∀c f M,I ds.length c f M->Q c M):cY g tc te ds f M [] Q:=w6 I step h ds 0 [] f M rfl (O3 _) h0
theorem szB(n:Nat)(h:n<=16000000:=by decide):n<=N7:=N3 h (by decide)
theorem bU{a:Type}{f:a->D}{xs:List a}{i:Nat}{d:D}(h:(xs.map f)[i]?=some d):∃x,xs[i]?=some x/\d=f x:=by
 rw[Q6]at h;cases e:xs[i]? with
 |none=>rw[e]at h;cases h
 |some x=>rw[e]at h;cases h;exact⟨x,rfl,rfl⟩
theorem vU{K:u8}{M:DH}{H:Hp}:∀ns:List Int,aw K M H (ns.map D.int) (ns.map V.int)
 |[]=>aw.nil
 |n::ns=>aw.cons (by simp[Rep]) (vU ns)
theorem Bl{K:u8}{H:Hp}{a:O1}{ns:List Int}(e:Ex H)(c:SqL K H a (ns.map V.int)):aw K noM H [.scr (ns.map D.int)] [.ref a]:=by
 refine aw.cons ?_ aw.nil;simp only[Rep];refine⟨a,ns.map V.int,rfl,?_,vU ns⟩;rcases c with h|h
 ·left;rcases h with h|h
  ·rcases e a with z|⟨o,f,z⟩<;>(rw[h]at z;cases z)
  ·exact⟨h,rfl⟩
 ·right;exact .inr h
def JZ(S:SpD):Prop:=∀(a:List Int) (R:D->DH->Prop),a.length<=63->(∀c,R (.bl true) c)->S [.scr (a.map .int)] noM R
theorem Lo{S:SpD}(I:JZ S){k:Nat}{x:Str}{l:PySem.W.OpenLaw}{q:Q7}{c:List Str}{G:(Str->Option M0)->Q9->Prop}{j:U9->Q9->Prop}{d:DefRec}{K:Params->u8}(hr:cQ k ay6)(hn:l.most=some 63)(i:d.params.defaults=[])
  (L:∀(w:U9) (h:Q9),j w h->(K w.params).In h)
  (F:∀ (w:U9) (g:Str → Option M0) (o:O1) (h:Q9),(K w.params).In h → h.Ns R3 g → g d.name = some (.ref o) →
   ∃p:P5,(∀(s:N1) (u:M0),az5 s p ⟨[u],[]⟩ [(x,u)])/\∀base:Q9,(K w.params).In base->base.Ns R3 g->aV l.prog w (K w.params) g base CX0 k o p [x] (spD (K w.params) 1 S)) :
  PySem.W.WalkO q c G j l.row.toRowW d [] (λf J=>PySem.call f J) :=
 L2.zz (n:=63) (k:=k) (x:=x) (CX:=λ_=>CX0) (sp:=λw=>spD (K w.params) 1 S) hn (by decide) i hr L F
  (λw H a m E B A=>⟨[.scr (m.map .int)],noM,λd _=>d=.bl true,rfl,Bl B A,HR.nil,I m _ E (λ_=>rfl),λd M v N e _ _ C=>by subst e;simpa only[Rep]using C⟩) λ_ _ _ _ _ z=>z
section
variable{X:Cx}{a b c e:R6}{es:List R6}{te G H:TEd}{t:TAd}{z:Pos}{I y:R6}
theorem rY:ag4 "reversed"=some (.type "reversed"):=by kernel_rfl
end
section
variable{X:Cx}
noncomputable def neF(x y:D):Option D:=if dLe x 60=true/\dLe y 60=true then some (.bl (!(eqD x y)))else none
theorem Iz(f:X.A.units+64<af7):cC X (V4 .NotEq) neF:=by
 intro g s c H M x y v u dx dy dz Q I hr rx ry r1 r2 e k;unfold neF at e
 by_cases a:dLe dx 60=true/\dLe dy 60=true
 ·rw[if_pos a]at e;cases e;exact(qY I 60 (A:=X.A) (by lia) a.1 a.2 r1 r2 rx ry).2.2 X.prog X.w X.xe _ ⟨.bl (!(eqD dx dy)),H,I,rfl,k _ H (Ext.refl _ _) hr (by simp[Rep])⟩
 ·rw[if_neg a]at e;cases e
theorem G2{a b:Int}:neF (.int a) (.int b)=some (.bl (!(a==b))):=by simp[neF,dLe,eqD]
theorem JA{a b:Str}:neF (.str a) (.str b)=some (.bl (!(a==b))):=by simp[neF,dLe,eqD]
theorem IB{a b:Bool}:neF (.bl a) (.bl b)=some (.bl (!(a==b))):=by simp[neF,dLe,eqD]
end
end L2
namespace HT
open PySem PyProof.Rows
section
variable{prog:Q7}{w:U9}{A:S0}{E:M0->N1->Prop}{s:N1}
theorem rW{t:O1}{items:Array M0}{Q:Bool->N1->Prop}(a:aw8 s.heap t items)(h:Q true s):P6 (R4 prog w) A (Q8.Tuple.tupleIsExact (.ref t)) Q E s:=by
 unfold Q8.Tuple.tupleIsExact;exact o0 (as3 a.typeIs (M9 (by simpa using h)))
theorem getItem_tuple_whole{t g:O1}{items:Array M0}{l m:M0}{lo f:Option Int}{Q:M0->N1->Prop}(a:aw8 s.heap t items)(hs:s.heap.IsSliceOf g l m .none)(o:az1 l lo)(p:az1 m f)
  (j:sIx items.size 0 lo=0/\sIx items.size items.size f=items.size) (h:Q (.ref t) s):P6 (R4 prog w) A (av8 (.ref t) (.ref g)) Q E s:=by
 obtain⟨os,i,c,n⟩:=id hs;have e:s.TypeIs (.ref g) "slice":=⟨os,i,c⟩;unfold av8
 try with_reducible refine W5 ?_
 first|refine o0 (M9 ?_)|skip
 refine o0 (wpAny_sequenceKey a.typeIs (by decide) ?_);refine o0 (V6 (name:=ab6 "__getitem__") a.typeIs X6
  (U3 X6 a.typeIs entry_tuple_getitem ?_ (args_tuple_getitem _ _)))
 show P6 _ _ (ah5 (.ref t) >>= _) _ _ s;refine o0 (tupleItemsOf_ a ?_);refine o0 (as3 e ?_);rw[if_pos (by decide)];refine o0 (g7 hs o p ?_);show P6 _ _ (if(((sIx items.size 0 lo:Nat):Int)==0&&(1:Int)==1&&(sIx items.size items.size f-sIx items.size 0 lo)==items.size)=true then _ else _) _ _ s;rw[if_pos (by rw[j.1,j.2];simp)];refine o0 (rW a ?_);rw[if_pos rfl];refine o0 (ap3 ?_)
 first
  |exact M9 ⟨_,rfl,M9 h⟩
  |exact o0 (M9 (M9 ⟨_,rfl,M9 h⟩))
end
end HT
namespace L2
open PySem PySem.Spec PyProof.Rows
section
variable{X:Cx}{a b c e:R6}{es:List R6}{te ta tb ts:TEd}{t:TAd}{Y:Pos}
def slE:D->Option Int->Option Int->Option D
 |.tup c,lo,a=>some (.tup (cZ c lo a))
 |d,lo,a=>slD d lo a
def LM(K:u8):V->Option Int->Option Int->Hp->VK->Prop:=λx lo e H Q=>∃a c,x=.ref a/\SqT K H a c/\(HT.sIx c.length 0 lo=0/\HT.sIx c.length c.length e=c.length)/\Q (.ref a) H
theorem Dg:SlR X (LM X.K):=by
 intro n s l H x v vl vu lo hi sl Q I rx hs pl pu h;obtain⟨a,g,rfl,i,j,q⟩:=h;cases rx;obtain⟨c,r,e,m⟩:=I.tuple i;have f:c.toArray.size=g.length:=by rw[O0];exact r.length.symm
 exact⟨"tuple",_,X6.lookup,e.typeIs,HT.getItem_tuple_whole e hs pl pu (by rw[f];exact j) ⟨.ref a,H,I,rfl,q⟩⟩
theorem xP{ds:List D}{lo a:Option Int}(h:HT.sIx ds.length 0 lo=0/\HT.sIx ds.length ds.length a=ds.length):cZ ds lo a=ds:=by
 unfold cZ;rw[h.1,h.2];simp
def J1(te:TEd)(e f:TOd):TEd:=λa M Q=>te a M λx M1=>e a M1 λl M2=>f a M2 λu c=>∃z,slE (rdM c x) l u=some z/\Q z c
theorem Lj{ds:List D}{lo a:Option Int}:slE (.tup ds) lo a=some (.tup (cZ ds lo a)):=rfl
theorem Lg{ds:List D}{lo a:Option Int}:slE (.lst ds) lo a=some (.lst (cZ ds lo a)):=rfl
theorem Lb{ds:List D}{lo a:Option Int}:slE (.scr ds) lo a=some (.lst (cZ ds lo a)):=rfl
theorem Le{x:Str}{lo a:Option Int}:slE (.str x) lo a=if x.length<=N7 then some (.str (as4 x lo a))else none:=rfl
def Dj:TSd:=λ_ _ _=>False
variable{y:am0}{G:List (Str×O1)}{ar:List Str}{L:R6}
def FC(X:Cx)(y:am0)(G:List (Str×O1))(ar:List Str)(e:List R6)(g:GDs):Prop:=∃l:TGs,(∀C s H m,PGs (aL X y G (X.N++ar) C s H m) e l)/\∀(f:List D) (j:List V) (i:St) (h a:DE) (M:DH) (H:Hp) (Q:St->Hp->Prop),SR X.K M H i h->HR X.K M H->aw X.K M H f j->g f h=some a->(∀ c,SR X.K M H c a->Q c H)->l j i H Q
theorem gR:FC X y G ar [] tP:=⟨Im,λ_ _ _ _=>zx,λg i h j c M H Q f l a e k=>by
 cases g with
 |nil=>simp only[aw]at a;subst a;cases e;exact⟨rfl,k _ f⟩
 |cons _ _=>cases e⟩
theorem bC{a:List R6}{g:GD}{n:GDs}(u:PGa X y G ar L g)(B:FC X y G ar a n)
  (hs:∀env,(ae3 (L::a) env).map (·.2)=au8 L env::(ae3 a env).map (·.2):=by intro _;rfl):FC X y G ar (L::a) (iO g n):=by
 obtain⟨x,R,E⟩:=u;obtain⟨A,z,P⟩:=B;refine⟨BJ x A,λC s H p=>xD (R C s H p) (z C s H p) (hs _),λI S J l h M H Q w m j e k=>?_⟩;cases I with
 |nil=>cases e
 |cons d r =>
  simp only[aw]at j;obtain⟨v,o,rfl,O,N⟩:=j;simp only[iO]at e;cases q:g d l with
  |none=>rw[q]at e;cases e
  |some c =>
   rw[q]at e;exact⟨v,o,rfl,E d v J l c M H _ w m O q λf i=>P r o f c h M H Q i m N e k⟩
theorem gS{c:List R6}{I:Nat}{g:GDs}{n:Nat}(z:X.calm=true)(h:FC X y G ar c g)(hn:∀env,(ae3 c env).length=n:=by intro _;rfl)(i:∀env,(ae3 c env).findIdx? (·.1)=none:=by intro _;rfl):PGa X y G ar (.Tuple c I Y) (oh g n):=by
 obtain⟨u,w,J⟩:=h;refine⟨Jn X.K n u,λC s H p=>DI (X:=aL X y G (X.N++ar) C s H p) z (w C s H p) (hn _) (i _),λd v B x j M H Q A E l e k=>?_⟩;cases d with
 |tup m =>
  simp only[oh]at e
  by_cases f:m.length=n
  ·rw[if_pos f]at e;simp only[Rep]at l;obtain⟨a,q,rfl,ta,o⟩:=l;exact⟨a,q,rfl,ta.sq,by rw[<-o.length];exact f,J m q B x j M H Q A E o e k⟩
  ·rw[if_neg f]at e;cases e
 |_=>cases e
end
section
variable{X:Cx}{a b c e:R6}{es:List R6}{te ta tb ts:TEd}{t:TAd}{N:Pos}
def inE(a:Bool)(x y:D):Option D:=match y with
 |.str j=>match x with
  |.str i=>some (.bl (xor a (!(ak4 j i 0 j.length 1).isEmpty)))
  |_=>none
 |y=>inD a x y
theorem pL:cC X (V4 .In) (inE false):=by
 intro c s a H M x y v u dx dy dz Q I hr rx ry r1 r2 e k;cases dy with
 |str j =>
  cases dx with
  |str i =>
   cases e;exact AC c s a H x y v u Q I rx ry ⟨i,j,sD r1,sD r2,k _ H (Ext.refl _ _) hr (by simp[Rep])⟩
  |_=>cases e
 |_=>exact L3 c s a H M x y v u dx _ dz Q I hr rx ry r1 r2 e k
theorem ma:cC X (V4 .NotIn) (inE true):=by
 intro c s a H M x y v u dx dy dz Q I hr rx ry r1 r2 e k;cases dy with
 |str j =>
  cases dx with
  |str i =>
   cases e;exact vn c s a H x y v u Q I rx ry ⟨i,j,sD r1,sD r2,k _ H (Ext.refl _ _) hr (by simp[Rep])⟩
  |_=>cases e
 |_=>exact Fc c s a H M x y v u dx _ dz Q I hr rx ry r1 r2 e k
theorem Lm{b:Bool}{x:D}{ds:List D}:inE b x (.lst ds)=if bD x=true/\ds.all bD=true then some (.bl (xor b (ds.any λd=>eqD d x)))else none:=rfl
theorem Ko{b:Bool}{x:D}{ds:List D}:inE b x (.tup ds)=if bD x=true/\ds.all bD=true then some (.bl (xor b (ds.any λd=>eqD d x)))else none:=rfl
theorem GR{b:Bool}{c:Nat}{y:Str}:inE b (.str (tx [c])) (.str y)=some (.bl (xor b (decide (c∈y.cps.toList)))):=by
 show some (D.bl (xor b (!(ak4 y ⟨#[c]⟩ 0 y.length 1).isEmpty)))=_;rw[StrLaws.found_one]
theorem nF:fillsNumberSlot (.type "tuple") "mul"=al5 false :=
 PySem.fillsNumberSlot_seq (id:="tuple.__mul__") (r:=some (.builtin "tuple.__rmul__")) F.slot_tuple_mul.lookup (by decide +kernel) F.slot_tuple_rmul.lookup (by decide +kernel)
theorem u7:seqRepeat? (.type "tuple")=al5 (some (.builtin "tuple.__mul__")):=by
 unfold seqRepeat?;rw[PySem.seqSlot_of (T:="tuple") (name:="__mul__") (id:="tuple.__mul__") F.slot_tuple_mul.lookup (by decide +kernel),PySem.seqSlot_of (T:="tuple") (name:="__rmul__") (id:="tuple.__rmul__") F.slot_tuple_rmul.lookup (by decide +kernel)];rfl
theorem rL(a:Int)(t:Tok)(l:O1)(items:Array M0):
  Meets (Q8.«int.__rmul__» ⟨[.int a t,.ref l],[]⟩) (λ_ R s=>aw8 s.heap l items/\R (.ok (.ret M0.notImplemented)) s) :=
 .of_wp λprog w A R s h=>by
  obtain⟨q,g,d,m,os⟩:=s;obtain⟨⟨⟨i,p,f,o⟩,j,e,n,c⟩,h⟩:=h;simp only at e c;subst e c
  wp_walk;exact⟨_,rfl,h⟩
theorem sv(l:O1)(items:Array M0)(x:Int)(u:Tok)(e:items.isEmpty=false)(E:2<=x)(p:x<2 ^ 62)(C:items.size*x.toNat<=N7):
  Meets (Q8.«tuple.__mul__» ⟨[.ref l,.int x u],[]⟩) (λ_ R s=>aw8 s.heap l items/\R (.ok (.ret (.ref s.heap.objs.size))) { s with heap:=s.heap.push { cls:=.type "tuple",data:=.seq (R7 x.toNat items.toList).flatten.toArray } }) :=
 .of_wp λprog w A R s h=>by
  obtain⟨B,h⟩:=h;show P6 _ _ (do
   let n <-asIndex (.int x u)
   if n < -(2 ^ 63) || n>=2 ^ 63 then
    rule "tuple.repeat.overflow";raiseError "OverflowError" s!"cannot fit '{← typeNameOf (.int x u)}' into an index-sized integer"
   let c <-ah5 (.ref l)
   if c.isEmpty || n==1 then
    if <-Q8.Tuple.tupleIsExact (.ref l)then rule "tuple.repeat.same-object";return <-ret (.ref l)
   if n<=0 || c.isEmpty then return <-ret (<-aa1 #[])
   if c.size*n > (2 ^ 63-1) / 8 then rule "tuple.repeat.no-memory";raiseNew (<-newExc (.type "MemoryError") [])
   if Q8.Tuple.tupleTooMany (c.size*n)then aw1 "tuple.__mul__:memory"
   ret (<-aa1 ((R7 n.toNat c).foldl (·++·) #[]))) _ _ s
  refine o0 (au4 (a:=x) rfl ?_);dsimp only;rw[if_neg (by simp only[Bool.or_eq_true,decide_eq_true_eq];lia)];refine o0 (tupleItemsOf_ B ?_);rw[if_neg (by simp[e];lia)];rw[if_neg (by simp[e];exact av0 (by assumption))];have f:((x.toNat:Nat):Int)=x:=by lia
  have g:(items.size:Int)*x=((items.size*x.toNat:Nat):Int):=by rw[Int.natCast_mul,f]
  have z:N7=16777216:=rfl;rw[if_neg (by rw[g];lia)];rw[if_neg (by unfold Q8.Tuple.tupleTooMany;rw[g];simp only[decide_eq_true_eq];lia)];have o:az7 (λi q=>i++q) #[] (R7 x.toNat items)=(R7 x.toNat items.toList).flatten.toArray:=by
   have:=m6 items.toList x.toNat [];rw[P1]at this;simpa using this
  rw[o];have j:sizeOk (.seq (R7 x.toNat items.toList).flatten.toArray):=by
   show(R7 x.toNat items.toList).flatten.toArray.size<=N7;rw[O0,uw,O8,am9];exact C
  exact o0 (m:=aa1 _) (S3 (M9 ⟨_,rfl,h⟩) j)
theorem aw.rep{K:u8}{M:DH}{H:Hp}{ds:List D}{a:List V}(h:aw K M H ds a):∀k:Nat,aw K M H (R7 k ds).flatten (R7 k a).flatten
 |0=>aw.nil
 |k+1=>by
  rw[ae4,ae4,aj6,aj6];exact h.append (aw.rep h k)
noncomputable def Dk:D->D->Option D
 |.int a,.int b=>if nO a b then some (.int (a*b))else none
 |.str x,.int n=>if x.length<=16777216/\-(2 ^ 63)<=n/\n<=16777216/\x.length*n.toNat<=16777216 then some (.str (Txt.mul x n))else none
 |.tup c,.int n=>if 2<=n/\n<2 ^ 62/\c≠[]/\c.length*n.toNat<=N7 then some (.tup (R7 n.toNat c).flatten)else none
 |.lst c,.int n=>if -(2 ^ 63)<=n/\n<2 ^ 63/\c.length*n.toNat<=N7 then some (.lst (R7 n.toNat c).flatten)else none
 |_,_=>none
theorem nh:cC X (ad8 .Mult) Dk:=by
 intro L s G H M x y v u dx dy dz Q I hr rx ry r1 r2 e k;cases dx with
 |int a =>
  cases dy with
  |int b=>exact IR L s G H M x y v u _ _ dz Q I hr rx ry r1 r2 e k
  |_=>cases e
 |str z =>
  cases dy with
  |int n =>
   simp only[Dk]at e
   by_cases c:z.length<=16777216/\-(2 ^ 63)<=n/\n<=16777216/\z.length*n.toNat<=16777216
   ·rw[if_pos c]at e;cases e;have S:=sD r1;have C:=jo r2;subst S;subst C;obtain⟨Y,rfl⟩:=rx;obtain⟨l,rfl⟩:=ry;have A:MulOk z n:=by
     by_cases hn:0<=n
     ·exact mulOk_of z.length n.toNat (N2 _) (by lia) c.2.1 (by lia) c.2.2.2
     ·exact mulOk_of z.length 0 (N2 _) (by lia) c.2.1 (by decide) (by exact O3 _)
    exact SB.mul A λE kk=>⟨.str _,H,I.tok _,⟨E,rfl⟩,k _ H (Ext.refl _ _) hr (by simp[Rep])⟩
   ·rw[if_neg c]at e;cases e
  |_=>cases e
 |tup h =>
  cases dy with
  |int n =>
   simp only[Dk]at e
   by_cases c:2<=n/\n<2 ^ 62/\h≠[]/\h.length*n.toNat<=N7
   ·rw[if_pos c]at e;cases e;have C:=jo r2;subst C;obtain⟨l,rfl⟩:=ry;obtain⟨a,m,rfl,sq,j⟩:=r1;cases rx;obtain⟨f,J,pt,hz⟩:=I.tuple sq;have i:=J.length;have g:=j.length;have B:f.toArray.isEmpty=false:=by
     cases f with
     |nil =>
      have P:h.length=0:=by rw[g,i];rfl
      exact absurd (ag2.mp P) c.2.2.1
     |cons _ _=>rfl
    have w:f.toArray.size*n.toNat<=N7:=by rw[O0,<-i,<-g];exact c.2.2.2
    refine wpAny_binaryOp_repeat_ref (T:="tuple") (U:="int") (by decide) pt.typeIs (λR=>ax9 R n l) nF F.fills_int_mul au1 u7 F.slot_int_index.lookup
     (av5 au1 (ax9 s n l) F.entry_int_rmul (F.args_int_rmul_2 _ _) (rL n l a f.toArray)
      ⟨pt,rfl,pt.typeIs,av5 F.slot_tuple_mul pt.typeIs F.entry_tuple_mul (F.args_tuple_mul_2 _ _) (sv a f.toArray n l B c.1 c.2.1 w) ⟨pt,?_⟩⟩)
    have N:aH (R7 n.toNat m).flatten (R7 n.toNat f).flatten:=J.rep n.toNat;refine⟨.ref s.heap.objs.size,_,I.laid (t':=s.toks) (o:=.tup (R7 n.toNat m).flatten) (λb Z q=>M7 _ q) (N2 _) ?_,rfl,?_⟩
    ·refine⟨?_,_,N,by simpa using pR.new _ _⟩;rw[uw,am9,<-g];exact c.2.2.2
    ·exact uA hr (I.hok.fresh (N2 _)) (j.rep n.toNat) k
   ·rw[if_neg c]at e;cases e
  |_=>cases e
 |lst h =>
  cases dy with
  |int n =>
   simp only[Dk]at e
   by_cases c:-(2 ^ 63)<=n/\n<2 ^ 63/\h.length*n.toNat<=N7
   ·rw[if_pos c]at e;cases e;obtain⟨a,m,rfl,sq,j⟩:=r1;exact HB L s G H _ _ v u Q I rx ry ⟨a,n,m,rfl,jo r2,sq,c.1,c.2.1,by rw[<-j.length];exact c.2.2,λp O=>gN hr O (j.rep n.toNat) k⟩
   ·rw[if_neg c]at e;cases e
  |_=>cases e
 |_=>cases e
theorem E9{a b:Int}:Dk (.int a) (.int b)=if nO a b then some (.int (a*b))else none:=rfl
noncomputable def sH:D->Bool
 |.non=>true
 |_=>false
noncomputable def uC(a:Bool)(x y:D):Option D:=match y with|.non=>some (.bl (xor a (sH x)))|_=>none
theorem zB{K:u8}{M:DH}{H:Hp}{d:D}{x:V}(r:ba K M H d x):decide (x=V.non)=sH d:=by
 cases d with
 |tup c=>obtain⟨a,e,rfl,_⟩:=r;rfl
 |lst c=>obtain⟨a,e,rfl,_⟩:=r;rfl
 |scr c=>obtain⟨a,e,rfl,_⟩:=r;rfl
 |emp=>simp only[ba,Rep]at r;obtain⟨a,rfl,_⟩:=r;rfl
 |box _ _=>simp only[ba,Rep]at r;obtain⟨a,_,rfl,_⟩:=r;rfl
 |_=>simp only[ba,Rep]at r;subst r;rfl
theorem L7:cC X (V4 .Is) (uC false):=by
 intro c s a H M x y v u dx dy dz Q I hr rx ry r1 r2 e k;cases dy with
 |non =>
  cases e;refine Jy c s a H x y v u Q I rx ry ⟨Lh r2,?_⟩;rw[zB r1];exact k _ H (Ext.refl _ _) hr (by simp[Rep])
 |_=>cases e
theorem Fg:cC X (V4 .IsNot) (uC true):=by
 intro c s a H M x y v u dx dy dz Q I hr rx ry r1 r2 e k;cases dy with
 |non =>
  cases e;refine FT c s a H x y v u Q I rx ry ⟨Lh r2,?_⟩;rw[zB r1];exact k _ H (Ext.refl _ _) hr (by simp[Rep])
 |_=>cases e
theorem Av{b:Bool}{x:D}:uC b x .non=some (.bl (xor b (sH x))):=rfl
def Il(ms:List Bool)(k:Nat)(wi:TId)(g:GD)(tc:TTd)(te:TEd):TEd:=λc M Q=>wi c M λa M1=>a.length<=N7/\cY g tc te a (i4 ms k c) M1 [] λe M2=>∀p,M2 p=none->Q (.ref p) (ay M2 p (.lst e))
theorem DM{K:u8}{wi:TId}{g:GD}{tc:TTd}{te:TEd}{i:TG}{ms:List Bool}{c:Nat}(s:qV K g i):
  ∀ σ H Q,up K (Il ms c wi g tc te) σ H Q->tLc ms c (upI K wi) i (upT K tc) (up K te) σ H Q:=by
 rintro σ H Q ⟨E,M,R,h,I,q,k⟩;refine⟨E,M,_,h,I,q,λN M1 J S ⟨G,l⟩ j e w=>?_⟩;obtain⟨W,Z,n,x,B⟩:=zm s w e G ((h.ext j).comp ms c) l;refine⟨W,Z,n,x,λP u O p z f=>?_⟩;obtain⟨L,o,A,a,m,C⟩:=B _ _ _ z;exact k _ _ _ _ (C p (a.fresh f)) ((j.trans A).trans (Ext.own f)) (a.own f m) (by simp only[Rep])
variable{G:am0}{cl:List (Str×O1)}{ms:List Bool}{ar:List Str}{Y:List R6}{tg L elt:R6}
end
@[irreducible] def QEd(X:Cx)(e:R6)(t:TEd):Prop:=PEd X e t
theorem QEd.eq{X:Cx}{e:R6}{t:TEd}:QEd X e t=(PEd X e t):=by unfold QEd;rfl
@[irreducible] def QAd(X:Cx)(e:List R6)(t:TAd):Prop:=PAd X e t
theorem QAd.eq{X:Cx}{e:List R6}{t:TAd}:QAd X e t=(PAd X e t):=by unfold QAd;rfl
@[irreducible] def QTd(X:Cx)(e:R6)(t:TTd):Prop:=PTd X e t
theorem QTd.eq{X:Cx}{e:R6}{t:TTd}:QTd X e t=(PTd X e t):=by unfold QTd;rfl
@[irreducible] def QWd(X:Cx)(e:R6)(t:TTd):Prop:=PWd X e t
theorem QWd.eq{X:Cx}{e:R6}{t:TTd}:QWd X e t=(PWd X e t):=by unfold QWd;rfl
@[irreducible] def QSd(X:Cx)(e:af0)(t:TSd):Prop:=PSd X e t
theorem QSd.eq{X:Cx}{e:af0}{t:TSd}:QSd X e t=(PSd X e t):=by unfold QSd;rfl
@[irreducible] def QSs(X:Cx)(e:List af0)(t:TSd):Prop:=FI X e t
theorem QSs.eq{X:Cx}{e:List af0}{t:TSd}:QSs X e t=(FI X e t):=by unfold QSs;rfl
@[irreducible] def QId(X:Cx)(a e:R6)(t:TId):Prop:=PId X a e t
theorem QId.eq{X:Cx}{a e:R6}{t:TId}:QId X a e t=(PId X a e t):=by unfold QId;rfl
@[irreducible] def QIf(X:Cx)(e:List R6)(t:TTd):Prop:=JN X e t
theorem QIf.eq{X:Cx}{e:List R6}{t:TTd}:QIf X e t=(JN X e t):=by unfold QIf;rfl
@[irreducible] def QOd(X:Cx)(e:Option R6)(t:TOd):Prop:=POd X e t
theorem QOd.eq{X:Cx}{e:Option R6}{t:TOd}:QOd X e t=(POd X e t):=by unfold QOd;rfl
theorem aa{X:Cx}(i:Nat){x:Str}{c:Pos}(g:X.N[i]?=some x:=by rfl)(n:Vis X.env.scope x:=by first|exact R8 rfl|exact as5 (R8 rfl)|exact as5 (as5 rfl))(h:(x==("__debug__":Str))=false:=by decide)
  (a:(x==("__classdict__":Str))=false:=by decide):QEd X (.Name x c) (bN i):=by
 simp only[QEd.eq]at *
 exact(Jz g n h a).conv λp H Q ⟨o,M,R,j,m,⟨d,e,q⟩,k⟩=>let⟨v,l,f⟩:=j.2 i d e;⟨v,l,k d M v H q (Ext.refl _ _) m f⟩
theorem am{X:Cx}{i j pos}:QEd X (.Constant (.int i) j pos) (dC (.int i)):=by
 simp only[QEd.eq]at *
 exact Js.conv λf H Q a=>a.el λg M R e c q k=>k _ M _ H q (Ext.refl _ _) c (by simp[Rep])
theorem Ax{X:Cx}{i j pos}:QEd X (.Constant (.bool i) j pos) (dC (.bl i)):=by
 simp only[QEd.eq]at *
 exact JI.conv λf H Q a=>a.el λg M R e c q k=>k _ M _ H q (Ext.refl _ _) c (by simp[Rep])
theorem Gn{X:Cx}{i j pos}:QEd X (.Constant (.str i) j pos) (dC (.str i)):=by
 simp only[QEd.eq]at *
 exact Je.conv λf H Q a=>a.el λg M R e c q k=>k _ M _ H q (Ext.refl _ _) c (by simp[Rep])
theorem Ab{X:Cx}{j pos}:QEd X (.Constant .none j pos) (dC .non):=by
 simp only[QEd.eq]at *
 exact Hr.conv λf H Q a=>a.el λg M R e c q k=>k _ M _ H q (Ext.refl _ _) c (by simp[Rep])
theorem gf{X:Cx}{x:Str}{i:Int}{a:Pos}(hg:Gl X x)(c:∃g,X.mg x=some (.int i g))(e:(x==("__debug__":Str))=false:=by decide):QEd X (.Name x a) (dC (.int i)):=by
 simp only[QEd.eq]at *
 obtain⟨t,f⟩:=c;exact F8 hg f e
theorem DT{X:Cx}{x y:Str}{a:Pos}(hg:Gl X x)(c:∃g,X.mg x=some (.str y g))(e:(x==("__debug__":Str))=false:=by decide):QEd X (.Name x a) (dC (.str y)):=by
 simp only[QEd.eq]at *
 obtain⟨t,f⟩:=c;exact Ey hg f e
theorem ah{X:Cx}:QAd X [] fk:=by
 simp only[QAd.eq]at *
 exact qF.conv λf H Q a=>a.el λg M R e c q k=>k _ M _ H q (Ext.refl _ _) c aw.nil
theorem ae{X:Cx}{a:R6}{es:List R6}{j:TEd}{h:TAd}(ha:QEd X a j)(hr:QAd X es h)(hs:O5 (a::es) X.env=(false,af8 a X.env)::O5 es X.env:=by rfl):QAd X (a::es) (cE j h):=by
 simp only[QEd.eq,QAd.eq]at *
 exact(ka ha hr hs).conv λx H Q c=>c.el λm M R i hr q k=>⟨m,M,_,i,hr,q,λd M1 v A o n f p=>⟨m,M1,_,i.ext n,f,o,λw M2 z s u l g e =>
   k _ M2 _ s u (n.trans l) g (aw.cons (p.ext l) e)⟩⟩
theorem bt{X:Cx}{es:List R6}{f:Pos}{x1}{t:TAd}(h:QAd X es t):QEd X (.Tuple es x1 f) (vX t):=by
 simp only[QEd.eq,QAd.eq]at *
 exact(pM h).conv λu H Q e=>e.el λj M R l o q k=>⟨j,M,_,l,o,q,λs M1 n w ⟨z,i⟩ m a g=>⟨by rw[<-g.length];exact z,λp c=>k _ M1 _ _ i (m.trans (Ext.new a c)) (a.new c) (by
   simp only[Rep];exact⟨p,n,rfl,.inl ⟨.inl aO,a.fresh c⟩,g.ext (Ext.new a c)⟩)⟩⟩
theorem cU{X:Cx}{es:List R6}{f:Pos}{t:TAd}(h:QAd X es t):QEd X (.List es f) (BX t):=by
 simp only[QEd.eq,QAd.eq]at *
 exact(Dc h).conv λu H Q e=>e.el λj M R l o q k=>⟨j,M,_,l,o,q,λs M1 n w ⟨z,i⟩ m a g=>⟨by rw[<-g.length];exact z,λp c=>k _ M1 _ _ i (m.trans (Ext.new a c)) (a.new c) (by
   simp only[Rep];exact⟨p,n,rfl,⟨aO,a.fresh c⟩,g.ext (Ext.new a c)⟩)⟩⟩
theorem iK{X:Cx}{es:List R6}{e:Pos}{t:TAd}(h:QAd X es t):QEd X (.List es e) (Ge t):=by
 simp only[QEd.eq,QAd.eq]at *
 exact(Dc h).conv λs H Q c=>c.el λj M R l n q k=>⟨j,M,_,l,n,q,λo M1 w u ⟨z,i⟩ m a g=>⟨by rw[<-g.length];exact z,λp f=>k _ _ _ _ (i p (a.fresh f)) (m.trans (Ext.own f)) (a.own f g) (by
   simp only[Rep])⟩⟩
theorem aW{X:Cx}{a:R6}{b:R6}{f:TEd}{e:TEd}{c:Pos}{g:aA1}{r:D->D->Option D}(h:cC X (ad8 g) r)(ha:QEd X a f)(i:QEd X b e):QEd X (.BinOp a g b c) (dOp r f e):=by
 simp only[QEd.eq]at *
 exact(Li h.v ha i).conv Dq
theorem fW{X:Cx}{a:R6}{b:R6}{g:TEd}{f:TEd}{c:Pos}{e:ay2}{r:D->D->Option D}(h:cC X (V4 e) r)(ha:QEd X a g)(i:QEd X b f)(j:ae6 e b=false):QEd X (.Compare a [e] [b] c) (dOp r g f):=by
 simp only[QEd.eq]at *
 exact(Ff h.v ha i j).conv Dq
theorem aZ{X:Cx}{a:R6}{b:R6}{f:TEd}{e:TEd}{c:Pos}{r:D->D->Option D}(g:IxR X (opV X.K r))(ha:QEd X a f)(h:QEd X b e)(hs:zg b):QEd X (.Subscript a b c) (dOp r f e):=by
 simp only[QEd.eq]at *
 exact(J7 g ha h hs).conv Dq
theorem G0{X:Cx}{a:R6}{A:TEd}{p:Pos}{n:UnaryOp}{r:D->Option D}(O:KN X (unaryOp n) r)(ha:QEd X a A):QEd X (.UnaryOp n a p) (dUn r A):=by
 simp only[QEd.eq]at *
 have h:UnR X (unaryOp n) (λx H Q=>∃i g M,HR X.K M H/\ba X.K M H i x/\r i=some g/\∀w c,Ext M H M c->HR X.K M c->Rep X.K M c g w->Q w c):=λG s u H x v Q I N ⟨i,g,M,m,L,e,k⟩=>O G s u H M x v i g Q I m N L e k;exact(Kj h ha).conv λu H Q o=>o.el λE M R B m q k=>⟨E,M,_,B,m,q,λx M1 v U ⟨z,T,J⟩ S f C=>⟨_,z,M1,f,C.rd f,T,λw c P l j=>k z M1 w c J (S.trans P) l j⟩⟩
theorem bz{X:Cx}{a:R6}{b:R6}{n:TEd}{l:TEd}{i:Pos}{j:ay2}{r:D->D->Option D}(G:cC X (V4 j) r)(ha:QEd X a n)(N:QEd X b l)(A:ae6 j b=false):QTd X (.Compare a [j] [b] i) (rS (dOp r n l)):=by
 simp only[QEd.eq,QTd.eq]at *
 refine(F1 G.v ha N A).conv λT H Q h=>?_;obtain⟨p,M,R,m,J,q,k⟩:=h;exact⟨p,M,_,m,J,q,λx M1 v Y B s e L=>⟨p,M1,_,m.ext s,e,B,λy M2 u U ⟨z,S,b,O,P⟩ o c I=>⟨_,_,z,M2,c,(L.ext o).rd c,I.rd c,S,λw C E f g =>
  ⟨b,by subst O;simpa only[Rep]using g,k b M2 C P ((s.trans o).trans E) f⟩⟩⟩⟩
theorem dP{X:Cx}{a:R6}{e:TEd}(h:QEd X a e)(he:∀c,isTrue a X.env c=(do let v <-c;ay3 a.pos;at7 [v] (truthy v)):=by intro _;rfl):QTd X a (rS e):=by
 simp only[QEd.eq,QTd.eq]at *
 exact(HV h he).conv Ke
theorem qq{X:Cx}{a:R6}{f:Pos}{g:TTd}(h:QTd X a g):QTd X (.UnaryOp .Not a f) (Gm g):=by
 simp only[QTd.eq]at *
 exact(I0 h).conv λp H Q c=>c.el λj M R l o q k=>⟨j,M,_,l,o,q,λb M1 m i n e=>k _ M1 m i n e⟩
theorem vm{X:Cx}{a:R6}{c:Pos}{e:TTd}(ha:QTd X a e):QWd X (.BoolOp .And [a] c) e:=by
 simp only[QTd.eq,QWd.eq]at *
 exact EZ ha
theorem u5{X:Cx}{a:R6}{c:Pos}{e:TTd}(ha:QTd X a e):QWd X (.BoolOp .Or [a] c) e:=by
 simp only[QTd.eq,QWd.eq]at *
 exact IE ha
theorem ur{X:Cx}{a:R6}{b:R6}{h:Pos}{o:TTd}{f:TTd}{e:List R6}(ha:QTd X a o)(s:QWd X (.BoolOp .And (b::e) h) f):QWd X (.BoolOp .And (a::b::e) h) (CI o f):=by
 simp only[QTd.eq,QWd.eq]at *
 exact(Hu ha s).conv λB H Q j=>j.el λp M R n A q k=>⟨p,M,_,n,A,q,λc M1 z i l g=>by
   cases c with
   |true=>simp only[if_true]at i ⊢;exact⟨p,M1,R,n.ext l,g,i,λb M2 u x w m=>k b M2 u x (l.trans w) m⟩
   |false=>simp only[N9,if_false]at i ⊢;exact k _ M1 z i l g⟩
theorem zE{X:Cx}{a:R6}{b:R6}{h:Pos}{o:TTd}{f:TTd}{e:List R6}(ha:QTd X a o)(s:QWd X (.BoolOp .Or (b::e) h) f):QWd X (.BoolOp .Or (a::b::e) h) (Kq o f):=by
 simp only[QTd.eq,QWd.eq]at *
 exact(JP ha s).conv λB H Q j=>j.el λp M R n A q k=>⟨p,M,_,n,A,q,λc M1 z i l g=>by
   cases c with
   |false=>simp only[N9,if_false]at i ⊢;exact⟨p,M1,R,n.ext l,g,i,λb M2 u x w m=>k b M2 u x (l.trans w) m⟩
   |true=>simp only[if_true]at i ⊢;exact k _ M1 z i l g⟩
theorem eE{X:Cx}{a:R6}{e:TEd}{c:Pos}{op}(h:QEd X a e):QEd X (.BoolOp op [a] c) e:=by
 simp only[QEd.eq]at *
 exact HQ h
theorem cg{X:Cx}{a:R6}{b:R6}{p:TEd}{n:TEd}{h:Pos}{f:List R6}(ha:QEd X a p)(x:QEd X (.BoolOp .And (b::f) h) n):QEd X (.BoolOp .And (a::b::f) h) (KU p n):=by
 simp only[QEd.eq]at *
 exact(Ii ha x).conv λI H Q j=>j.el λs M R o G q k=>⟨s,M,_,o,G,q,λd M1 v E ⟨c,e,i⟩ l g w=>⟨c,by subst e;simpa only[Rep]using w,by
   cases c with
   |true=>simp only[if_true]at i ⊢;exact⟨s,M1,R,o.ext l,g,i,λb M2 u z B A m C=>k b M2 u z B (l.trans A) m C⟩
   |false=>simp only[N9,if_false]at i ⊢;exact k _ M1 _ E i l g (by simp[Rep])⟩⟩
theorem J3{X:Cx}{a:R6}{i:TEd}{h:Pos}(ha:QEd X a i):QEd X (.UnaryOp .Not a h) (KM i):=by
 simp only[QEd.eq]at *
 exact(HN ha).conv λu H Q f=>f.el λm M R n s q k=>⟨m,M,_,n,s,q,λd M1 v o ⟨c,e,l⟩ p g j =>
  ⟨c,by subst e;simpa only[Rep]using j,k _ M1 _ o l p g (by simp[Rep])⟩⟩
theorem Kw{X:Cx}{a:R6}{b:R6}{c:R6}{x:TEd}{w:TEd}{u:Pos}{z:TTd}(A:QTd X c z)(ha:QEd X a x)(B:QEd X b w):QEd X (.IfExp c a b u) (dIf z x w):=by
 simp only[QEd.eq,QTd.eq]at *
 exact(BI A ha B).conv λE H Q i=>i.el λo M R j C q k=>⟨o,M,_,j,C,q,λc M1 G g h f=>by
   cases c with
   |true=>simp only[if_true]at g ⊢;exact⟨o,M1,R,j.ext h,f,g,λb M2 l m p n e s=>k b M2 l m p (h.trans n) e s⟩
   |false=>simp only[N9,if_false]at g ⊢;exact⟨o,M1,R,j.ext h,f,g,λb M2 l m p n e s=>k b M2 l m p (h.trans n) e s⟩⟩
theorem oY{X:Cx}{a:R6}{b:R6}{c:R6}{J:TEd}{I:TEd}{E:Pos}{tc:TEd}{G e:ay2}{r N:D->D->Option D}(Y:cC X (V4 G) r)(s:cC X (V4 e) N)(ha:QEd X a J)(hb:QEd X b I)(hc:QEd X c tc)
  (T:lastMarks [G,e] [b,c]=false:=by with_unfolding_all rfl):QEd X (.Compare a [G,e] [b,c] E) (Cj r N J I tc):=by
 simp only[QEd.eq]at *
 refine(CQ Y.v s.v ha hb hc T).conv λσ H Q h=>?_;obtain⟨A,M,R,o,hr,q,k⟩:=h;refine⟨A,M,_,o,hr,q,λx M1 v H1 U n p rv=>⟨A,M1,_,o.ext n,p,U,λy M2 u H2 ⟨b,eb,m⟩ l g L=>⟨_,_,.bl b,M2,g,(rv.ext l).rd g,L.rd g,eb,λw S j i B =>
  ⟨b,by simpa only[Rep]using B,?_⟩⟩⟩⟩
 cases b with
 |true =>
  simp only[if_true]at m ⊢;exact⟨A,M2,_,(o.ext (n.trans l)).ext j,i,m,λz P w4 H4 ⟨d,ed,Z⟩ O f r4=>⟨_,_,d,P,f,((L.ext j).ext O).rd f,r4.rd f,ed,λw5 H5 e5 C r5=>k d P w5 H5 Z ((((n.trans l).trans j).trans O).trans e5) C r5⟩⟩
 |false =>
  simp only[N9,if_false]at m ⊢;exact k _ M2 _ S m ((n.trans l).trans j) i (by simp[Rep])
theorem aU{X:Cx}{a:Pos}{x:Str}{p:Pos}{e:R6}{es:List R6}{t:TAd}{id:String}{r:List D->Option D}(f:bX X (.builtin id) r)(hg:Gl X x)(c:X.mg x=none)(g:ag4 x=some (.builtin id))(ha:QAd X (e::es) t)(hn:x≠"__name__":=by decide)(hdb:(x==("__debug__":Str))=false:=by decide)
  (he:O5 (e::es) X.env=(false,af8 e X.env)::O5 es X.env:=by rfl) (hpl:(ad7 a (O5 es X.env)).any (·.1)=false:=by rfl):QEd X (.Call (.Name x p) (e::es) [] a) (dCB r t):=by
 simp only[QEd.eq,QAd.eq]at *
 exact(vQ f.v hg c g ha hn hdb he hpl).conv Gk
theorem cB{X:Cx}{a:Pos}{x:Str}{p:Pos}{e:R6}{es:List R6}{t:TAd}{id:String}{r:List D->Option D}(f:bX X (.type id) r)(hg:Gl X x)(c:X.mg x=none)(g:ag4 x=some (.type id))(ha:QAd X (e::es) t)(hn:x≠"__name__":=by decide)(hdb:(x==("__debug__":Str))=false:=by decide)
  (he:O5 (e::es) X.env=(false,af8 e X.env)::O5 es X.env:=by rfl) (hpl:(ad7 a (O5 es X.env)).any (·.1)=false:=by rfl):QEd X (.Call (.Name x p) (e::es) [] a) (dCB r t):=by
 simp only[QEd.eq,QAd.eq]at *
 exact(Aq f.v hg c g ha hn hdb he hpl).conv Gk
theorem bW{X:Cx}:QSs X [] Da:=by
 simp only[QSs.eq]at *
 exact EV.conv λD e H a=>a.el λf M E c g q u=>u.nx f M e H q (Ext.refl _ _) g c
theorem ak{X:Cx}{st:af0}{a:List af0}{t:TSd}{u:TSd}(i:QSd X st t)(j:QSs X a u):QSs X (st::a) (vh t u):=by
 simp only[QSd.eq,QSs.eq]at *
 exact(BC i j).conv λD x H e=>e.el λl M E m p q k=>⟨l,M,{ E with nx:=u E },m,p,q,⟨λf h n w s o g c=>⟨f,h,E,c,g,s,k.ext o⟩,k.bk,k.ct,k.rt⟩⟩
theorem ao{X:Cx}{st:af0}{t:TSd}(a:QSd X st t):QSs X [st] t:=by
 simp only[QSd.eq,QSs.eq]at *
 exact Ep a
theorem aN{X:Cx}{e:R6}{te:TEd}{c:Pos}(he:QEd X e te):QSd X (.Return (some e) c) (FO te):=by
 simp only[QEd.eq,QSd.eq]at *
 exact(yR he).conv λD i H a=>a.el λf M E g h q k=>⟨f,M,_,g,h,q,k.rt⟩
theorem gb{X:Cx}{e:R6}{te:TEd}{a:Pos}(he:QEd X e te)(hs:ai1 e none a.line X.env=al5 false:=by rfl):QSd X (.Expr e a) (vW te):=by
 simp only[QEd.eq,QSd.eq]at *
 exact(Er he hs).conv λD l H c=>c.el λg M E h n q k=>⟨g,M,_,h,n,q,λd M1 v m j i f _=>k.nx g M1 l m j i f (h.ext i)⟩
theorem cV{X:Cx}{c:R6}{j:Pos}{t:TSd}{u:TSd}{l m:List af0}{tc:TTd}(n:QTd X c tc)(ha:QSs X l t)(p:QSs X m u):QSd X (.If c l m j) (Fl tc t u):=by
 simp only[QTd.eq,QSd.eq,QSs.eq]at *
 exact(Lw n ha p).conv λD s H g=>g.el λi M E h o q k=>⟨i,M,_,h,o,q,λb M1 w e f a=>by
   cases b with
   |true=>simp only[if_true]at e ⊢;exact⟨i,M1,E,h.ext f,a,e,k.ext f⟩
   |false=>simp only[N9,if_false]at e ⊢;exact⟨i,M1,E,h.ext f,a,e,k.ext f⟩⟩
theorem aK{X:Cx}{e:R6}{te:TEd}{c:Pos}{i:Nat}{x:Str}{a:Pos}(n:X.N.Nodup)(p:X.N[i]?=some x)(w:Loc X.env.scope x)(he:QEd X e te)(hs:ai1 e (some (.Name x a)) c.line X.env=al5 false:=by rfl)(m:X.fn x=true∨X.env.scope.names.lookup x=some .local:=by first|exact .inl rfl|exact .inr rfl|assumption):
  QSd X (.Assign [.Name x a] e c) (mR i te):=by
 simp only[QEd.eq,QSd.eq]at *
 exact(JB n p w he hs m).conv λD A H f=>f.el λs M E h z q k=>⟨s,M,_,h,z,q,λd M1 v u l j g o=>k.nx _ M1 _ u l j g ((h.ext j).set i o)⟩
theorem JX{X:Cx}{e:R6}{te:TEd}{l:Pos}{i:Nat}{x:Str}{n:aA1}{r:D->D->Option D}{c:Pos}(G:X.N.Nodup)(S:X.N[i]?=some x)(hx:Loc X.env.scope x)(he:QEd X e te)(J:cC X (aA4 n) r)(B:X.fn x=true∨X.env.scope.names.lookup x=some .local:=by first|exact .inl rfl|exact .inr rfl|assumption):
  QSd X (.AugAssign (.Name x c) n e l) (K5 i te r):=by
 simp only[QEd.eq,QSd.eq]at *
 have h:PIp X n (opV X.K r):=λaf s o H x y v u Q I C N q=>J.v af s o H x y v u Q I C N q;refine(Hf G S hx he h B).conv λD o H Y=>?_;obtain⟨U,M,E,f,O,⟨d,T,q⟩,k⟩:=Y;obtain⟨v,L,P⟩:=f.2 i d T;refine⟨v,L,U,M,_,f,O,q,λy M1 w H1 ⟨z,ez,A⟩ j a g=>⟨_,_,z,M1,a,(P.ext j).rd a,g.rd a,ez,λw2 R p m Z=>k.nx _ M1 _ R A (j.trans p) m (((f.ext j).ext p).set i Z)⟩⟩
theorem zr{X:Cx}{e:R6}{te:TEd}{h:Pos}{a:R6}{g:GD}(he:QEd X e te)(hg:PGd X a g)(hs:swapsWithSole [a] e h.line X.env=al5 false:=by rfl)(x:swappedStores [a] e X.env=al5 none:=by rfl)
  (w:(ae3 [a] X.env).map (·.2)=[au8 a X.env]:=by rfl):QSd X (.Assign [a] e h) (Lp te g):=by
 simp only[QEd.eq,QSd.eq]at *
 obtain⟨I,B,z⟩:=hg;exact(Df he B hs x w).conv λD A H j=>j.el λn M E m G q k=>⟨n,M,_,m,G,q,λd M1 v o ⟨f,u,s⟩ p c C=>z d v A n f M1 o _ (m.ext p) c C u λl i=>k.nx f M1 l o s p c i⟩
theorem b7{X:Cx}{a:R6}{g:Pos}{A:R6}{i:TAd}{p:Pos}(hg:Gl X "range")(l:X.mg "range"=none)(ha:QAd X [a] i)(hs:O5 [a] X.env=[(false,af8 a X.env)]:=by rfl):QId X A (.Call (.Name "range" p) [a] [] g) (yS i):=by
 simp only[QAd.eq,QId.eq]at *
 exact(Ba hg l ha hs).conv λI H R c=>c.el λz M J o E q k=>⟨z,M,_,o,E,q,λG M1 L B ⟨j,w,n,x,m⟩ C e u=>by
   subst w;obtain⟨v,s,h⟩:=u.one;have f:v=.int j:=by simpa only[Rep]using h
   subst f;subst s;exact⟨j,rfl,n,x,k _ M1 _ B m C e EU⟩⟩
theorem bH{X:Cx}{T:Pos}{S:R6}{iter:R6}{p:List af0}{wi:TId}{g:GD}{P:TSd}(hp:U5 (R4 X.prog X.w) X.A X.env X.xe)(hc:X.calm=true)(hi:QId X S iter wi)(hg:PGd X S g)(hb:QSs X p P)
  (hs:∀x,T0 iter X.env x=al5 x:=by intro _;rfl):QSd X (.For S iter p [] T) (yk wi g P):=by
 simp only[QSd.eq,QSs.eq,QId.eq]at *
 obtain⟨gv,pg,kg⟩:=hg;refine(Ir hp hc hi pg hb hs).conv λD σ H hh=>?_;obtain⟨Δ,M,E,Z,hr,q,k⟩:=hh;refine⟨Δ,M,_,Z,hr,q,λl M1 J H1 q1 Q R it=>?_⟩;refine⟨λi m e h=>∃ a c,m=l.length-i/\i<=l.length/\Ext M1 H1 c h/\HR X.K c h/\SR X.K c h e a/\cy g P E (l.drop i) a c,⟨l.length,Δ,M1,by simp,O3 _,Ext.refl _ _,R,Z.ext Q,q1⟩,?_⟩;rintro i m N H2 ⟨C,M2,rfl,a1,w,O,A,I⟩;obtain⟨go,stop⟩:=it M2 H2 w O i
 by_cases o:i<l.length
 ·have hd:l[i]?=some l[i]:=by simp[o]
  obtain⟨g1,y1⟩:=go _ hd;rw[T5 o]at I;simp only[cy]at I;obtain⟨L,eg,f3⟩:=I;refine .inr ⟨g1,λe h=>∃m',m'<l.length-i/\∃ a c,m'=l.length-(i+1)/\i+1<=l.length/\Ext M1 H1 c h/\HR X.K c h/\SR X.K c h e a/\cy g P E (l.drop (i+1)) a c,λe h z=>z,λx h hy=>?_⟩;obtain⟨B,G,rx⟩:=y1 x h hy;refine kg _ x N C L M2 h _ (A.ext B) G rx eg λa0 U=>?_;refine⟨L,M2,_,U,G,f3,⟨λa c e n u s f j=>?_,λa c e n u s f j=>?_,λa c e n u s f j=>?_,λd c v n u s f Y=>?_⟩⟩
  ·exact⟨_,by lia,a,c,rfl,o,(w.trans B).trans s,f,j,u⟩
  ·exact k.nx a c e n u (((Q.trans w).trans B).trans s) f j
  ·exact⟨_,by lia,a,c,rfl,o,(w.trans B).trans s,f,j,u⟩
  ·exact k.rt d c v n u (((Q.trans w).trans B).trans s) f Y
 ·rw[Z8 (by lia)]at I;exact .inl ⟨stop (by lia),k.nx C M2 N H2 I (Q.trans w) O A⟩
theorem FY{X:Cx}{c:R6}{N:Pos}{n:List af0}{tc:TTd}{O:TSd}(hp:U5 (R4 X.prog X.w) X.A X.env X.xe)(S:QTd X c tc)(U:QSs X n O):QSd X (.While c n [] N) (DC tc O):=by
 simp only[QTd.eq,QSd.eq,QSs.eq]at *
 refine(BF hp S U).conv λD σ H hh=>?_;obtain⟨Z,M,E,Q,hr,⟨W,⟨T,P⟩,u⟩,k⟩:=hh;refine⟨λm f l=>∃ a e,Ext M H e l/\HR X.K e l/\SR X.K e l f a/\W m a e,⟨T,Z,M,Ext.refl _ _,hr,Q,P⟩,?_⟩;rintro m C H1 ⟨j,M1,w,J,o,R⟩;refine⟨j,M1,_,o,J,u m j M1 R,λb M2 Y A q x=>?_⟩;cases b with
 |true =>
  simp only[if_true]at A ⊢;refine⟨λf l=>∃s,s<m/\∃ a e,Ext M H e l/\HR X.K e l/\SR X.K e l f a/\W s a e,λf l z=>z,j,M2,_,o.ext q,x,A,⟨λa e f i ⟨s,B,I⟩ p g h=>?_,λa e f i L p g h=>?_,λa e f i ⟨s,B,I⟩ p g h=>?_,λd e v i L p g G=>?_⟩⟩
  ·exact⟨s,B,a,e,(w.trans q).trans p,g,h,I⟩
  ·exact k.nx a e f i L ((w.trans q).trans p) g h
  ·exact⟨s,B,a,e,(w.trans q).trans p,g,h,I⟩
  ·exact k.rt d e v i L ((w.trans q).trans p) g G
 |false =>
  simp only[N9,if_false]at A ⊢;exact k.nx j M2 C Y A (w.trans q) x (o.ext q)
theorem bh{X:Cx}:QIf X [] yz:=by
 simp only[QIf.eq]at *
 exact λc s a H Q I ⟨g,M,R,f,e,q,k⟩=>Em c s a H Q I (k true M H q (Ext.refl _ _) e)
theorem jN{X:Cx}{c:R6}{tc:TTd}(h:QTd X c tc):QIf X [c] tc:=by
 simp only[QTd.eq,QIf.eq]at *
 exact FF h
theorem eR{X:Cx}{l:Pos}{i:R6}{iter:R6}{e:R6}{a:am0}{f:List (Str×O1)}{ms:List Bool}{ar:List Str}{c:List R6}{wi:TId}{g:GD}{tc:TTd}{te:TEd}(S:eP X a f ms ar)(p:X.calm=true)(m:QId X i iter wi)(hg:PGa X a f ar i g)
  (h:∀C s H j,QIf (aL X a f (X.N++ar) C s H j) c tc) (he:∀C s H j,QEd (aL X a f (X.N++ar) C s H j) e te)
  (hs:∀x,T0 iter X.env x=al5 x:=by intro _;rfl):QEd X (.ListComp e [⟨i,iter,c,0⟩] a l) (dLc ms ar.length wi g tc te):=by
 simp only[QEd.eq,QId.eq,QIf.eq]at *
 obtain⟨q,o,n⟩:=hg;exact(DN (tc:=upT X.K tc) S p m o h (yp (te:=up X.K te) he) hs).conv (zM n)
theorem FR{X:Cx}{j:Pos}{l:R6}{iter:R6}{h:R6}{a:am0}{m:List (Str×O1)}{ms:List Bool}{ar:List Str}{f:List R6}{i:Nat}{x:Str}{c e:Pos}{wi:TId}{g:GD}{tc:TTd}{te:TEd}(Q:X.N.Nodup)(p:X.N[i]?=some x)(J:X.env.scope.names.lookup x=some .local)
  (w:ai1 (.ListComp h [⟨l,iter,f,0⟩] a j) (some (.Name x e)) c.line X.env=al5 true) (S:eP X a m ms ar) (L:X.calm=true) (Y:QId X l iter wi) (hg:PGa X a m ar l g)
  (n:∀C s H u,QIf (aL X a m (X.N++ar) C s H u) f tc) (he:∀C s H u,QEd (aL X a m (X.N++ar) C s H u) h te)
  (hs:∀x,T0 iter X.env x=al5 x:=by intro _;rfl):QSd X (.Assign [.Name x e] (.ListComp h [⟨l,iter,f,0⟩] a j) c) (mR i (dLc ms ar.length wi g tc te)):=by
 simp only[QEd.eq,QSd.eq,QId.eq,QIf.eq]at *
 obtain⟨Z,U,R⟩:=hg;refine(kh (tc:=upT X.K tc) Q p J w S L Y U n (yp (te:=up X.K te) he) hs).conv λD T H P=>?_;obtain⟨G,M,E,z,N,q,k⟩:=P;exact zM R T H _ ⟨G,M,_,z,N,q,λd M1 v I O A o B=>k.nx _ M1 _ I O A o ((z.ext A).set i B)⟩
theorem z8{X:Cx}{e:R6}{te:TEd}{g:Pos}{o i:R6}{B I:TEd}{p:Pos}(Y:QEd X o B)(hi:QEd X i I)(he:QEd X e te)
  (ha:∀ v,au8 (.Subscript o i p) X.env v = (do
   let f <-at7 [v] (af8 o X.env)
   let s <-at7 [v,f] (af8 i X.env)
   ay3 p
   at7 [v,f,s] (setItem f s v)
   release [v,f,s] []):=by intro _;rfl) (hs:swapsWithSole [.Subscript o i p] e g.line X.env=al5 false:=by rfl) (U:swappedStores [.Subscript o i p] e X.env=al5 none:=by rfl)
  (L:(ae3 [.Subscript o i p] X.env).map (·.2)=[au8 (.Subscript o i p) X.env]:=by rfl):QSd X (.Assign [.Subscript o i p] e g) (Lu B I te):=by
 simp only[QEd.eq,QSd.eq]at *
 exact(Df he (G8 Y hi CC ha) hs U L).conv λD σ H A=>A.el λm M E h T q k=>⟨m,M,_,h,T,q,λd M1 v H1 S u w Q=>⟨m,M1,_,h.ext u,w,S,λo M2 f H2 R n x C=>⟨m,M2,_,(h.ext u).ext n,x,R,λi M3 s H3 ⟨a,ds,Z,j,P,ei,l,O,N⟩ z c J=>by
   subst P;subst ei;simp only[Rep]at C J;subst C;subst J;obtain⟨vs,hv,G⟩:=c a _ l;refine⟨a,vs,Z,j,rfl,rfl,hv,by rw[<-G.length];exact O,?_⟩;exact k.nx m _ σ _ N (((u.trans n).trans z).trans (Ext.write l)) (c.write l (G.set j ((Q.ext n).ext z))) ((((h.ext u).ext n).ext z).ext (Ext.write l))⟩⟩⟩
theorem og{X:Cx}{e:R6}{te:TEd}{o:R6}{n:TEd}{s j:Pos}(I:QEd X o n)(he:QEd X e te)(P:ac0 o "append" X.env (af8 o X.env)=af8 o X.env:=by rfl)
  (g:O5 [e] X.env=(false,af8 e X.env)::O5 [] X.env:=by rfl)
  (C:((ad7 j (O5 [e] X.env)).all (λx => !x.1) && (az2 j (at9 [] X.env)).all (λx => x.1.isSome)
  &&decide ([e].length+([]:List au0).length+(if([]:List au0).isEmpty then 0 else 1)<30))=true:=by rfl)
  (O:(s.endLine==j.line)=true:=by rfl) (E:(ad7 j (O5 [] X.env)).any (·.1)=false:=by rfl):QEd X (.Call (.Attribute o "append" s) [e] [] j) (Du n te):=by
 simp only[QEd.eq]at *
 exact(Ds PySem.F.plainAttrs_list PySem.F.slot_list_append PySem.F.type_list_append (show MtR X "list.append" Am from Az) I (ka he qF g) P C O g E).conv λσ H Q m=>m.el λu M R p hr q k=>⟨u,M,_,p,hr,q,λo M1 ov H1 ⟨a,l,J,L,B⟩ z f w=>by
   subst J;simp only[Rep]at w;subst w;obtain⟨N,S,rl⟩:=f a _ L;refine⟨.inl ⟨rfl,N,SqL.of S⟩,u,M1,_,p.ext z,f,B,λd M2 v H2 ⟨ds,c,Z,Y⟩ U i T=>?_⟩;obtain⟨A,G,h⟩:=i a _ c;refine⟨a,A,v,rfl,rfl,G,by rw[<-h.length];exact Z,k _ _ _ _ Y ((z.trans U).trans (Ext.write c)) (i.write c (h.append (aw.cons T aw.nil))) (by simp[Rep])⟩⟩
theorem iu{X:Cx}{a:R6}{x:TEd}{f:Pos}{T:Str}{Tn:String}{p c:Pos}(U:okT Tn=true)(hg:Gl X "isinstance")(O:X.mg "isinstance"=none)(j:Gl X T)(u:X.mg T=none)(g:ag4 T=some (.type Tn))(ha:QEd X a x)(n:T≠"__name__":=by decide)(l:(T==("__debug__":Str))=false:=by decide)
  (hs:O5 [a,.Name T c] X.env=(false,af8 a X.env)::O5 [.Name T c] X.env:=by rfl) (m:O5 [.Name T c] X.env=(false,af8 (.Name T c) X.env)::O5 [] X.env:=by rfl) (hpl:(ad7 f (O5 [.Name T c] X.env)).any (·.1)=false:=by rfl) :
  QEd X (.Call (.Name "isinstance" p) [a,.Name T c] [] f) (Ka Tn x):=by
 simp only[QEd.eq]at *
 have A:dN X (.builtin "isinstance") (λw H Q=>∃v d k M,w=[v,.ty Tn]/\ba X.K M H d v/\ES Tn d=some k/\Q (.bl k) H):=by
  intro Z s S H w us Q I i h;obtain⟨v,d,k,M,rfl,rd,o,q⟩:=h;obtain⟨u1,u2,rfl,G,C⟩:=aH.two i;cases C;exact AY U I G rd o q
 refine(vQ A hg O (by kernel_rfl) (ka ha (ka (Ef (v:=.ty Tn) j u g rfl n l) qF m) hs) (by decide) (by decide) hs hpl).conv λS H Q N=>?_;obtain⟨B,M,R,z,J,q,k⟩:=N;exact⟨B,M,_,z,J,q,λd M1 v E ⟨P,o,L⟩ Y e i=>⟨v,_,P,M1,rfl,i.rd e,o,k _ M1 _ E L Y e (by simp[Rep])⟩⟩
theorem iH{X:Cx}:QOd X none uM:=by
 simp only[QEd.eq,QAd.eq,QTd.eq,QWd.eq,QSd.eq,QSs.eq,QId.eq,QIf.eq,QOd.eq]at *
 exact E5 
theorem fm{X:Cx}{e:R6}{te:TEd}(h:QEd X e te):QOd X (some e) (C5 te):=by
 simp only[QEd.eq,QAd.eq,QTd.eq,QWd.eq,QSd.eq,QSs.eq,QId.eq,QIf.eq,QOd.eq]at *
 exact Ej (h:=h)
theorem G5{X:Cx}{e:R6}{te:TEd}{o:R6}{E:TEd}{J p:Pos}(ho:QEd X o E)(he:QEd X e te)(gm:ac0 o "join" X.env (af8 o X.env)=af8 o X.env:=by rfl)
  (l:O5 [e] X.env=(false,af8 e X.env)::O5 [] X.env:=by rfl)
  (Y:((ad7 p (O5 [e] X.env)).all (λx => !x.1) && (az2 p (at9 [] X.env)).all (λx => x.1.isSome)
  &&decide ([e].length+([]:List au0).length+(if([]:List au0).isEmpty then 0 else 1)<30))=true:=by rfl)
  (fK:(J.endLine==p.line)=true:=by rfl) (Z:(ad7 p (O5 [] X.env)).any (·.1)=false:=by rfl):QEd X (.Call (.Attribute o "join" J) [e] [] p) (Gc E te):=by
 simp only[QEd.eq]at *
 have T:MtR X "str.join" (λx S H Q=>∃c a j i g M,x=.str c/\S=[.ref a]/\H a=some (.lst j)/\aw X.K M H i j/\iC i=some g/\(g.map (·.length)).sum+g.length*c.length<=16777216/\Q (.str (Txt.join c g)) H):=by
  intro af s σ H x S v us Q I rx C h;obtain⟨c,a,j,i,g,M,rfl,rfl,hH,w,es,m,q⟩:=h;obtain⟨t,rfl⟩:=rx;obtain⟨u,rfl,ru⟩:=aH.one C;cases ru;obtain⟨a0,r,pl,_⟩:=I.list (SqL.of hH);exact join_list pl.isList (by simpa using qJ w r es) m λt' k=>⟨.str _,H,I.tok _,⟨t',rfl⟩,q⟩
 refine(Ds PySem.F.plainAttrs_str PySem.F.slot_str_join PySem.F.type_str_join T ho (ka he qF l) gm Y fK l Z).conv λσ H Q hh=>?_;obtain⟨N,M,R,G,hr,q,k⟩:=hh;refine⟨N,M,_,G,hr,q,λo M1 ov H1 ⟨c,eo,U⟩ P A O=>?_⟩;subst eo;simp only[Rep]at O;subst O;refine⟨rfl,N,M1,_,G.ext P,A,U,λd M2 v H2 ⟨z,f,q2⟩ e2 n C=>?_⟩;have L:=C.rd n;generalize rdM M2 d=d' at L f;cases d' with
 |lst i =>
  obtain⟨a,j,rfl,sq,w⟩:=L;simp only[Aj]at f;cases B:iC i with
  |none=>rw[B]at f;cases f
  |some g =>
   rw[B]at f;dsimp only at f
   by_cases m:(g.map (·.length)).sum+g.length*c.length<=16777216
   ·rw[if_pos m]at f;cases f;exact⟨c,a,j,i,g,M2,rfl,rfl,sq,w,B,m,k _ M2 _ H2 q2 (P.trans e2) n (by simp[Rep])⟩
   ·rw[if_neg m]at f;cases f
 |_=>cases f
theorem qc{X:Cx}{e:R6}{es:List R6}{t:TAd}{a:Pos}{p:Pos}{x:Str}{k:Nat}{n:Nat}{S:SpD}(F:FnD X.prog X.w X.K X.mg X.base x k n S)(hr:cQ k X.A)(hg:Gl X x)(ha:QAd X (e::es) t)(hdb:(x==("__debug__":Str))=false:=by decide)(he:O5 (e::es) X.env=(false,af8 e X.env)::O5 es X.env:=by rfl)(hpl:(ad7 a (O5 es X.env)).any (·.1)=false:=by rfl):
  QEd X (.Call (.Name x p) (e::es) [] a) (jg n S t):=by
 simp only[QEd.eq,QAd.eq,QTd.eq,QWd.eq,QSd.eq,QSs.eq,QId.eq,QIf.eq,QOd.eq]at *
 exact dc (F:=F) (hr:=hr) (hg:=hg) (ha:=ha) (hdb:=hdb) (he:=he) (hpl:=hpl)
theorem qcL{X:Cx}{e:R6}{es:List R6}{t:TAd}{a:Pos}{p:Pos}{x:Str}{k:Nat}{n:Nat}{S:SpD}(F:FnD X.prog X.w X.K X.mg X.base x k n S)(hr:cQ k X.A)(hg:Gl X x)(ha:QAd X (e::es) t)(hdb:(x==("__debug__":Str))=false:=by decide)(he:O5 (e::es) X.env=(false,af8 e X.env)::O5 es X.env:=by rfl)(hpl:(ad7 a (O5 es X.env)).any (·.1)=false:=by rfl):
  QEd X (.Call (.Name x p) (e::es) [] a) (u4 n S t):=by
 simp only[QEd.eq,QAd.eq,QTd.eq,QWd.eq,QSd.eq,QSs.eq,QId.eq,QIf.eq,QOd.eq]at *
 exact dcL (F:=F) (hr:=hr) (hg:=hg) (ha:=ha) (hdb:=hdb) (he:=he) (hpl:=hpl)
theorem yD{X:Cx}{e:R6}{te:TEd}{g:Pos}(he:QEd X e te):QSd X (.Return (some e) g) (GL te):=by
 simp only[QEd.eq,QSd.eq]at *
 exact(yR he).conv λD w H f=>f.el λl M E m s q k=>⟨l,M,_,m,s,q,λd M1 v n ⟨a,u,j,o,i⟩ p c h=>by
  subst j;simp only[Rep]at h;subst h;exact k.rt _ _ _ n i (p.trans (Ext.le LeM.del)) (c.le LeM.del) (Rep.froze c LeM.del o fC)⟩
theorem aM{X:Cx}{te:TEd}{tg:R6}{iter:R6}(h:QEd X iter te):QId X tg iter (gK te):=by
 simp only[QEd.eq,QId.eq]at *
 intro af s σ H R I hh;obtain⟨Δ,M,R',sr,hr,q,k⟩:=hh;refine thn (h af s σ H (λv j=>∃d O M1,lu d=some O/\(O.length<=N7->R' O M1)/\Ext M H M1 j/\HR X.K M1 j/\Rep X.K M1 j d v) I ⟨Δ,M,_,sr,hr,q,λd M1 v j ⟨O,n,N⟩ P g m=>⟨d,O,M1,n,N,P,g,m⟩⟩) λu B ⟨v,j,l,Z,d,O,M1,n,N,P,g,m⟩=>?_;have lo:=ba.len (K:=X.K) l m;cases d with
 |tup es =>
  cases n;simp only[Rep]at m;obtain⟨a,z,rfl,c,C⟩:=m;cases Z;obtain⟨J,Y,p,L⟩:=l.tuple c.sq;refine aq1 (show B.heap.IsTuple a J.toArray from p) ?_;refine⟨B.heap.objs.size,[B.heap.objs.size],_,_,j,rfl,l.kept (t':=B.toks) λb o e=>M7 _ e,yN a _,⟨_,N6 _ rfl,rfl,rfl⟩,uB (o:=ac4) l,?_⟩;refine k _ M1 _ j (N lo) P g λM2 H2 f w i=>⟨λd S=>?_,λT=>⟨z,(c.ext f).sq,by rw[<-C.length];exact T⟩⟩;obtain⟨v,G,r⟩:=C.get S;refine⟨⟨z,v,(c.ext f).sq,G⟩,λx H' ⟨U,y⟩=>?_⟩;subst U;have:=y z (c.ext f).sq;rw[G]at this;cases this;exact⟨Ext.refl _ _,w,r.ext f⟩
 |lst es =>
  cases n;simp only[Rep]at m;obtain⟨a,z,rfl,c,C⟩:=m;cases Z;obtain⟨J,Y,p,L⟩:=l.list (SqL.of c.1);refine an6 p.isList ?_;refine⟨B.heap.objs.size,[B.heap.objs.size],_,_,j,rfl,l.kept (t':=B.toks) λb o e=>M7 _ e,sF a _,⟨_,N6 _ rfl,rfl,rfl⟩,uB (o:=ac4) l,?_⟩;refine k _ M1 _ j (N lo) P g λM2 H2 f w i=>⟨λd S=>?_,λT=>⟨z,SqL.of (c.ext f).1,by rw[<-C.length];exact T⟩⟩;obtain⟨v,G,r⟩:=C.get S;refine⟨⟨z,v,SqL.of (c.ext f).1,G⟩,λx H' ⟨U,y⟩=>?_⟩;subst U;have:=y z (SqL.of (c.ext f).1);rw[G]at this;cases this;exact⟨Ext.refl _ _,w,r.ext f⟩
 |scr es =>
  cases n;simp only[Rep]at m;obtain⟨a,z,rfl,c,C⟩:=m;cases Z;obtain⟨J,Y,p,L⟩:=l.list c.sq;refine an6 p.isList ?_;refine⟨B.heap.objs.size,[B.heap.objs.size],_,_,j,rfl,l.kept (t':=B.toks) λb o e=>M7 _ e,sF a _,⟨_,N6 _ rfl,rfl,rfl⟩,uB (o:=ac4) l,?_⟩;refine k _ M1 _ j (N lo) P g λM2 H2 f w i=>⟨λd S=>?_,λT=>⟨z,(c.ext f).sq,by rw[<-C.length];exact T⟩⟩;obtain⟨v,G,r⟩:=C.get S;refine⟨⟨z,v,(c.ext f).sq,G⟩,λx H' ⟨U,y⟩=>?_⟩;subst U;have:=y z (c.ext f).sq;rw[G]at this;cases this;exact⟨Ext.refl _ _,w,r.ext f⟩
 |str x =>
  simp only[lu]at n
  by_cases L:x.length<=N7
  ·rw[if_pos L]at n;cases n;simp only[Rep]at m;subst m;obtain⟨t,rfl⟩:=Z;have hq:=k _ M1 _ j (N (by have a0:x.cps.size<=N7:=L;simpa[bB]using a0)) P g H0;cases ha:x.cps.all (·<128)
   ·exact wpAny_pyIter_wide ha (zR l "str_iterator" (by decide) (λA hA=>az4.strWide hA _ x t) (λA i s' Q E st q=>wpAny_pyIter_striter_wide st q) hq)
   ·exact wpAny_pyIter_ascii ha (zR l "str_ascii_iterator" (by decide) (λA hA=>az4.strAscii hA _ x t) (λA i s' Q E st q=>wpAny_pyIter_striter_ascii st q) hq)
  ·rw[if_neg L]at n;cases n
 |_=>cases n
theorem iQ{X:Cx}{e:R6}{te:TEd}{g:Pos}(he:QEd X e te):QSd X (.Return (some e) g) (Gr te):=by
 simp only[QEd.eq,QSd.eq]at *
 exact(yR he).conv λD p H c=>c.el λj M E l o q k=>⟨j,M,_,l,o,q,λd M1 v m ⟨M2,a,i⟩ n f h =>
  k.rt _ _ _ m i (n.trans (Ext.le a)) (f.le a) (h.ext (Ext.le a))⟩
theorem eI{X:Cx}{e:R6}{te:TEd}{P:Pos}{lo U:Option R6}{Y Z:TOd}{p2:Pos}(he:QEd X e te)(hl:QOd X lo Y)(hu:QOd X U Z):QEd X (.Subscript e (.Slice lo U none p2) P) (J1 te Y Z):=by
 simp only[QEd.eq,QOd.eq]at *
 refine(DO (SlR.or Ei (SlR.or HJ (SlR.or Ji Dg))) he hl hu).conv λσ H Q hh=>?_;obtain⟨J,M,R,E,hr,q,k⟩:=hh;refine⟨J,M,_,E,hr,q,λx M1 v H1 q1 O G rv=>⟨J,M1,_,E.ext O,G,q1,λl M2 H2 q2 I S=>⟨J,M2,_,(E.ext O).ext I,S,q2,λu h B ⟨z,g,q3⟩ T c=>?_⟩⟩⟩;have n:=((rv.ext I).ext T).rd c;have ee:=(O.trans I).trans T;have o:∀w j,Ext h B h j->HR X.K h j->Rep X.K h j z w->Q w j:=λw j e4 L r4=>k z h w j q3 (ee.trans e4) L r4;generalize rdM h x=d at n g;cases d with
 |lst i =>
  cases g;obtain⟨a,m,rfl,sq,f⟩:=n;refine .inl ⟨a,m,rfl,SqL.of sq,λp A=>gN c A ?_ o⟩;unfold cZ uT;rw[<-f.length];exact(f.drop _).take _
 |scr i =>
  cases g;obtain⟨a,m,rfl,sq,f⟩:=n;refine .inl ⟨a,m,rfl,sq,λp A=>gN c A ?_ o⟩;unfold cZ uT;rw[<-f.length];exact(f.drop _).take _
 |str s =>
  simp only[slE,slD]at g
  by_cases N:s.length<=N7
  ·rw[if_pos N]at g;cases g;exact .inr (.inr (.inl ⟨s,sD n,N,o _ B (Ext.refl _ _) c (by simp[Rep])⟩))
  ·rw[if_neg N]at g;cases g
 |tup i =>
  cases g;have rt:=ba.tup c n;obtain⟨a,m,rfl,sq,f⟩:=n
  by_cases C:HT.sIx i.length 0 l=0/\HT.sIx i.length i.length u=i.length
  ·refine .inr (.inr (.inr ⟨a,m,rfl,sq,by rw[<-f.length];exact C,o _ B (Ext.refl _ _) c ?_⟩));rw[xP C];exact rt
  ·refine .inr (.inl ⟨a,m,rfl,sq,by rw[<-f.length];exact C,λp A=>uA c A ?_ o⟩);unfold cZ uT;rw[<-f.length];exact(f.drop _).take _
 |_=>cases g
theorem zo{X:Cx}{st:af0}:QSd X st Dj:=by
 simp only[QSd.eq]at *
 exact λc s a H D I ⟨_,_,_,_,_,q,_⟩=>ae2 q
theorem wI{X:Cx}{j:Pos}{a:am0}{m:List (Str×O1)}{ms:List Bool}{ar:List Str}{f:List R6}{l:R6}{iter:R6}{h:R6}{i:Nat}{x:Str}{c e:Pos}{wi:TId}{g:GD}{tc:TTd}{te:TEd}(Q:X.N.Nodup)(p:X.N[i]?=some x)(J:X.env.scope.names.lookup x=some .local)
  (w:ai1 (.ListComp h [⟨l,iter,f,0⟩] a j) (some (.Name x e)) c.line X.env=al5 true) (S:eP X a m ms ar) (L:X.calm=true) (Y:QId X l iter wi) (hg:PGa X a m ar l g)
  (n:∀C s H u,QIf (aL X a m (X.N++ar) C s H u) f tc) (he:∀C s H u,QEd (aL X a m (X.N++ar) C s H u) h te)
  (hs:∀x,T0 iter X.env x=al5 x:=by intro _;rfl):QSd X (.Assign [.Name x e] (.ListComp h [⟨l,iter,f,0⟩] a j) c) (mR i (Il ms ar.length wi g tc te)):=by
 simp only[QEd.eq,QSd.eq,QId.eq,QIf.eq]at *
 obtain⟨Z,U,R⟩:=hg;refine(kh (tc:=upT X.K tc) Q p J w S L Y U n (yp (te:=up X.K te) he) hs).conv λD T H P=>?_;obtain⟨G,M,E,z,N,q,k⟩:=P;exact DM R T H _ ⟨G,M,_,z,N,q,λd M1 v I O A o B=>k.nx _ M1 _ I O A o ((z.ext A).set i B)⟩
section
variable{X:Cx}{y:List af0}{t:TSd}{e:R6}{z:TTd}
theorem FN(h:QSs X y t):FI X y t:=by
 rw[QSs.eq]at h;exact h
theorem yI(h:QWd X e z):QTd X e z:=by
 simp only[QWd.eq,QTd.eq]at *
 exact PWd.pt h
end
end L2
namespace L2
open PySem PySem.Spec PyProof.Rows PySem.Builtin.Str
end L2
namespace L2
open PySem PySem.Spec PyProof.Rows
def Few(n:Int):Prop:=Q8.Int.intBits n<=2 ^ 20
end L2
namespace Att
open PySem PySem.W PySem.Calls PyProof.Rows
end Att
namespace L2
open PySem PySem.Spec PyProof.Rows
section
variable{X:Cx}{y:Pos}
instance (n:Int):Decidable (Few n):=by unfold Few;exact inferInstance
def lL(i j:Int):Prop:=nO i j∨(Few i/\Few j)
instance:∀i j,Decidable (lL i j):=λi j=>Classical.propDecidable _
theorem lL.ok{i j:Int}(h:lL i j):IntMulOk i j:=by
 rcases h with h|⟨a,b⟩
 ·exact h.ok
 ·exact .of_bits a b
theorem Eu:OpR X (ad8 .Mult) (rI lL λi j=>.int (i*j)):=opI λ_ _ _ _ _ _ _ a q=>mul_int q a.ok
theorem HW:cC X (ad8 .Mult) (iOp λi j=>if lL i j then some (.int (i*j))else none):=wk (λ_ _=>rfl) Eu
end
open AutoSeq1 (wpAny_loadPart')
section
variable{prog:Q7}{w:U9}{A:S0}{E:M0->N1->Prop}{s:N1}
theorem oU(l:O1)(a:Array M0)(n:Nat)(f:Option O1)(o:Array (Option M0)):
  Meets (Q8.«enumerate.__new__» ⟨[.type "enumerate",.ref l],[]⟩) (λ_ R s=>s.heap.get? l=some { cls:=.type "tuple",dict:=f,data:=.seq a n,slots:=o } /\
   R (.ok (.ret (.ref (s.heap.push { cls:=.type "tuple_iterator",data:=.fields #[.ref l,.int 0 0] }).objs.size)))
    { s with heap:=(s.heap.push { cls:=.type "tuple_iterator",data:=.fields #[.ref l,.int 0 0] }).push { cls:=.type "enumerate",data:=.fields #[.none,.bool false,.ref s.heap.objs.size,ah1 0,.none,.none] } }) :=
 .of_wp λprog w A R s h=>by
  obtain⟨q,g,d,p,os⟩:=s;have e:=h.1;have i:=h.2;have m:=sub_enumerate;have j:Q9.IsTuple (N1.heap ⟨q,g,d,p,os⟩) l a:=⟨_,e,rfl,n,rfl⟩
  wp_walk using af2 e
  refine wpAny_stack_any λst=>M9 ?_
  split
  ·rename_i c _ _ _ _ _;cases(c==aa0 "enumerate")<;>(wp_walk using af2 e,aq1 j;exact⟨_,rfl,i⟩)
  ·wp_walk using af2 e,aq1 j
   exact⟨_,rfl,i⟩
theorem oQ{l:O1}{a:Array M0}{Q:M0->N1->Prop}(z:s.heap.IsTuple l a)
  (h:∀ h',IsEnum h' (s.heap.objs.size + 1) s.heap.objs.size 0 .none → h'.IsTupleIter s.heap.objs.size l 0 → h'.objs.size = s.heap.objs.size + 2 →
   (∀b o,s.heap.get? b=some o->h'.get? b=some o)->Q (.ref (s.heap.objs.size+1)) { s with heap:=h' }) :
  P6 (R4 prog w) A (call (.type "enumerate") [.ref l]) Q E s:=by
 obtain⟨⟨c,e,dt,m⟩,i,p,n,j⟩:=z;obtain rfl:c=.type "tuple":=p;obtain rfl:dt=.seq a n:=j;refine callType_new F.called_enumerate (by decide) (F.typeCall_enumerate_1 _) (F.newCall_enumerate_1 _) (λu=>F.args_object_init_2 u _) F.entry_enumerate_new (oU l a n e m) ⟨i,?_⟩;have f:(s.heap.push { cls:=.type "tuple_iterator",data:=.fields #[.ref l,.int 0 0] }).objs.size=s.heap.objs.size+1:=W1 ..;show _/\_;rw[f];have g:IsEnum ((s.heap.push { cls:=.type "tuple_iterator",data:=.fields #[.ref l,.int 0 0] }).push { cls:=.type "enumerate",data:=.fields #[.none,.bool false,.ref s.heap.objs.size,ah1 0,.none,.none] }) (s.heap.objs.size+1) s.heap.objs.size 0 .none:=by
  have q:=N6 (s.heap.push { cls:=.type "tuple_iterator",data:=.fields #[.ref l,.int 0 0] }) (o:={ cls:=.type "enumerate",data:=.fields #[.none,.bool false,.ref s.heap.objs.size,ah1 0,.none,.none] }) rfl
  rwa [f]at q
 exact⟨⟨_,g,rfl⟩,h _ g ⟨_,M7 _ (N6 _ rfl),rfl,rfl⟩ (by rw[W1,f]) λb o x=>M7 _ (M7 _ x)⟩
theorem oF{it t:O1}{i:Nat}{its}{x:M0}{Q:M0->N1->Prop}(a:s.heap.IsTupleIter it t i)(l:s.heap.IsTuple t its)(m:its[i]?=some x)
  (h:∀h',h'.IsTupleIter it t (i+1)->S4 it s.heap h'->Q x { s with heap:=h' }):P6 (R4 prog w) A (aj0 (.ref it)) Q E s:=by
 obtain⟨o,e,j,c⟩:=id a;obtain⟨n,g,_,p,f⟩:=l;unfold aj0;refine o0 (V6 (name:=ab6 "__next__") a.typeIs ah7 (U3 ah7 a.typeIs F.entry_tuple_iterator_next ?_ (F.args_tuple_iterator_next_1 _)));show P6 _ _ (field (.ref it) 0 >>= _) _ _ s;refine o0 (ai9 e c (x:=.ref t) rfl ?_);show P6 _ _ (if(U4 t==X1)=true then _ else _) _ _ s;rw[if_neg (show ¬ ((U4 t==X1)=true)from V9)];show P6 _ _ (field (.ref it) 1 >>= _) _ _ s;refine o0 (ai9 e c (x:=.int i 0) rfl ?_);show P6 _ _ (ax2 (.ref t) >>= _) _ _ s;refine o0 (wpAny_seqItems g f ?_);simp only[U2,m];refine o0 (ag6 e c (by simp) (M9 ⟨x,rfl,M9 (h _ ?_ (U8 ..))⟩));exact⟨_,W6 _ e (Obj.isFreed_of_fields (Obj.data_mapFields c _)),(Obj.cls_mapFields ..).trans j,by rw[Obj.data_mapFields c];simp[ah1]⟩
theorem pU{it t:O1}{i:Nat}{its}{Q:M0->N1->Prop}(l:A.handled=none)(c:s.heap.IsTupleIter it t i)(p:s.heap.IsTuple t its)(q:its[i]?=none)
  (n:∀h' e,aw2 it s.heap h'->(∃o,h'.get? e=some o/\o.cls=.type "StopIteration")->E (.ref e) { s with heap:=h' }):P6 (R4 prog w) A (aj0 (.ref it)) Q E s:=by
 obtain⟨o,g,u,f⟩:=id c;obtain⟨z,j,_,B,h⟩:=p;unfold aj0;refine o0 (V6 (name:=ab6 "__next__") c.typeIs ah7 (U3 ah7 c.typeIs F.entry_tuple_iterator_next ?_ (F.args_tuple_iterator_next_1 _)));show P6 _ _ (field (.ref it) 0 >>= _) _ _ s;refine o0 (ai9 g f (x:=.ref t) rfl ?_);show P6 _ _ (if(U4 t==X1)=true then _ else _) _ _ s;rw[if_neg (show ¬ ((U4 t==X1)=true)from V9)];show P6 _ _ (field (.ref it) 1 >>= _) _ _ s;refine o0 (ai9 g f (x:=.int i 0) rfl ?_);show P6 _ _ (ax2 (.ref t) >>= _) _ _ s;refine o0 (wpAny_seqItems j h ?_);simp only[U2,q];refine o0 (ap3 (o0 (ag6 g f (by simp) ?_)));show P6 _ _ (newExc (.type "StopIteration") [] >>= _) _ _ _;refine o0 ?_;simp only[newExc,newTuple];refine o0 (S3 ?_ (by size_fits));refine o0 (m:=al9 _ _) (au4 (a:=X1) (by first|rfl|(simp only[al9];rfl)) ?_);refine S3 ?_ (by size_fits);simp only[raiseNew];refine o0 (wpAny_handled ?_)
 first|rw[show A.in1.handled=none from l]|rw[l]
 refine o0 (M9 (wpAny_throw ?_));exact n _ _ (((U8 ..).extBut.push _).push _) ⟨_,N6 _ rfl,rfl⟩
theorem A9{prog:Q7}{w:U9}{A:S0}(u:A.handled=none)(it l:O1)(g:l≠it)(a:Array M0):
  Draws prog w A it [it,l] a.size (λi v=>a[i]?=some v) (λi h=>h.IsTupleIter it l i/\h.IsTuple l a) where
 live:=λ_ _ st=>let⟨o,e,_⟩:=st.1;⟨o,e⟩
 frame:=λ_ _ _ st m=>⟨let⟨o,e,r⟩:=st.1;⟨o,m it (by simp) o e,r⟩,let⟨o,e,r⟩:=st.2;⟨o,m l (by simp) o e,r⟩⟩
 item:=λi s Q E j st p=>oF st.1 st.2 (x:=a[i]) (by simp[j]) λq c f=>p _ q s.toks (by simp[j]) ⟨c,st.2.extBut f.extBut g⟩ f
 done:=λs Q E st n=>pU u st.1 st.2 (by simp) n
end
section
variable{X:Cx}{y:List (O1×Obj)}{σ:St}{H:Hp}{s:N1}{h':Q9}
theorem Inv.turned2{t':Nat}{e it:O1}(I:Inv X y σ H s)(k:∀b o,b≠e->b≠it->s.heap.get? b=some o->h'.get? b=some o)(N:gx X y H e)(M:gx X y H it):Inv X y σ H { s with heap:=h',toks:=t' }:=by
 obtain⟨P,i,R,l,L,x⟩:=N;obtain⟨E,j,Q,C,O,w⟩:=M;have f:∀b u,H b=some u->b≠e/\b≠it:=λb u q=>⟨λz=>(by rw[z,P]at q;cases q),λz=>(by rw[z,E]at q;cases q)⟩;have g:∀b o,b∉[e,it]->s.heap.get? b=some o->h'.get? b=some o:=λb o a q=>k b o (λz=>a (by simp[z])) (λz=>a (by simp[z])) q;refine I.step (g':=s.gens) (d':=s.drawn) (ch:=[e,it]) (λb J=>?_) (λb o _ _ a q _=>g b o a q) (λb o _ _ a q _=>⟨o.slots,g b o a q⟩) (λ_ _ _ _ n=>n)
  (λb o a q=>⟨o,g b o a q⟩) (λ_ _ q=>q) (λ_ _ _ q=>q) (λb S q=>⟨#[],by rw[q];simp⟩) (λm p=>?_) (λb u q=>?_) I.bare
 ·rcases O9.mp J with z|z
  ·subst z;exact⟨l,i,L,x⟩
  ·have z:=N8.mp z;subst z;exact⟨C,j,O,w⟩
 ·obtain⟨o,A,G,B,r⟩:=p;exact⟨o,A,G,k _ o (aa3 i) (aa3 j) B,r⟩
 ·refine(I.hok b u q).stay (λc v a h=>?_) (λ_ q=>q) λ_ _ q=>q;rcases a with z|z
  ·rw[z]at h ⊢;exact k _ _ (f b u q).1 (f b u q).2 h
  ·exact k c v (f c _ z).1 (f c _ z).2 h
end
def si(b:Bool)(K:u8)(H:Hp)(a:O1)(xs:List V):Prop:=match b with|true=>SqT K H a xs|false=>SqL K H a xs
def vT(b:Bool)(h:Q9)(it a:O1)(i:Nat):Prop:=match b with|true=>h.IsTupleIter it a i|false=>h.IsListIter it a i
noncomputable def KE(b:Bool):String:=match b with|true=>"tuple_iterator" |false=>"list_iterator"
theorem vT.obj{b:Bool}{h:Q9}{it a:O1}{i:Nat}(st:vT b h it a i):∃o,h.get? it=some o/\o.cls=.type (KE b)/\o.data=.fields #[.ref a,.int i 0]:=by
 cases b<;>exact st
theorem vT.of{b:Bool}{h:Q9}{it a:O1}{i:Nat}(st:∃o,h.get? it=some o/\o.cls=.type (KE b)/\o.data=.fields #[.ref a,.int i 0]):vT b h it a i:=by
 cases b<;>exact st
theorem wj{X:Cx}{B:List (O1×Obj)}{σ:St}{H:Hp}{s:N1}{b:Bool}{a it:O1}{i:Nat}{xs:List V}(x:X.calm=true)(I:Inv X B σ H s)(w:si b X.K H a xs)(f:vT b s.heap it a i):
  ∃(e:List M0) (St:Nat->Q9->Prop),aH xs e/\Draws X.prog X.w X.A.in1 it [it,a] e.toArray.size (λi v=>e.toArray[i]?=some v) St/\St i s.heap/\(∀j h,St j h->vT b h it a j)/\∃o,s.heap.get? a=some o/\o.cls≠.type "enumerate":=by
 cases b with
 |true =>
  obtain⟨e,n,p,E⟩:=I.tuple w;have g:s.heap.IsTuple a e.toArray:=p;have l:a≠it:=λz=>by
   obtain⟨o,q,c,_⟩:=g;obtain⟨C,m,u,_⟩:=f;rw[z,m]at q;cases q;rw[u]at c;exact absurd c (by decide)
  obtain⟨o,q,c,_⟩:=id g;exact⟨e,_,n,A9 (A:=X.A.in1) (I.ok.hd x) it a l e.toArray,⟨f,g⟩,λj h st=>st.1,o,q,by rw[c];decide⟩
 |false =>
  obtain⟨e,n,p,E⟩:=I.list w;have g:s.heap.IsList a e.toArray:=p.isList;have l:a≠it:=λz=>by
   obtain⟨o,q,c,_⟩:=g;obtain⟨C,m,u,_⟩:=f;rw[z,m]at q;cases q;rw[u]at c;exact absurd c (by decide)
  obtain⟨o,q,c,_⟩:=id g;exact⟨e,_,n,Draws.list (A:=X.A.in1) (I.ok.hd x) it a l e.toArray,⟨f,g⟩,λj h st=>st.1,o,q,by rw[c];decide⟩
theorem si.inj{X:Cx}{e:List (O1×Obj)}{σ:St}{H:Hp}{s:N1}{b:Bool}{a:O1}{xs c:List V}(I:Inv X e σ H s)(h:si b X.K H a xs)(h':si b X.K H a c):xs=c:=by
 cases b with
 |true=>exact I.tuple_inj h h'
 |false=>exact I.list_inj h h'
noncomputable def Ite(b:Bool)(K:u8)(a:O1)(n:Nat):It :=
 ⟨λi H=>(∃c,si b K H a c/\c.length=n)/\i<n,λi H x e=>∃T y,x=.ref T/\H T=none/\e=upd H T (.tup [.int i,y])/\∀c,si b K H a c->c[i]?=some y,λi H=>(∃c,si b K H a c/\c.length=n)/\n<=i⟩
theorem gx.upd{X:Cx}{a:List (O1×Obj)}{H:Hp}{b T:O1}{o:HO}(f:gx X a H b)(h:b≠T):gx X a (upd H T o) b:=by
 obtain⟨c,r⟩:=f;exact⟨by rw[aX h];exact c,r⟩
theorem AL{P:Q7}{w:U9}{K:u8}{U:List R6}{x1:Nat}{pt:Pos}(b:Bool)(a e it:O1)(n:Nat):m8 P w K (.Tuple U x1 pt) (Ite b K a n) [e,it] e (λi h=>(∃f,IsEnum h e it i f)/\vT b h it a i/\e≠it/\i<=n) where
 mem:=by simp
 obj:=λi h st c A=>by
  rcases O9.mp A with z|z
  ·subst z;obtain⟨⟨f,q⟩,_⟩:=st;exact⟨_,q,λv z=>by cases z⟩
  ·have z:=N8.mp z;subst z;obtain⟨_,st,_⟩:=st;obtain⟨o,q,_,d⟩:=st.obj;exact⟨o,q,λv z=>by rw[d]at z;cases z⟩
 keep:=λi h h' st k=>by
  obtain⟨⟨f,q⟩,st,ne,le⟩:=st;obtain⟨o,q2,r⟩:=st.obj;exact⟨⟨f,k e (by simp) _ q⟩,.of ⟨o,k it (by simp) o q2,r⟩,ne,le⟩
 item:=by
  intro X hP hw hK hc i J s σ H E I hf st hg;subst hP hw hK;obtain⟨⟨Z,hq,G⟩,Q⟩:=hg;have hx:Z[i]?=some (Z[i]'(by lia)):=by simp[G,Q]
  generalize Z[i]'(by lia)=x at hx;obtain⟨⟨f,p⟩,l,j,a8⟩:=st;obtain⟨m,St,rv,dr,g,B,ob,L,a9⟩:=wj hc I hq l;obtain⟨u,hu,ru⟩:=rv.get hx;have a3:e≠a:=λz=>by
   rw[<-z,p]at L;cases L;exact a9 rfl
  have fe:=hf e (by simp);have fi:=hf it (by simp);have a1:i<m.toArray.size:=by
   have h1:=(N4.mp hu).1;simpa using h1
  have eT:e<s.heap.objs.size:=P2 p;have iT:it<s.heap.objs.size:=by obtain⟨o,q,_⟩:=l.obj;exact P2 q
  refine wpAny_pyNext_enum_itemD dr p g a1 j (by simp[j,a3]) λy h1 C hy N a2 a0 b0 hk=>?_;have ey:y=u:=by
   have Y:m[i]?=some y:=by simpa using hy
   rw[hu]at Y;cases Y;rfl
  subst ey;refine⟨_,rfl,?_⟩;have In:H s.heap.objs.size=none:=I.hok.fresh (N2 _);have I1:Inv X J σ (upd H s.heap.objs.size (.tup [.int i,x])) { s with heap:=s.heap.push { cls:=.type "tuple",data:=.seq #[.int i C,y] },toks:=C+1 } :=
   I.laid (λb o q=>M7 _ q) (N2 _) ⟨by simp only[O2,V5];rw[O7];decide,[.int i C,y],.cons ⟨_,rfl⟩ (.cons ru .nil),⟨_,N6 s.heap rfl,rfl,⟨0,rfl⟩,rfl⟩⟩
  have M:gx X J (upd H s.heap.objs.size (.tup [.int i,x])) e:=fe.upd (P8 eT);have O:gx X J (upd H s.heap.objs.size (.tup [.int i,x])) it:=fi.upd (P8 iT);have I2:Inv X J σ (upd H s.heap.objs.size (.tup [.int i,x])) { s with heap:=h1,toks:=C+1 }:=I1.turned2 (t':=C+1) (λb o a5 a6 q=>by
   by_cases S:b=s.heap.objs.size
   ·subst S;rw[N6 s.heap rfl]at q;cases q;exact a0
   ·refine hk b o a5 a6 ?_;rcases Q9.get?_push_cases q with z|z
    ·exact absurd z.1 S
    ·exact z) M O
  refine wpAny_letOwnedTupleGo_enum N λY a4 T=>?_;obtain⟨g0,g1,g2,g3,g4,g5⟩:=M;have I3:=I2.turned (t':=C+1) (h':=Y) (it:=e) (λb o A q=>(T.2 b A).trans q) g0 g1 g3 g4 g5;refine⟨.ref s.heap.objs.size,_,I3,rfl,⟨_,x,rfl,In,rfl,λys a'=>by rw[si.inj I a' hq];exact hx⟩,⟨⟨y,by simpa using a4⟩,?_,j,Q⟩,λb A=>?_⟩
  ·obtain⟨o,q,r⟩:=(B _ _ a2).obj;exact .of ⟨o,(T.2 it (aa3 j)).trans q,r⟩
  ·rcases O9.mp A with z|z
   ·subst z;exact g0
   ·rw[N8.mp z];exact O.1
 done:=by
  intro X hP hw hK hc i J s σ H E I hf st hg;subst hP hw hK;obtain⟨⟨Z,hq,G⟩,hx⟩:=hg;obtain⟨⟨f,p⟩,l,j,a8⟩:=st;obtain⟨m,St,rv,dr,g,_⟩:=wj hc I hq l;obtain⟨f0,f1,f2,f3,f4,f5⟩:=hf it (by simp);have hl:=rv.length;have hi:i=m.toArray.size:=by simp;lia
  rw[hi]at g;exact wpAny_pyNext_enum_endD dr p g λh' eb=>⟨rfl,I.turned (t':=s.toks) (λb o A q=>eb b o A q) f0 f1 f3 f4 f5⟩
 self:=λ_ _ _ _ _ st h=>by
  obtain⟨⟨f,p⟩,_⟩:=st;exact wpAny_pyIter_enum p h
section
variable{X:Cx}{a:R6}{t:TAd}{G:Pos}
noncomputable def pY(n:Nat):List D->List D
 |[]=>[]
 |d::r=>.tup [.int n,d]::pY (n+1) r
theorem wK:∀(ds:List D) (n i:Nat),(pY n ds)[i]?=(ds[i]?).map λd=>.tup [.int ((n+i:Nat):Int),d]
 |[],n,i=>by simp[pY]
 |d::r,n,0=>by simp[pY]
 |d::r,n,i+1=>by
  simp only[pY,ab4];rw[wK r (n+1) i];have:n+1+i=n+(i+1):=by lia
  rw[this]
theorem xx:∀(ds:List D) (n:Nat),(pY n ds).length=ds.length
 |[],_=>rfl
 |d::r,n=>by simp[pY,xx r (n+1)]
noncomputable def sqD(b:Bool)(es:List D):D:=match b with|true=>.tup es|false=>.lst es
def Fb(b:Bool)(e:TAd):TId:=λf M R=>e f M λc M1=>∃a,c=[sqD b a]/\(a.length<=N7->R (pY 0 a) M1)
def yn(e:TAd):TId:=λf M R=>e f M λc M1=>∃a,c=[.tup a]/\(a.length<=N7->R (pY 0 a) M1)
theorem HE{K:u8}{M:DH}{H:Hp}{b:Bool}{es:List D}{v:V}(h:Rep K M H (sqD b es) v):∃a c,v=.ref a/\aw K M H es c/\∀M2 f,Ext M H M2 f->si b K f a c:=by
 cases b with
 |true =>
  simp only[sqD,Rep]at h;obtain⟨a,c,e,g,i⟩:=h;exact⟨a,c,e,i,λM2 f x=>(g.ext x).sq⟩
 |false =>
  simp only[sqD,Rep]at h;obtain⟨a,c,e,g,i⟩:=h;exact⟨a,c,e,i,λM2 f x=>SqL.of (x _ _ g.1 g.2).1⟩
theorem yt{prog:Q7}{w:U9}{A:S0}{E:M0->N1->Prop}{X:Cx}{e:List (O1×Obj)}{σ:St}{H:Hp}{s:N1}{b:Bool}{l:O1}{xs:List V}{Q:M0->N1->Prop}(I:Inv X e σ H s)(c:si b X.K H l xs)
  (h:∀ h',IsEnum h' (s.heap.objs.size + 1) s.heap.objs.size 0 .none → vT b h' s.heap.objs.size l 0 → h'.objs.size = s.heap.objs.size + 2 →
   (∀b o,s.heap.get? b=some o->h'.get? b=some o)->Q (.ref (s.heap.objs.size+1)) { s with heap:=h' }):P6 (R4 prog w) A (call (.type "enumerate") [.ref l]) Q E s:=by
 cases b with
 |true =>
  obtain⟨a,f,p,g⟩:=I.tuple c;exact oQ (show s.heap.IsTuple l a.toArray from p) h
 |false =>
  obtain⟨a,f,p,g⟩:=I.list c;exact call_enumerate_list p.isList h
theorem rg:ag4 "enumerate"=some (.type "enumerate"):=by kernel_rfl
theorem F3{b:Bool}{o:List R6}{U:Nat}{pt p:Pos}(hg:Gl X "enumerate")(hm:X.mg "enumerate"=none)(ha:PAd X [a] t)(hs:O5 [a] X.env=[(false,af8 a X.env)]:=by rfl):PId X (.Tuple o U pt) (.Call (.Name "enumerate" p) [a] [] G) (Fb b t):=by
 intro af s σ H R I w;obtain⟨Δ,M,R',Z,hr,q,k⟩:=w;refine Call_ (gn I hg hm rg (X4 (thn (ha G af s σ H (λl j=>∃c M1,aw X.K M1 j [sqD b c] l/\(c.length<=N7->R' (pY 0 c) M1)/\Ext M H M1 j/\HR X.K M1 j) I ⟨Δ,M,_,Z,hr,q,λds M1 l j ⟨c,ed,L⟩ O h J=>⟨c,M1,by rw[<-ed];exact J,L,O,h⟩⟩) λus u ⟨l,j,g,r1,c,M1,J,L,O,h⟩=>?_) hs rfl));obtain⟨v,rfl,rt⟩:=J.one;cases r1 with
 |cons r rr =>
  cases rr;obtain⟨ad,l,rfl,N,n⟩:=HE rt;cases r;have lo:c.length<=N7:=by
   have S:=n _ _ (Ext.refl _ _);rw[N.length];cases b with
   |true=>exact(g.tuple S).choose_spec.2.2
   |false=>exact(g.list S).choose_spec.2.2
  have a0:=N.length;refine yt g (n _ _ (Ext.refl _ _)) λh' P C Y hk=>?_;refine wpAny_pyIter_enum P ?_;refine⟨u.heap.objs.size+1,[u.heap.objs.size+1,u.heap.objs.size],_,_,j,rfl,g.kept (t':=u.toks) hk,AL b ad _ _ c.length,⟨⟨_,P⟩,C,Nat.succ_ne_self _,O3 _⟩,λb' hb=>?_,?_⟩
  ·rcases O9.mp hb with z|z
   ·subst z;exact g.fpOk (by lia) (g.hok.fresh (by lia))
   ·rw[N8.mp z];exact g.fpOk (N2 _) (g.hok.fresh (N2 _))
  ·refine k _ M1 _ j (L lo) O h λM2 H2 A f i=>⟨λd m=>?_,λQ=>⟨⟨l,(n _ _ A),by lia⟩,by rw[xx]at Q;exact Q⟩⟩;rw[wK]at m;cases e:c[i]? with
   |none=>rw[e]at m;cases m
   |some d0 =>
    rw[e]at m;have E:D.tup [.int ((0+i:Nat):Int),d0]=d:=by simpa using m
    subst E;have hi:i<c.length:=(N4.mp e).1;obtain⟨v0,gv,r0⟩:=N.get e;refine⟨⟨⟨l,(n _ _ A),by lia⟩,hi⟩,λx H' ⟨T,y,ex,B,eH,hy⟩=>?_⟩;subst ex;subst eH;have w:=hy l (n _ _ A);rw[gv]at w;cases w;refine⟨Ext.new f B,f.new B,?_⟩;simp only[Rep];refine⟨T,[.int i,v0],rfl,.inl ⟨.inl aO,f.fresh B⟩,?_⟩;exact aw.cons (by simp[Rep]) (aw.cons ((r0.ext A).ext (Ext.new f B)) aw.nil)
theorem zI{c:List R6}{e:Nat}{pt p:Pos}(hg:Gl X "enumerate")(f:X.mg "enumerate"=none)(ha:QAd X [a] t)(hs:O5 [a] X.env=[(false,af8 a X.env)]:=by rfl):QId X (.Tuple c e pt) (.Call (.Name "enumerate" p) [a] [] G) (yn t):=by
 simp only[QAd.eq,QId.eq]at *
 exact F3 (b:=true) hg f ha hs
end
section
variable{X:Cx}{y:Pos}
theorem C7:xb 10 60=True:=by simp[xb]
theorem IG{x:Int}(h0:-(10 ^ 60)<x)(c:x<10 ^ 60):Few x:=by
 unfold Few;rw[intBits_le_iff];have a:x.natAbs<10 ^ 60:=by lia
 exact O4 a (N3 (by decide:10 ^ 60<=2 ^ 200) (W3 (by decide) (by decide)))
theorem Lz{i j:Int}(h:Few i/\Few j):lL i j=True:=by simp[lL,h]
end
section
variable{X:Cx}{e:R6}{te z:TEd}{y:Pos}
end
section
variable{κ:Type} [DecidableEq κ]
noncomputable def bM(kvs:List (κ×D))(k:κ):Option D:=(kvs.find? λa=>decide (a.1=k)).map (·.2)
noncomputable def gV(kvs:List (κ×D))(k:κ)(v:D):List (κ×D) :=
 if(kvs.any λa=>decide (a.1=k))=true then kvs.map (λa=>if a.1=k then(a.1,v)else a)else kvs++[(k,v)]
theorem cF{p:κ×D}{r:List (κ×D)}{k:κ}(e:p.1=k):bM (p::r) k=some p.2:=by simp[bM,ah2,e]
theorem cz{p:κ×D}{r:List (κ×D)}{k:κ}(e:¬ p.1=k):bM (p::r) k=bM r k:=by simp[bM,ah2,e]
theorem qm(k:κ):∀kvs:List (κ×D),(kvs.any λa=>decide (a.1=k))=(bM kvs k).isSome
 |[]=>rfl
 |p::r=>by
  rw[ad3]
  by_cases e:p.1=k
  ·simp only[cF e,decide_eq_true e,Bool.true_or,Option.isSome_some]
  ·rw[cz e,decide_eq_false e,Bool.false_or];exact qm k r
theorem vR(k j:κ)(y:D):∀kvs:List (κ×D),bM (kvs.map λa=>if a.1=k then(a.1,y)else a) j=(bM kvs j).map λx=>if j=k then y else x
 |[]=>rfl
 |p::r=>by
  have ih:=vR k j y r;rw[N5]
  by_cases h:p.1=k
  ·rw[if_pos h]
   by_cases e:p.1=j
   ·rw[cF (p:=(p.1,y)) e,cF e,ah3,if_pos (e.symm.trans h)]
   ·rw[cz (p:=(p.1,y)) e,cz e,ih]
  ·rw[if_neg h]
   by_cases e:p.1=j
   ·rw[cF (p:=p) e,cF e,ah3,if_neg (λz=>h (e.trans z))]
   ·rw[cz (p:=p) e,cz e,ih]
theorem tM(k j:κ)(y:D):∀kvs:List (κ×D),bM kvs k=none->bM (kvs++[(k,y)]) j=if j=k then some y else bM kvs j
 |[],_=>by
  by_cases e:k=j
  ·rw[if_pos e.symm];exact cF (p:=(k,y)) e
  ·rw[if_neg (λz=>e z.symm)];exact cz (p:=(k,y)) e
 |p::r,a=>by
  rw[at0];have c:¬ p.1=k:=λz=>by rw[cF z]at a;cases a
  rw[cz c]at a;have ih:=tM k j y r a
  by_cases e:p.1=j
  ·rw[cF e,cF e,if_neg (λz=>c (e.trans z))]
  ·rw[cz e,cz e,ih]
theorem qR(kvs:List (κ×D))(k j:κ)(y:D):bM (gV kvs k y) j=if j=k then some y else bM kvs j:=by
 unfold gV
 by_cases a:(kvs.any λf=>decide (f.1=k))=true
 ·rw[if_pos a,vR];rw[qm]at a
  by_cases e:j=k
  ·obtain⟨x,c⟩:=X5.mp a;rw[if_pos e,e,c,ah3,if_pos rfl]
  ·rw[if_neg e];cases bM kvs j with
   |none=>rfl
   |some x=>rw[ah3,if_neg e]
 ·rw[if_neg a];refine tM k j y kvs ?_;rw[qm]at a;cases q:bM kvs k with
  |none=>rfl
  |some x=>rw[q]at a;exact(a rfl).elim
theorem n5(kvs:List (κ×D))(k:κ)(v:D):(gV kvs k v).length<=kvs.length+1:=by
 unfold gV
 split
 ·rw[s0];lia
 ·rw[O6,O2,V5];exact N2 _
variable{K:u8}{M:DH}{H:Hp}
theorem KR.val{kvs:List (κ×D)}{ks:List (κ×V)}(h:KR K M H kvs ks)(k:κ):(∀d,bM kvs k=some d->∃v,iV ks k=some v/\Rep K M H d v)/\(iV ks k).isSome=(bM kvs k).isSome:=by
 unfold KR at h
 induction h with
 |nil=>exact⟨λd e=>(nomatch e),rfl⟩
 |@cons p q c a r t ih =>
  by_cases e:p.1=k
  ·rw[cF e,lY (r.1.symm.trans e)];exact⟨λd z=>(by cases z;exact⟨_,rfl,r.2⟩),rfl⟩
  ·rw[cz e,md (λz=>e (r.1.trans z))];exact ih
theorem KR.any{kvs:List (κ×D)}{ks:List (κ×V)}(h:KR K M H kvs ks)(k:κ):(ks.any λa=>decide (a.1=k))=kvs.any λa=>decide (a.1=k):=by
 unfold KR at h
 induction h with
 |nil=>rfl
 |cons r _ ih=>rw[ad3,ad3,ih,r.1]
theorem KR.length{kvs:List (κ×D)}{ks:List (κ×V)}(h:KR K M H kvs ks):kvs.length=ks.length:=ap6 h
theorem KR.put{kvs:List (κ×D)}{ks:List (κ×V)}(h:KR K M H kvs ks)(k:κ){d:D}{v:V}(r:Rep K M H d v):KR K M H (gV kvs k d) (fu ks k v):=by
 unfold gV fu;rw[h.any k]
 by_cases e:(kvs.any λc=>decide (c.1=k))=true
 ·rw[if_pos e,if_pos e];clear e;unfold KR at h ⊢
  induction h with
  |nil=>exact .nil
  |@cons p q f g a t ih =>
   rw[N5,N5];refine .cons ?_ ih
   by_cases e:p.1=k
   ·rw[if_pos e,if_pos (a.1.symm.trans e)];exact⟨a.1,r⟩
   ·rw[if_neg e,if_neg (λz=>e (a.1.trans z))];exact a
 ·rw[if_neg e,if_neg e];exact af1.snoc h ⟨rfl,r⟩
end
noncomputable def kD:Key->D
 |.inl i=>.int i
 |.inr x=>.str x
theorem qg{K:u8}{M:DH}{H:Hp}{k:Key}{v:V}(h:Rep K M H (kD k) v):v=kV k:=by
 cases k<;>simpa[kD,Rep,kV]using h
theorem lU{K:u8}{M:DH}{H:Hp}:∀{ks:List Key}{a:List V},aw K M H (ks.map kD) a->a=ks.map kV
 |[],_,h=>by simpa[aw]using h
 |k::ks,_,h=>by
  simp only[N5,aw]at h;obtain⟨v,f,rfl,c,e⟩:=h;rw[qg c,lU e];rfl
section
variable{X:Cx}{a b c e o i:R6}{es:List R6}{te G L Y tb:TEd}{t:TAd}{N:Pos}
def dDT:TEd:=λ_ M Q=>∀p,M p=none->Q (.ref p) (ay M p (.dT []))
def CO(e c:TEd):TEd:=λa M Q=>∀p,M p=none->e a (ay M p (.dK [])) λx M1=>c a M1 λy M2=>∃k,x=kD k/\M2 p=some (.dK [])/\Q (.ref p) (ay M2 p (.dK [(k,y)]))
def FH(c:Bool)(ty g:TE):TE:=λf H Q=>ty f H λy h=>g f h λx e=>∃a o,x=.ref a/\nU e a y o/\Q (.bl (xor c o.isSome)) e
theorem D8{ty g:TE}{n:ay2}{a:Bool}(f:n=(if a then .NotIn else .In))(m:X.A.units+1<af7)(j:PE X i ty)(l:PE X o g):PC X n i o (FH a ty g):=by
 subst f;cases a with
 |false =>
  intro e s c H Q I h;exact HA m j l e s c H Q I (by simpa[FH,Kc]using h)
 |true =>
  intro e s c H Q I h;exact Ay m j l e s c H Q I (by simpa[FH,zJ]using h)
def FL(e:Bool)(t:TAd)(G:TEd):TEd:=λh M Q=>t h M λf M1=>f.length<=N7/\G h M1 λx M2=>∃a c g,x=.ref a/\M2 a=some (.dT c)/\f=g.map kD/\Q (.bl (xor e (bM c g).isSome)) M2
theorem xA{K:u8}{e:Bool}:∀ σ H Q,up K (FL e t G) σ H Q->FH e (JJ (upA K t)) (up K G) σ H Q:=λσ H Q h=>h.el λo M R i L q k=>⟨o,M,_,i,L,q,λT M1 U X ⟨z,S⟩ w c m=>⟨by rw[<-m.length];exact z,λp g=>⟨o,M1,_,(i.ext w).ext (Ext.new c g),c.new g,S,λx M2 u N ⟨a,A,l,C,I,J,P⟩ n f j=>by
  subst C;subst J;simp only[Rep]at j;subst j;obtain⟨E,O,B⟩:=f a _ I;have s:=(n p _ aO (c.fresh g)).1;rw[lU m]at s;refine⟨a,iV E l,rfl,nU.t O s,?_⟩;rw[(B.val l).2];exact k _ M2 _ N P ((w.trans (Ext.new c g)).trans n) f (by simp only[Rep])⟩⟩⟩
theorem L4{K:u8}{te:TEd}{f:TE}(h:∀ σ H Q,up K te σ H Q->f σ H Q):∀ σ H Q,upT K (rS te) σ H Q->tB f σ H Q:=λσ H Q a=>a.el λl M R i o q k =>
 h σ H _ ⟨l,M,_,i,o,q,λd M1 v m ⟨b,e,g⟩ n c j=>⟨b,by subst e;simpa only[Rep]using j,k b M1 m g n c⟩⟩
def Ac(G L te:TEd):TSd:=λE e M=>te e M λd M1=>G e M1 λx M2=>L e M2 λy f=>∃a c k,x=.ref a/\f a=some (.dK c)/\y=kD k/\c.length<N7/\E.nx e (ay f a (.dK (gV c k d)))
def Gw(G:TEd)(t:TAd)(te:TEd):TSd:=λE e M=>te e M λd M1=>G e M1 λx M2=>t e M2 λg f=>g.length<=N7/\∃a c h,x=.ref a/\f a=some (.dT c)/\g=h.map kD/\c.length<N7/\E.nx e (ay f a (.dT (gV c h d)))
end
section
variable{X:Cx}{a b c e o:R6}{es:List R6}{te N:TEd}{t:TAd}{G:Pos}{L:R6}
noncomputable def iJ:List D->Option (List Int)
 |[]=>some []
 |.int i::a=>(iJ a).map (i::·)
 |_=>none
theorem rN:∀{ns:List Int},iJ (ns.map D.int)=some ns
 |[]=>rfl
 |n::ns=>by simp[iJ,rN (ns:=ns)]
theorem tU{K:u8}{M:DH}{H:Hp}:∀{ds:List D}{ns:List Int}{f:List V}{a:List M0},iJ ds=some ns->aw K M H ds f->aH f a->∃xs:Array (Int×Tok),a.toArray=intItems xs/\xs.toList.map (·.1)=ns
 |[],_,_,_,e,h,r=>by
  simp only[iJ,ar4]at e;subst e;simp only[aw]at h;subst h;cases r;exact⟨#[],by simp[intItems],rfl⟩
 |.int i::ds,ns,f,a,e,h,r=>by
  simp only[iJ]at e;cases q:iJ ds with
  |none=>rw[q]at e;cases e
  |some z =>
   rw[q]at e;cases e;simp only[aw]at h;obtain⟨v,w,rfl,g,n⟩:=h;simp only[Rep]at g;subst g;cases r with
   |@cons x u l c s o =>
    obtain⟨t,rfl⟩:=s;obtain⟨j,p,m⟩:=tU q n o;refine⟨(((i,t)::j.toList)).toArray,?_,by simp[m]⟩;have:c=(intItems j).toList:=by rw[<-p]
    rw[this];simp[intItems]
 |.non::_,_,_,_,e,_,_=>by cases e
 |.bl _::_,_,_,_,e,_,_=>by cases e
 |.str _::_,_,_,_,e,_,_=>by cases e
 |.tup _::_,_,_,_,e,_,_=>by cases e
 |.lst _::_,_,_,_,e,_,_=>by cases e
 |.scr _::_,_,_,_,e,_,_=>by cases e
 |.emp::_,_,_,_,e,_,_=>by cases e
 |.box _ _::_,_,_,_,e,_,_=>by cases e
 |.ref _::_,_,_,_,e,_,_=>by cases e
noncomputable def Ic(lo c:Int)(n:Nat):It:=⟨λi _=>i<n,λi H x a=>a=H/\x=.int (lo+i*c),λi _=>n<=i⟩
theorem xi{P:Q7}{w:U9}{K:u8}{L:R6}(it:O1)(lo c:Int)(n:Nat):m8 P w K L (Ic lo c n) [it] it (λi h=>ay4 h it (lo+(i:Nat)*c) ((n:Int)-(i:Nat)) c) where
 mem:=by simp
 obj:=λi h st b a=>by
  have e:b=it:=by simpa using a
  subst e;exact⟨_,st,λv z=>by
   have O:Data.fields _=Data.cell v:=z;cases O⟩
 keep:=λi h l st k=>k it (by simp) _ st
 item:=by
  intro X x A hK p i M s N H E I j st m;subst x A hK;obtain⟨G,u,T,C,q,B⟩:=j it (by simp);have W:=az4.range (prog:=X.prog) (w:=X.w) (I.ok.hd p) it lo c n;refine W.item i s _ _ m st λv l J S g R=>?_;obtain⟨t,rfl⟩:=S;have Q:Inv X M N H { s with heap:=l,toks:=J }:=I.turned (λb o a e=>R b o (by simpa using a) e) G u C q B;exact⟨_,rfl,sJ (s:={ s with heap:=l,toks:=J }) (n:="range_iterator") g rfl rfl (by decide) ⟨.int (lo+i*c),H,Q,⟨t,rfl⟩,⟨rfl,rfl⟩,g,λb a=>(j b a).1⟩⟩
 done:=by
  intro X x A hK p i M s N H E I j st m;subst x A hK;obtain⟨G,u,T,C,q,B⟩:=j it (by simp);exact wpAny_pyNext_range_end (I.ok.hd p) st (by have:n<=i:=m;omega) λl U=>⟨rfl,I.turned (t':=s.toks) (λb o a e=>U b o a e) G u C q B⟩
 self:=λ_ _ _ _ _ st h=>wpAny_pyIter_rangeiter st h
noncomputable def szR(a b c:Int):Nat:=(ab3 a b c).toNat
def KL(e:TA):TI:=λa H R=>e a H λg f=>∃i j c:Int,g=[.int i,.int j,.int c]/\c≠0/\(-(2 ^ 20)<=i/\i<2 ^ 20/\-(2 ^ 20)<=j/\j<2 ^ 20/\-(2 ^ 20)<=c/\c<2 ^ 20)/\Q8.Range.small i j c=true/\R (Ic i c (szR i j c)) f
theorem EI{a b c:Int}(e:c≠0):0<=ab3 a b c:=by
 unfold ab3
 split
 ·split
  ·have:=Int.ediv_nonneg (a:=b-a-1) (b:=c) (by omega) (by exact av0 (by assumption));omega
  ·decide
 ·split
  ·have:=Int.ediv_nonneg (a:=a-b-1) (b:=-c) (by omega) (by omega);omega
  ·decide
theorem Ar{M:TA}{p:Pos}(hg:Gl X "range")(P:X.mg "range"=none)(ha:PA X [a,b,c] M)(hs:O5 [a,b,c] X.env=[(false,af8 a X.env),(false,af8 b X.env),(false,af8 c X.env)]:=by rfl)
  (n:O5 [b,c] X.env=[(false,af8 b X.env),(false,af8 c X.env)]:=by rfl):PI X L (.Call (.Name "range" p) [a,b,c] [] G) (KL M):=by
 intro E s J H R I h;refine Call_ (gn I hg P boot_range (X4 (thn (ha G E s J H _ I h) λus g x=>x.el λvs C Q O N=>?_) (by rw[hs,n]) (by rw[n];rfl)));obtain⟨i,j,st,e,B,⟨b1,Z,b3,b4,b5,b6⟩,u,q⟩:=N;subst e;cases O with
 |cons r m =>
  cases m with
  |cons U m =>
   cases m with
   |cons z m =>
    cases m;obtain⟨t,rfl⟩:=r;obtain⟨l,rfl⟩:=U;obtain⟨f,rfl⟩:=z;refine call_range_3 B ?_ (R8 (PyProof.noPylong_small (by omega)));refine wpAny_pyIter_range (IsRange.new ..) u ?_;have w:Inv X E J C { g with heap:=g.heap.push { cls:=.type "range",data:=.fields #[.int i t,.int j l,.int st f] },toks:=g.toks }:=Q.kept λb o e=>M7 _ e;refine⟨(g.heap.push { cls:=.type "range",data:=.fields #[.int i t,.int j l,.int st f] }).objs.size,[(g.heap.push { cls:=.type "range",data:=.fields #[.int i t,.int j l,.int st f] }).objs.size],_,_,C,rfl,
     w.kept (t':=g.toks) λb o e=>M7 _ e,xi _ i st (szR i j st),?_,λb S=>?_,q⟩
    ·have Y:i+((0:Nat):Int)*st=i:=by simp
     have T:((szR i j st:Nat):Int)-((0:Nat):Int)=ab3 i j st:=by
      unfold szR;have:=EI (a:=i) (b:=j) B;omega
     show ay4 _ _ (i+((0:Nat):Int)*st) (((szR i j st:Nat):Int)-((0:Nat):Int)) st;rw[Y,T];exact N6 _ rfl
    ·have e:b=(g.heap.push { cls:=.type "range",data:=.fields #[.int i t,.int j l,.int st f] }).objs.size:=by simpa using S
     subst e;exact w.fpOk (N2 _) (w.hok.fresh (N2 _))
noncomputable def vg(lo c:Int)(n:Nat):List D:=(Q0 n).map λ(k:Nat)=>.int (lo+(k:Int)*c)
theorem rH{lo c:Int}{n i:Nat}{d:D}(h:(vg lo c n)[i]?=some d):i<n/\d=.int (lo+i*c):=by
 unfold vg at h;rw[Q6]at h
 by_cases a:i<n
 ·rw[ap0 a]at h;cases h;exact⟨a,rfl⟩
 ·rw[S9 (by simp;omega)]at h;cases h
theorem FE{K:u8}{lo c:Int}{n:Nat}{M1:DH}{j:Hp}:ItD K (Ic lo c n) (vg lo c n) M1 j:=λM2 l m a i=>⟨λd g=>by
  obtain⟨e,rfl⟩:=rH g;refine⟨e,λx o ⟨h,y⟩=>?_⟩;subst h;subst y;exact⟨Ext.refl _ _,a,by simp[Rep]⟩,λf=>by
  show n<=i;simpa[vg]using f⟩
def DL(e:TAd):TId:=λf M R=>e f M λa M1=>∃i j c:Int,a=[.int i,.int j,.int c]/\(c=2∨c=-1)/\(-(2 ^ 20)<=i/\i<2 ^ 20/\-(2 ^ 20)<=j/\j<2 ^ 20)/\R (vg i c (szR i j c)) M1
theorem A6{a b c:Int}(g:c=2∨c=-1)(ha:-(2 ^ 20)<=a)(e:a<2 ^ 20)(h:-(2 ^ 20)<=b)(f:b<2 ^ 20):Q8.Range.small a b c=true:=by
 unfold Q8.Range.small ab3;rcases g with rfl|rfl
 ·simp only[Q8.Range.rangeFitsLong,V2,Bool.or_eq_true,decide_eq_true_eq,beq_iff_eq,show(2:Int) > 0 by decide,if_true]
  split<;>omega
 ·simp only[Q8.Range.rangeFitsLong,V2,Bool.or_eq_true,decide_eq_true_eq,beq_iff_eq,show ¬ (-1:Int) > 0 by decide,if_false,show(- (-1:Int))=1 from rfl,Int.ediv_one]
  split<;>omega
theorem aw.three{K:u8}{M:DH}{H:Hp}{d e f:D}{a:List V}(h:aw K M H [d,e,f] a):∃v w z,a=[v,w,z]/\Rep K M H d v/\Rep K M H e w/\Rep K M H f z:=by
 simp only[aw]at h;obtain⟨v,l,rfl,c,w,j,rfl,g,z,m,rfl,i,rfl⟩:=h;exact⟨v,w,z,rfl,c,g,i⟩
end
section
variable{X:Cx}{L z G:R6}{H:Pos}{y:am0}{N:List (Str×O1)}{ms:List Bool}{ar:List Str}{I:List R6}
end
theorem Al{P:Q7}{w:U9}{k:Key}{v:M0}(h:(bo P w).is k v=true):aQ (kV k) v:=by
 rcases bP (show rh k v=true from h)with⟨i,t,rfl,rfl⟩|⟨x,t,rfl,rfl⟩
 ·exact⟨t,rfl⟩
 ·exact⟨t,rfl⟩
section
variable{X:Cx}{y:List (O1×Obj)}{σ:St}{H:Hp}{s:N1}{a:O1}{o:Obj}{ks:List (Key×V)}
theorem Inv.freeze(I:Inv X y σ H s)(e:H a=some (.dK ks)):∃o,s.heap.get? a=some o/\Inv X y σ (upd H a (.frz o (.dK ks))) s:=by
 obtain⟨o,c⟩:∃o,s.heap.get? a=some o:=by
  obtain⟨_,_,_,_,o,_,_,q,_⟩:=Ai I.hok e;exact⟨o,q⟩
 refine⟨o,c,?_⟩;have:=I.write (x:=a) (e:=a) (o:=.frz o (.dK ks)) (h':=s.heap) (t':=s.toks) (by rw[e];exact al8) (.inl rfl) (λb u _ q=>q) ⟨o,c⟩ ⟨c,Ai I.hok e⟩;exact this
end
section
variable{X:Cx}{y l:R6}{z:TE}{te:TEd}
theorem KR.keys{K:u8}{M:DH}{H:Hp}{κ:Type}{kvs:List (κ×D)}{ks:List (κ×V)}(h:KR K M H kvs ks):kvs.map (·.1)=ks.map (·.1):=by
 unfold KR at h
 induction h with
 |nil=>rfl
 |cons r _ ih=>rw[N5,N5,ih,r.1]
theorem lH{K:u8}{M:DH}{H:Hp}{k:Key}:Rep K M H (kD k) (kV k):=by cases k<;>simp[kD,kV,Rep]
end
end L2
namespace L2
open PySem PySem.W PyProof.Rows
section
variable{y z:Type}
def tw(n:Nat)(lt:Nat->Nat->Bool):KasT y->(y->Prop)->Prop
 |.ret a,Q=>Q a
 |.ask i j k,Q=>i<n/\j<n/\tw n lt (k (lt i j)) Q
theorem j5{n:Nat}{lt:Nat->Nat->Bool}{f:y->KasT z}{Q:z->Prop}:∀{t:KasT y},tw n lt t (λa=>tw n lt (f a) Q)->tw n lt (t.bind f) Q
 |.ret _,h=>h
 |.ask _ _ _,h=>⟨h.1,h.2.1,j5 h.2.2⟩
theorem BL{n:Nat}{lt:Nat->Nat->Bool}{c:Nat->Nat->(Bool->N1->Prop)->N1->Prop}{J:N1->Prop}(l:∀i j C s,i<n->j<n->J s->(∀s',J s'->C (lt i j) s')->c i j C s){Q:y->Prop}{G:y->N1->Prop}(g:∀a s,J s->Q a->G a s):
  ∀{t:KasT y} {s:N1},tw n lt t Q->J s->t.kasWp c G s
 |.ret _,s,h,e=>g _ s e h
 |.ask i j k,s,h,e=>l i j _ s h.1 h.2.1 e λs' f=>BL l g h.2.2 f
variable{O:ak3}{key:Nat->O.α}{n:Nat}
noncomputable def ff(O:ak3)(key:Nat->O.α)(i j:Nat):Bool:=O.blt (key i) (key j)
noncomputable def GH(O:ak3)(key:Nat->O.α):KeyKind:={ O with keyOf:=λv=>match v with|.int i _=>some (key i.toNat)|_=>none,dflt:=key 0 }
noncomputable def sm(p:Array Nat):Array Keyed:=p.map λ(i:Nat)=>((aw7 (i:Int) 0,X1):Keyed)
noncomputable def kp(O:ak3)(key:Nat->O.α)(p:Array Nat)(i:Nat):O.α:=key (p.getD i 0)
theorem rJ{p:Array Nat}{i:Nat}(h:i<p.size):KK (GH O key) (sm p) i=kp O key p i:=by
 unfold KK kp sm;rw[Array.getElem?_map,R9 h];simp[GH,ac6,h]
theorem EN{p:Array Nat}{i j:Nat}:sm (kas_rev p i j)=mirror (sm p) i j ((j-i) / 2):=by
 unfold sm kas_rev mirror;exact(kas_swaps_map _ _ _ _ _).symm
theorem E2{p:Array Nat}{k d:Nat}:sm (bubble p k d)=bubble (sm p) k d:=by
 unfold sm bubble;exact(kas_swaps_map _ _ _ _ _).symm
theorem wW{p:Array Nat}:(sm p).size=p.size:=by simp[sm]
theorem Bu{p:Array Nat}{i j:Nat}:(kas_rev p i j).size=p.size:=mirror_size _ _ _ _
theorem yq{p:Array Nat}{i j k:Nat}(c:j<=p.size)(a:k<p.size):kp O key (kas_rev p i j) k=if i<=k/\k<j then kp O key p (i+j-1-k)else kp O key p k:=by
 rw[<-rJ (by rw[Bu];exact a),EN,KK_mirror (by rw[wW];exact c)]
 by_cases h:i<=k/\k<j
 ·rw[if_pos h,if_pos h,rJ (by lia)]
 ·rw[if_neg h,if_neg h,rJ a]
theorem D5{p:Array Nat}{src d k:Nat}(hs:src<p.size)(f:d<=src)(e:k<p.size):kp O key (bubble p src d) k=if k=src-d then kp O key p src else if src-d<k/\k<=src then kp O key p (k-1)else kp O key p k:=by
 rw[<-rJ (by rw[bubble_size];exact e),E2,KK_bubble (by rw[wW];exact hs) f]
 by_cases a:k=src-d
 ·rw[if_pos a,if_pos a,rJ hs]
 ·rw[if_neg a,if_neg a]
  by_cases c:src-d<k/\k<=src
  ·rw[if_pos c,if_pos c,rJ (by lia)]
  ·rw[if_neg c,if_neg c,rJ e]
def c8(n:Nat)(p:Array Nat):Prop:=p.toList.Perm (Q0 n)
theorem c8.size{p:Array Nat}(h:c8 n p):p.size=n:=by
 have:=h.length_eq;simpa using this
theorem c8.lt{p:Array Nat}(h:c8 n p){i:Nat}(c:i<n):p.getD i 0<n:=by
 have a:=h.size;have e:p.getD i 0=p.toList[i]'(by simp;lia):=by simp[ac6,show i<p.size by lia]
 rw[e];exact R0.mp (h.mem_iff.mp (V0 _))
theorem c8.rev{p:Array Nat}(h:c8 n p)(i j:Nat):c8 n (kas_rev p i j):=(Array.perm_iff_toList_perm.mp (mirror_perm p i j _)).trans h
theorem c8.bub{p:Array Nat}(h:c8 n p)(i j:Nat):c8 n (bubble p i j):=(Array.perm_iff_toList_perm.mp (bubble_perm p i j)).trans h
def dO(O:ak3)(key:Nat->O.α)(p:Array Nat)(k:Nat):Prop:=∀i j,i<=j->j<k->O.kle (kp O key p i) (kp O key p j)
def dE(O:ak3)(key:Nat->O.α)(p:Array Nat)(k:Nat):Prop:=∀i j,i<=j->j<k->O.kle (kp O key p j) (kp O key p i)
theorem dO.more{p:Array Nat}{x:Nat}(h:dO O key p x)(g:1<=x)(le:O.kle (kp O key p (x-1)) (kp O key p x)):dO O key p (x+1):=λi j a f=>by
 rcases U6 j x with c|c
 ·exact h i j a c
 ·obtain rfl:j=x:=by lia
  rcases U6 i j with e|e
  ·exact at1 (h i (j-1) (by lia) (by lia)) le
  ·obtain rfl:i=j:=by lia
   exact aj8 _
theorem dE.more{p:Array Nat}{x:Nat}(h:dE O key p x)(g:1<=x)(le:O.kle (kp O key p x) (kp O key p (x-1))):dE O key p (x+1):=λi j a f=>by
 rcases U6 j x with c|c
 ·exact h i j a c
 ·obtain rfl:j=x:=by lia
  rcases U6 i j with e|e
  ·exact at1 le (h i (j-1) (by lia) (by lia))
  ·obtain rfl:i=j:=by lia
   exact aj8 _
theorem xR{p:Array Nat}(g:c8 n p):∀{f a:Nat}{Q:Nat->Prop},1<=a->a+f<=n->dO O key p a ->
  (∀m,a<=m->m<=a+f->dO O key p m->(m=a+f∨O.klt (kp O key p m) (kp O key p (m-1)))->Q m)->tw n (ff O key) (kas_asc p f a) Q
 |0,a,Q,h,l,c,k=>k a (N2 _) (N2 _) c (.inl rfl)
 |f+1,a,Q,h,l,c,k=>by
  refine⟨g.lt (by lia),g.lt (by lia),?_⟩;cases q:ff O key (p.getD a 0) (p.getD (a-1) 0)with
  |true=>exact k a (N2 _) (by lia) c (.inr q)
  |false=>exact xR g (by exact U7 (by assumption)) (by lia) (c.more h q) λm s o j i=>k m (by exact T8 (by assumption)) (by lia) j (i.imp (λe=>by lia) id)
theorem mG{p:Array Nat}{i j:Nat}(a:j<=p.size)(he:∀k,i<=k->k<j->kp O key p k=kp O key p (j-1)){k:Nat}(c:k<p.size):kp O key (kas_rev p i j) k=kp O key p k:=by
 rw[yq a c]
 by_cases h:i<=k/\k<j
 ·rw[if_pos h,he _ (by lia) (by lia),he k h.1 h.2]
 ·rw[if_neg h]
theorem o1:∀{f:Nat}{p:Array Nat}{x q:Nat}{Q:Array Nat×Nat×Nat->Prop},c8 n p->1<=x->x+f<=n->dE O key p x->q+1<=x->(∀i,x-(q+1)<=i->i<x->kp O key p i=kp O key p (x-1)) ->
  (∀o m s,c8 n o->1<=m->m<=x+f->dE O key o m->s+1<=m->(∀i,m-(s+1)<=i->i<m->kp O key o i=kp O key o (m-1))->Q (o,m,s))->tw n (ff O key) (kas_desc f p x q) Q
 |0,p,x,q,Q,l,u,L,w,B,z,k=>k p x q l u (N2 _) w B z
 |f+1,p,x,q,Q,l,u,L,w,B,z,k=>by
  have M:=l.size;refine⟨l.lt (by lia),l.lt (by lia),?_⟩;cases c:ff O key (p.getD x 0) (p.getD (x-1) 0)with
  |true =>
   have lt:O.klt (kp O key p x) (kp O key p (x-1)):=c;simp only[if_true]
   by_cases H:q > 0
   ·rw[if_pos H];have same:∀{i},i<n->kp O key (kas_rev p (x-(q+1)) x) i=kp O key p i:=λN=>mG (by lia) z (by lia);refine o1 (l.rev _ _) (by exact U7 (by assumption)) (by lia) ?_ (by exact U7 (by assumption)) (λi C I=>by obtain rfl:i=x:=(by lia);rfl) λo m s a b E d e g=>k o m s a b (by lia) d e g;refine dE.more (λi j A J=>?_) u ?_
    ·rw[same (by lia),same (by lia)];exact w i j A J
    ·rw[same (by lia),same (by lia)];exact an9 lt
   ·rw[if_neg H];exact o1 l (by exact U7 (by assumption)) (by lia) (w.more u (an9 lt)) (by exact U7 (by assumption)) (λi C I=>by obtain rfl:i=x:=(by lia);rfl) λo m s a b E d e g=>k o m s a b (by lia) d e g
  |false =>
   simp only[N9,if_false];refine⟨l.lt (by lia),l.lt (by lia),?_⟩;cases G:ff O key (p.getD (x-1) 0) (p.getD x 0)with
   |true=>exact k p x q l u (by lia) w B z
   |false =>
    simp only[N9,if_false];have eq:kp O key p x=kp O key p (x-1):=O.total _ _ c G;refine o1 l (by exact U7 (by assumption)) (by lia) (w.more u G) (by lia) (λi C I=>?_) λo m s a b E d e g=>k o m s a b (by lia) d e g;rw[show x+1-1=x by lia];rcases U6 i x with h|h
    ·rw[eq];exact z i (by lia) h
    ·obtain rfl:i=x:=by lia
     rfl
theorem zK{p:Array Nat}{m e:Nat}{Q:Nat×Array Nat->Prop}(h:c8 n p)(l:1<=m)(s:m<=e)(u:e<=n)(hs:dE O key p m)
  (k:∀f g,c8 n g->1<=f->f<=e->dO O key g f->Q (f,g)):tw n (ff O key) (kas_tail3 m e p) Q:=by
 have w:=h.size;unfold kas_tail3;refine j5 (xR (h.rev 0 m) l (by lia) (λi j o q=>?_) λf a b c _=>k f _ (h.rev 0 m) (by exact O4 (by assumption) (by assumption)) (by lia) c);rw[yq (by lia) (by lia),yq (by lia) (by lia),if_pos ⟨by exact O3 _,by lia⟩,if_pos ⟨by exact O3 _,by assumption⟩];exact hs _ _ (by lia) (by lia)
theorem oq{p:Array Nat}{m a:Nat}{Q:Nat×Array Nat->Prop}(w:c8 n p)(B:m+1<=a)(s:a<=n)(hs:dE O key p (m+1))
  (k:∀g f,c8 n f->1<=g->g<=a->dO O key f g->Q (g,f)):tw n (ff O key) (kas_descPart m a p) Q:=by
 unfold kas_descPart;refine j5 (o1 w (by lia) (by lia) hs (by lia) (λi A C=>by obtain rfl:i=m:=(by lia);rfl) λf x z c l E e G o=>?_);have H:=c.size;dsimp only
 by_cases q:z > 0
 ·rw[if_pos q];refine zK (c.rev _ _) l (by lia) s (λi j h u=>?_) k;rw[mG (by lia) o (by lia),mG (by lia) o (by lia)];exact e i j h u
 ·rw[if_neg q];exact zK c l (by lia) s e k
theorem DZ{p:Array Nat}{a:Nat}{Q:Nat×Array Nat->Prop}(h:c8 n p)(B:1<=a)(z:a<=n)
  (k:∀q s,c8 n s->1<=q->q<=a->dO O key s q->Q (q,s)):tw n (ff O key) (kas_count a p) Q:=by
 have C:=h.size;unfold kas_count;refine j5 (xR h (N2 1) (by lia) (λi j l u=>by obtain rfl:i=j:=(by lia);exact aj8 _) λm w E o A=>?_)
 by_cases e:m=a
 ·rw[if_pos (by simpa using e)];exact k m p h w (by lia) o
 ·rw[if_neg (by simpa using e)];have lt:O.klt (kp O key p m) (kp O key p (m-1)):=A.resolve_left (by lia)
  by_cases g:m > 1
  ·rw[if_pos g];refine⟨h.lt (by lia),h.lt (by lia),?_⟩;cases c:ff O key (p.getD 0 0) (p.getD (m-1) 0)with
   |true=>exact k m p h w (by lia) o
   |false =>
    simp only[N9,if_false];have f:∀i,0<=i->i<m->kp O key p i=kp O key p (m-1):=λi _ x =>
     ak3.kle_antisymm (o i (m-1) (by lia) (by lia)) (at1 (show O.kle (kp O key p (m-1)) (kp O key p 0)from c) (o 0 i (by assumption) x))
    have same:∀{i},i<n->kp O key (kas_rev p 0 m) i=kp O key p i:=λx=>mG (by lia) f (by lia);refine oq (h.rev _ _) (by lia) z (dE.more (λi j l u=>?_) w ?_) k
    ·rw[same (by lia),same (by lia),f i (by exact O3 _) (by lia),f j (by exact O3 _) u];exact aj8 _
    ·rw[same (by lia),same (by lia)];exact an9 lt
  ·rw[if_neg g];obtain rfl:m=1:=by lia
   refine oq h (by lia) z (dE.more (λi j l u=>by obtain rfl:i=j:=(by lia);exact aj8 _) (N2 1) (an9 lt)) k
theorem pF{p:Array Nat}(h:c8 n p){x:Nat}(m:x<n)(hs:dO O key p x):∀{f l r:Nat}{Q:Nat->Prop},l<=r->r<=x->r-l<=f ->
  (∀i,i<l->O.kle (kp O key p i) (kp O key p x))->(∀i,r<=i->i<x->O.klt (kp O key p x) (kp O key p i)) ->
  (∀e,e<=x->(∀i,i<e->O.kle (kp O key p i) (kp O key p x))->(∀i,e<=i->i<x->O.klt (kp O key p x) (kp O key p i))->Q e)->tw n (ff O key) (kas_place p x f l r) Q
 |0,l,r,Q,q,j,u,a,b,k=>by
  obtain rfl:l=r:=by lia
  exact k l j a b
 |f+1,l,r,Q,q,j,u,a,b,k=>by
  unfold kas_place
  by_cases g:l>=r
  ·rw[if_pos g];obtain rfl:l=r:=by lia
   exact k l j a b
  ·rw[if_neg g];refine⟨h.lt m,h.lt (by lia),?_⟩;cases c:ff O key (p.getD x 0) (p.getD ((l+r) / 2) 0)with
   |true =>
    simp only[if_true];exact pF h m hs (by lia) (by lia) (by lia) a (λi o s=>ak3.klt_of_klt_of_kle (show O.klt (kp O key p x) (kp O key p ((l+r) / 2))from c) (hs _ _ o s)) k
   |false =>
    simp only[N9,if_false];exact pF h m hs (by lia) (by assumption) (by lia) (λi w=>at1 (hs i ((l+r) / 2) (by lia) (by lia)) (show O.kle (kp O key p ((l+r) / 2)) (kp O key p x)from c)) b k
theorem BD:∀{f:Nat}{p:Array Nat}{x:Nat}{Q:Array Nat->Prop},c8 n p->1<=x->x+f<=n->dO O key p x->(∀g,c8 n g->dO O key g (x+f)->Q g)->tw n (ff O key) (kas_bin f p x) Q
 |0,p,x,Q,h,_,_,c,k=>k p h c
 |f+1,p,x,Q,h,w,B,c,k=>by
  have C:=h.size;refine j5 (pF h (by lia) c (O3 _) (N2 _) (by exact N2 _) (λi u=>by lia) (λi a b=>by lia) λl A lo u=>?_);refine BD (h.bub _ _) (by exact U7 (by assumption)) (by lia) (λi j m z=>?_) λg a b=>k g a (by rw[show x+(f+1)=x+1+f by lia];exact b);rw[D5 (by lia) (by lia) (by lia),D5 (by lia) (by lia) (by lia),show x-(x-l)=l by lia]
  by_cases q:i=l
  ·rw[if_pos q]
   by_cases e:j=l
   ·rw[if_pos e];exact aj8 _
   ·rw[if_neg e,if_pos (by lia)];exact an9 (u _ (by lia) (by lia))
  ·rw[if_neg q]
   by_cases s:l<i/\i<=x
   ·rw[if_pos s,if_neg (by lia),if_pos (by lia)];exact c _ _ (by lia) (by lia)
   ·rw[if_neg s]
    by_cases e:j=l
    ·rw[if_pos e];exact lo _ (by lia)
    ·rw[if_neg e]
     by_cases o:l<j/\j<=x
     ·rw[if_pos o];exact c _ _ (by lia) (by lia)
     ·rw[if_neg o];exact c _ _ m (by lia)
theorem Eg(h:1<=n){Q:Array Nat->Prop}(k:∀p,c8 n p->dO O key p n->Q p):tw n (ff O key) (kas_sort n) Q:=by
 have l:c8 n (List.toArray (Q0 n)):=av6.refl _;unfold kas_sort;refine j5 (DZ l h (N2 _) λm p f i o c=>?_);dsimp only
 by_cases g:m<n
 ·rw[if_pos g];have e:max m 1=m:=by lia
  rw[e];exact BD f i (by lia) c λj a b=>k j a (by rwa [show m+(n-m)=n by lia]at b)
 ·rw[if_neg g];obtain rfl:m=n:=by lia
  exact k p f c
end
end L2
namespace L2
open PySem PySem.W PySem.Calls PyProof.Rows
section
variable{prog:Q7}{w:U9}{A:S0}{E:M0->N1->Prop}{O:ak3}
noncomputable def jy(a:List M0)(p:Array Nat):List M0:=p.toList.map λi=>a.getD i X1
theorem ny{a:List M0}{p:Array Nat}(h:c8 a.length p):(jy a p).length=a.length:=by
 unfold jy;rw[s0,O8];exact h.size
def xn(x:O1)(s t:N1):Prop:=∀b o,b≠x->s.heap.get? b=some o->t.heap.get? b=some o
theorem C1{s:N1}{x:O1}{f:List M0}{n:Nat}{key:Nat->O.α}{κ:SortKind}{P:PySem.Fin->N1->Prop}(H:s.heap.get? x=some (aq9 "list" f.toArray n))(hz:f.length<64)
  (hk:∀l Q,2<=f.length->xn x s l->Q κ l->P6 (R4 prog w) A (keyKind' f.toArray) Q (λ_ _=>False) l)
  (hc:∀i j l C,i<f.length->j<f.length->xn x s l->C (ff O key i j) l->kas_ask prog w A κ f i j C l)
  (k:∀p c h',c8 f.length p->dO O key p f.length->(∀b o,b≠x->s.heap.get? b=some o->h'.get? b=some o)->h'.get? x=some (aq9 "list" (jy f p).toArray c)->P (.done (.ret .none)) { s with heap:=h' }) :
  P6 (R4 prog w) A (Q8.«list.sort» ⟨[.ref x],[]⟩) P E s:=by
 have lx:x<s.heap.objs.size:=P2 H;obtain⟨Y,R⟩:∃c,(s.heap.update x (aj5 λ_=>#[])).get? x=some (aq9 "list" #[] c):=⟨_,get?_update_seq H (λ_=>#[])⟩;rw[list_sort_plain];refine o0 (listItems_at H rfl (o0 (listUpdate_at H rfl (o0 (seqEpoch_at R rfl (o0 (wpAny_newTuple (o0 (wpAny_newList (W5 ?_) (O3 _))) ?_)))) ?_ (O3 _))))
 rotate_left
 ·show f.length<=_;rw[O7];lia
 ·rw[O0,O7];lia
 generalize U:((s.heap.update x (aj5 λ_=>#[])).push (aq9 "tuple" f.toArray 0)).push (aq9 "list" #[] 0)=h;show P6 _ A _ P E { s with heap:=h };have B:h.get? x=some (aq9 "list" #[] Y):=by
  rw[<-U];exact M7 _ (M7 _ R)
 have st:xn x s { s with heap:=h }:=λb o G e=>by
  show h.get? b=some o;rw[<-U];exact M7 _ (M7 _ (by rw[Q9.get?_update_ne _ _ _ _ G];exact e))
 have m:∀p,c8 f.length p->dO O key p f.length->P (.done (.ret .none)) { s with heap:=h.update x (aj5 λ_=>(jy f p).toArray) }:=λp I N =>
  k p _ _ I N (λb o G e=>by rw[Q9.get?_update_ne _ _ _ _ G];exact st b o G e) (get?_update_seq B λ_=>(jy f p).toArray)
 dsimp only
 by_cases g:f.toArray.size<2
 ·rw[if_pos g,if_pos g];refine o0 (M9 ?_);rw[StateT.run_pure];refine o0 (M9 ?_);dsimp only;have T:f.length<2:=by rw[O0]at g;exact g
  have L:(arrOf (SortSt.mk' general' (f.toArray.zip f.toArray) #[] 7 none)).map (·.2)=(jy f (List.toArray (Q0 f.length))).toArray:=by
   refine kat_snds rfl ?_;have e:=kas_range (f.toArray.zip f.toArray);have z0:(f.toArray.zip f.toArray).size=f.length:=by simp
   rw[z0]at e;exact e.symm
  rw[L];refine o0 (seqEpoch_at B rfl (o0 (listUpdate_at B rfl ?_ (O3 _) ?_)))
  ·simp only[failedOf,bne_self_eq_false,N9,if_false];exact M9 (m _ (av6.refl _) λi j a0 S=>by
    obtain rfl:i=j:=by lia
    exact aj8 _)
  ·rw[O0,ny (show c8 f.length (List.toArray (Q0 f.length))from av6.refl _),O7];lia
 ·rw[if_neg g,if_neg g];have two:2<=f.length:=by rw[O0]at g;lia
  refine o0 (X9 (hk { s with heap:=h } (λq t=>q=κ/\t=({ s with heap:=h }:N1)) two st ⟨rfl,rfl⟩) ?_ λ_ _ z=>z.elim);rintro Z _ ⟨ek,rfl⟩;rw[ek];have ask:(kas_sort f.length).kasWp (kas_ask prog w A κ f) (λp t=>t=({ s with heap:=h }:N1)/\c8 f.length p/\dO O key p f.length) { s with heap:=h } :=
   BL (J:=λt=>t=({ s with heap:=h }:N1)) (lt:=ff O key) (Q:=λp=>c8 f.length p/\dO O key p f.length) (λi j C t hi S M hC=>by subst M;exact hc i j _ C hi S st (hC _ rfl)) (λp t M hq=>⟨M,hq⟩) (Eg (by exact T8 (by assumption)) λp a b=>⟨a,b⟩) rfl
  refine o0 (X9 (kat_run (Q:=λu t=>∃p:Array Nat,arrOf u=p.map (kas_item (f.toArray.zip f.toArray))/\failedOf u=none/\t=({ s with heap:=h }:N1)/\c8 f.length p/\dO O key p f.length) rfl two hz (λp u t _ a2 X a4=>⟨p,a2,X,a4⟩) ask) ?_ λ_ _ z=>z);rintro⟨⟨⟩,u⟩ t ⟨p,ea,ef,rfl,I,N⟩;dsimp only;have L:(arrOf u).map (·.2)=(jy f p).toArray:=kat_snds rfl ea;rw[L];refine o0 (seqEpoch_at B rfl (o0 (listUpdate_at B rfl ?_ (O3 _) ?_)))
  ·rw[ef];simp only[bne_self_eq_false,N9,if_false];exact M9 (m p I N)
  ·rw[O0,ny I,O7];lia
end
section
variable{X:Cx}{y:List (O1×Obj)}{s:N1}{σ:St}{H:Hp}{M:DH}
theorem j7{a:List M0}{i:Nat}{v:M0}(h:a[i]?=some v):a.getD i X1=v:=by
 rw[S5,h];rfl
noncomputable def kp_(p:Array Nat)(i:Nat):Nat:=p.getD i 0
theorem t5{a:List V}{e:List M0}(c:aH a e):∀{l:List Nat},(∀i∈l,i<a.length)->aH (l.map λi=>a.getD i .non) (l.map λi=>e.getD i X1)
 |[],_=>.nil
 |i::l,h=>by
  have f:=h i (.head _);obtain⟨u,g,r⟩:=c.get (N0 f);rw[N5,N5];refine .cons ?_ (t5 c λj m=>h j (.tail _ m));rw[j7 g,S5,N0 f];exact r
end
end L2
namespace L2
open PySem PySem.Spec PyProof.Rows
theorem Hv{X:Cx}{c:Pos}:QEd X (.Dict [] [] c) dDT:=by
 simp only[QEd.eq]at *
 exact PE.conv Cb λh H Q a=>a.el λi M R g f q k=>λp e =>
  k _ _ _ _ (q p (f.fresh e)) (Ext.own e) (f.put (Ext.own e) ⟨[],aO,.nil⟩) (by simp only[Rep])
theorem E8{X:Cx}{a:R6}{b:R6}{A:TEd}{m:TEd}{l:Pos}(ha:QEd X a A)(P:QEd X b m):QEd X (.Dict [some a] [b] l) (CO A m):=by
 simp only[QEd.eq]at *
 exact PE.conv (EM (CV ha P Fn) rfl rfl (by simp) (by simp)) λU H Q h=>h.el λw M R n z q k=>λp C=>by
   have f:Ext M H (ay M p (.dK [])) (upd H p (.dK [])):=Ext.own C;refine⟨w,_,_,n.ext f,z.put f ⟨[],aO,.nil⟩,q p (z.fresh C),λx M1 v T L B g G=>⟨w,M1,_,(n.ext f).ext B,g,L,λy M2 u s ⟨e,O,o,J⟩ S c E=>?_⟩⟩;obtain⟨Y,I,N⟩:=c p _ o;cases N;subst O;refine⟨I,[(e,u)],?_,by simp,?_⟩
   ·rw[qg G];rfl
   ·have i:lF [] [(e,u)]=[(e,u)]:=by simp[lF,fu]
    rw[i];have j:Ext M2 s (ay M2 p (.dK [(e,y)])) (upd s p (.dK [(e,u)])):=Ext.write o;exact k _ _ _ _ J ((f.trans (B.trans S)).trans j) (c.put j ⟨_,aO,.cons ⟨rfl,E.ext j⟩ .nil⟩) (by simp only[Rep])
theorem Ks{X:Cx}{o:R6}{es:List R6}{g:TEd}{t:TAd}{c:Pos}(a:Bool){x1}{p:Pos}{e:ay2}(f:e=(if a then .NotIn else .In))(l:X.A.units+1<af7)(j:QAd X es t)(h:QEd X o g)(i:ae6 e o=false):QEd X (.Compare (.Tuple es x1 p) [e] [o] c) (FL a t g):=by
 simp only[QEd.eq,QAd.eq]at *
 exact PE.conv (JD (D8 f l (pM j) h) i) xA
theorem CA{X:Cx}{o:R6}{es:List R6}{g:TEd}{t:TAd}{c:Pos}(a:Bool){x1}{p:Pos}{e:ay2}(f:e=(if a then .NotIn else .In))(l:X.A.units+1<af7)(j:QAd X es t)(h:QEd X o g)(i:ae6 e o=false):QTd X (.Compare (.Tuple es x1 p) [e] [o] c) (rS (FL a t g)):=by
 simp only[QEd.eq,QAd.eq,QTd.eq]at *
 exact PT.conv (Hl (D8 f l (pM j) h) i) (L4 xA)
theorem Dl{X:Cx}{e:R6}{o:R6}{i:R6}{te:TEd}{J:TEd}{P:TEd}{f:Pos}{p:Pos}(hu:X.A.units+1<af7)(T:QEd X o J)(hi:QEd X i P)(he:QEd X e te)(hs:ai1 e (some (.Subscript o i p)) f.line X.env=al5 false:=by rfl):QSd X (.Assign [.Subscript o i p] e f) (Ac J P te):=by
 simp only[QEd.eq,QSd.eq]at *
 exact PS.conv (uk hu T hi he hs) λD Y H n=>n.el λj M E g hr q k=>⟨j,M,_,g,hr,q,λd M1 v H1 R m z rv=>⟨j,M1,_,g.ext m,z,R,λx M2 u H2 q2 h C O=>⟨j,M2,_,(g.ext m).ext h,C,q2,λy I w Q ⟨a,s,A,U,N,ey,hz,S⟩ G c B=>by
   subst U;subst ey;simp only[Rep]at O;subst O;obtain⟨Z,h3,L⟩:=c a _ N;have l:Ext I Q (ay I a (.dK (gV s A d))) (upd Q a (.dK (fu Z A v))):=Ext.write N;refine⟨a,_,rfl,by rw[qg B];exact uK.k h3 (by rw[<-L.length];exact hz),?_⟩;exact k.nx j _ Y _ S (((m.trans h).trans G).trans l) (c.put l ⟨_,aO,(L.put A ((rv.ext h).ext G)).ext l⟩) ((((g.ext m).ext h).ext G).ext l)⟩⟩⟩
theorem BS{X:Cx}{e:R6}{o:R6}{es:List R6}{te:TEd}{P:TEd}{t:TAd}{h:Pos}{x1}{p U:Pos}(hu:X.A.units+1<af7)(ho:QEd X o P)(ht:QAd X es t)(he:QEd X e te)(hs:ai1 e (some (.Subscript o (.Tuple es x1 U) p)) h.line X.env=al5 false:=by rfl):QSd X (.Assign [.Subscript o (.Tuple es x1 U) p] e h) (Gw P t te):=by
 simp only[QEd.eq,QAd.eq,QSd.eq]at *
 exact PS.conv (uk hu ho (pM ht) he hs) λD σ H A=>A.el λn M E l hr q k=>⟨n,M,_,l,hr,q,λd M1 v H1 Z z G rv=>⟨n,M1,_,l.ext z,G,Z,λx M2 u H2 q2 m L T=>⟨n,M2,_,(l.ext z).ext m,L,q2,λds j f i ⟨hl,a,C,I,ex,S,ey,hz,q3⟩ O c g=>by
   subst ex;subst ey;simp only[Rep]at T;subst T;refine⟨by rw[<-g.length];exact hl,λp N=>?_⟩;obtain⟨R,Y,Q⟩:=c a _ S;have B:a≠p:=cR Y N;have s:Ext j i j (upd i p (.tup f)):=Ext.new c N;have J:=c.new (o:=.tup f) N;have w:Ext j (upd i p (.tup f)) (ay j a (.dT (gV C I d))) (upd (upd i p (.tup f)) a (.dT (fu R I v))):=Ext.write S;have h4:upd i p (.tup f) a=some (.dT R):=by rw[aX B];exact Y
   refine⟨a,_,rfl,uK.t h4 (by rw[aO,lU g]) (by rw[<-Q.length];exact hz),?_⟩;exact k.nx n _ σ _ q3 ((((z.trans m).trans O).trans s).trans w) (J.put w ⟨_,aO,((Q.ext s).put I (((rv.ext m).ext O).ext s)).ext w⟩) (((((l.ext z).ext m).ext O).ext s).ext w)⟩⟩⟩
theorem zt{X:Cx}{a:R6}{b:R6}{c:R6}{u:Pos}{O:R6}{A:TAd}{p:Pos}(hg:Gl X "range")(B:X.mg "range"=none)(ha:QAd X [a,b,c] A)(hs:O5 [a,b,c] X.env=[(false,af8 a X.env),(false,af8 b X.env),(false,af8 c X.env)]:=by rfl)
  (g:O5 [b,c] X.env=[(false,af8 b X.env),(false,af8 c X.env)]:=by rfl):QId X O (.Call (.Name "range" p) [a,b,c] [] u) (DL A):=by
 simp only[QAd.eq,QId.eq]at *
 exact(Ar hg B ha hs g).conv λU H R f=>f.el λN M Y G S q k=>⟨N,M,_,G,S,q,λT M1 Z P ⟨i,j,st,L,E,e,C⟩ Q h J=>by
   subst L;obtain⟨v,w,z,I,x,o,m⟩:=J.three;have s:v=.int i:=by simpa only[Rep]using x
   have n:w=.int j:=by simpa only[Rep]using o
   have l:z=.int st:=by simpa only[Rep]using m
   subst s;subst n;subst l;subst I;exact⟨i,j,st,rfl,by lia,⟨e.1,e.2.1,e.2.2.1,e.2.2.2,by lia,by lia⟩,A6 E e.1 e.2.1 e.2.2.1 e.2.2.2,k _ M1 _ P C Q h FE⟩⟩
theorem cQ.units1{k:Nat}{A:S0}(r:cQ k A):A.units+1<af7:=by have:=r.un;lia
theorem JS{i:Int}{P:Key->Prop}:(∃k,D.int i=kD k/\P k)↔P (.inl i) :=
 ⟨λ⟨k,e,h⟩=>match k,e with|.inl _,rfl=>h,λh=>⟨_,rfl,h⟩⟩
theorem JE{x:Str}{P:Key->Prop}:(∃k,D.str x=kD k/\P k)↔P (.inr x) :=
 ⟨λ⟨k,e,h⟩=>match k,e with|.inr _,rfl=>h,λh=>⟨_,rfl,h⟩⟩
theorem IA:∀{a b:Key},kD a=kD b->a=b
 |.inl _,.inl _,h=>by cases h;rfl
 |.inr _,.inr _,h=>by cases h;rfl
 |.inl _,.inr _,h=>by cases h
 |.inr _,.inl _,h=>by cases h
theorem zP:∀{a b:List Key},a.map kD=b.map kD->a=b
 |[],[],_=>rfl
 |[],_::_,h=>by cases h
 |_::_,[],h=>by cases h
 |x::e,y::c,h=>by
  simp only[N5,af5]at h;rw[IA h.1,zP h.2]
theorem GB{a b:Key}{P:List Key->Prop}:(∃ks:List Key,[kD a,kD b]=ks.map kD/\P ks)↔P [a,b] :=
 ⟨λ⟨ks,e,h⟩=>by rw[zP (a:=[a,b]) (b:=ks) (by simpa using e)];exact h,λh=>⟨_,rfl,h⟩⟩
theorem Hy{i j:Int}{P:List Key->Prop}:(∃ks:List Key,[D.int i,D.int j]=ks.map kD/\P ks)↔P [.inl i,.inl j]:=GB (a:=.inl i) (b:=.inl j)
theorem Hm{i j:Str}{P:List Key->Prop}:(∃ks:List Key,[D.str i,D.str j]=ks.map kD/\P ks)↔P [.inr i,.inr j]:=GB (a:=.inr i) (b:=.inr j)
abbrev BKd:=DE->DH->List D->(List D->DE->DH->Prop)->Prop
def jV(g:GD)(tc:TTd)(B:BKd):List D->DE->DH->List D->(List D->DE->DH->Prop)->Prop
 |[],h,M,a,Q=>Q a h M
 |d::i,h,M,a,Q=>∃ c,g d h=some c/\tc c M λb M1=>if b=true then B c M1 a λe f M2=>e.length<=N7/\jV g tc B i f M2 e Q else jV g tc B i c M1 a Q
def jS(te:TEd):BKd:=λc M a Q=>te c M λy M2=>Q (a++[y]) c M2
def fI(wi:TId)(g:GD)(tc:TTd)(B:BKd):BKd:=λc M a Q=>wi c M λe M2=>jV g tc B e c M2 a Q
def upB(K:u8)(b:BKd):BK:=λm l H Z=>∃(j:DE) (M:DH) (c:List D) (R:List D->DE->DH->Prop),SR K M H l j/\HR K M H/\aw K M H c m/\c.length<=N7/\b j M c R /\
 ∀a e f g h i,R a e f->Ext M H f i->HR K f i->SR K f i h e->aw K f i a g->Z g h i
section
variable{K:u8}{g:GD}{y:TG}{tc:TTd}{te:TEd}{wi:TId}{Bd:BKd}{B:BK}
theorem uq{e:List V}{σ:St}{H:Hp}{Z:List V->St->Hp->Prop}(h:upB K (jS te) e σ H Z):mJ (up K te) e σ H Z:=by
 obtain⟨l,M,m,R,f,n,j,_,q,k⟩:=h;exact⟨l,M,_,f,n,q,λd o v p i c a g=>k _ _ _ _ _ _ i c a (f.ext c) ((j.ext c).append (aw.cons g aw.nil))⟩
theorem zu(kg:qV K g y)(hB:∀{M σ H Z},upB K Bd M σ H Z->B M σ H Z){J:It}{es:List D}{u:DH}{x:Hp}(a1:ItD K J es u x)(a8:HR K u x){Δ:DE}{o:List D}{R:List D->DE->DH->Prop}{M:List V}{σ:St}{Z:List V->St->Hp->Prop}
  (sr:SR K u x σ Δ) (ra:aw K u x o M) (la:o.length<=N7) (q:jV g tc Bd es Δ u o R)
  (k:∀a c f l i h,R a c f->Ext u x f h->HR K f h->SR K f h i c->aw K f h a l->Z l i h) :
  ∃W:Nat->Nat->List V->St->Hp->Prop,(∃m,W 0 m M σ x)/\nI J y (upT K tc) B W Z:=by
 refine⟨λj m l i h=>∃ c f a,m=es.length-j/\j<=es.length/\Ext u x f h/\HR K f h/\SR K f h i c/\aw K f h a l/\a.length<=N7/\jV g tc Bd (es.drop j) c f a R,
  ⟨es.length,Δ,u,o,by simp,O3 _,Ext.refl _ _,a8,sr,ra,la,q⟩,?_⟩
 rintro j m l a2 H6 ⟨a9,X,s,rfl,hj,P,G,N,n,A,E⟩;refine⟨by rw[<-n.length];exact A,?_⟩;obtain⟨Y,z⟩:=a1 X H6 P G j
 by_cases e:j<es.length
 ·have a5:es[j]?=some es[j]:=by simp[e]
  obtain⟨g2,y2⟩:=Y _ a5;rw[T5 e]at E;simp only[jV]at E;obtain⟨p,a4,f7⟩:=E;refine .inr ⟨g2,λx7 H7 T=>?_⟩;obtain⟨I,L,U⟩:=y2 x7 H7 T;refine kg _ x7 a2 a9 p X H7 _ (N.ext I) L U a4 λb0 w=>?_;refine⟨p,X,_,w,L,f7,λb M8 H8 Q C O=>?_⟩;cases b with
  |true =>
   simp only[if_true]at Q ⊢;refine hB ⟨p,M8,s,_,w.ext C,O,(n.ext I).ext C,A,Q,?_⟩;rintro a c f a' i h ⟨S,q9⟩ e9 a6 a0 a3;exact⟨es.length-(j+1),by lia,c,f,a,rfl,e,((P.trans I).trans C).trans e9,a6,a0,a3,S,q9⟩
  |false =>
   simp only[N9,if_false]at Q ⊢;exact⟨es.length-(j+1),by lia,p,M8,s,rfl,e,(P.trans I).trans C,O,w.ext C,(n.ext I).ext C,A,Q⟩
 ·rw[Z8 (by lia)]at E;simp only[jV]at E;exact .inl ⟨z (by lia),k _ _ _ _ _ _ E P G N n⟩
theorem me(A:qV K g y)(E:∀{a σ H Z},upB K Bd a σ H Z->B a σ H Z){a:List V}{σ:St}{H:Hp}{Z:List V->St->Hp->Prop}(h:upB K (fI wi g tc Bd) a σ H Z):rK (upI K wi) y (upT K tc) B a σ H Z:=by
 obtain⟨s,M,z,R,i,G,o,j,q,k⟩:=h;exact⟨s,M,_,i,G,q,λN M2 J L C c f e=>zu A E e f (i.ext c) (o.ext c) j C λw x l p u I m n=>k w x l p u I m (c.trans n)⟩
end
def B8(ms:List Bool)(k:Nat)(g:TId)(e:GD)(a:TTd)(B:BKd):TEd:=λc M Q=>g c M λf M1=>jV e a B f (i4 ms k c) M1 [] λh _ M2=>Q (.lst h) M2
theorem qQ{K:u8}{A:TId}{z:GD}{j:TTd}{h:TG}{Bd:BKd}{B:BK}{ms:List Bool}{n:Nat}(N:qV K z h)(U:∀{l σ H Z},upB K Bd l σ H Z->B l σ H Z):∀ σ H Q,up K (B8 ms n A z j Bd) σ H Q->EK ms n (upI K A) h (upT K j) B σ H Q:=by
 rintro σ H Q ⟨S,M,R,C,Y,q,k⟩;refine⟨S,M,_,C,Y,q,λds M1 J X G E o O=>?_⟩;obtain⟨W,L,P⟩:=zu (Z:=λi _ f=>∃c e,Ext M1 X c f/\HR K c f/\aw K c f e i/\R (.lst e) c) N U O o ((C.ext E).comp ms n) aw.nil (O3 _) G
  (λg T c i s f w u a _ x=>⟨c,g,u,a,x,w⟩)
 refine⟨W,_,L,P,?_⟩;rintro l s f p ⟨c,e,u,a,I,w⟩ m;refine k _ c _ _ w ((E.trans u).trans (Ext.new a m)) (a.new m) ?_;simp only[Rep];exact⟨p,l,rfl,⟨aO,a.fresh m⟩,I.ext (Ext.new a m)⟩
noncomputable abbrev Mt(e f j l h:R6)(i g:List R6)(a:am0)(c:Pos):R6:=.ListComp e [⟨f,j,i,0⟩,⟨l,h,g,0⟩] a c
def FM(ms:List Bool)(k:Nat)(e:TId)(c:GD)(a:TTd)(wi:TId)(g:GD)(tc:TTd)(te:TEd):TEd:=B8 ms k e c a (fI wi g tc (jS te))
section
variable{X:Cx}{y:am0}{z:List (Str×O1)}{ms:List Bool}{ar:List Str}{G t0 i0 L I:R6}{f0 f1:List R6}{Y:Pos}
theorem HU{w1:TI}{i:TG}{tc1:TT}{te:TE}(h:∀C s H a,PI (aL X y z (X.N++ar) C s H a) L I w1)(g:∀C s H a,PG (aL X y z (X.N++ar) C s H a) L i)(e:∀C s H a,PIf (aL X y z (X.N++ar) C s H a) f1 tc1)(he:∀C s H a,PE (aL X y z (X.N++ar) C s H a) G te)
  (f:∀C x,T0 I (aw0 y z C X.env) x=al5 x):LvC X y z ar (lcE G [⟨t0,i0,f0,0⟩,⟨L,I,f1,0⟩] y Y) i0.pos t0 f0 (rK w1 i tc1 (mJ te)):=λ_ _ _ _ _ c =>
 mw c (o8 (k:=1) (p:=I.pos) c (he _ _ _ _) λ_ _ _=>rfl) (λ_ _ _=>rfl) (f _) (h _ _ _ _) (g _ _ _ _) (e _ _ _ _) λ_ _ _=>rfl
end
@[irreducible] def F7(t:TSd):TSd:=t
theorem zk{t:TSd}:F7 t=t:=by unfold F7;rfl
theorem bL{t:TSd}{E:fZ}{a:DE}{M:DH}(h:t E a M):F7 t E a M:=by rw[zk];exact h
theorem dn{X:Cx}{st:List af0}{t:TSd}(h:QSs X st t):QSs X st (F7 t):=by rw[zk];exact h
theorem Do{K:Params->u8}{E:List O1}{n t:Nat}{q:Q7}{g:List Str}{Q:(Str->Option M0)->Q9->Prop}{r:PySem.W.RowW}{d:DefRec}{i:List (Str×R6)}{run:M0->List M0->Sem M0}(hk:∀P,E=(K P).map (·.1))
  (h:PySem.W.WalkO q g Q (λw h=>(K w.params).In h) r d i run):PySem.W.WalkX q g Q (PySem.W.X.obsZ E) (PySem.W.X.valZ K n t) r d i run:=by
 intro w f m mg mb G y a o T cd C dV kV Y X B U J S x A H L j s O M N;refine h w f m mg mb G (λb u Z=>L.keeps b u ?_) a o T cd C dV kV Y X B U J S x A H j s O M N;have R:E.map f.heap.get?=(K w.params).map λp=>some p.2:=congrArg (·.1) y;rw[hk w.params,P9]at R;have I:∀(l:u8),(l.map λp=>f.heap.get? p.1)=l.map (λp=>some p.2)->ai7 b l=some u->f.heap.get? b=some u:=by
  intro l
  induction l with
  |nil=>intro _ z;cases z
  |cons p l ih =>
   intro e z;rw[N5,N5,af5]at e;rw[V3]at z
   by_cases c:b=p.1
   ·subst c;rw[beq_self_eq_true]at z;cases z;exact e.1
   ·rw[beq_eq_false_iff_ne.mpr c]at z;exact ih e.2 z
 exact I _ R Z
end L2
namespace L2
open PySem PySem.W PySem.Calls PyProof.Rows
section
variable{prog:Q7}{w:U9}{A:S0}{E:M0->N1->Prop}{O:ak3}
theorem Ao{T:String}{o:Obj}{n:Nat}{s:N1}{l:O1}{f:List M0}{key:Nat->O.α}{κ:SortKind}{Q:M0->N1->Prop}(hT:T="list"∨T="tuple")(hg:s.heap.get? l=some o)(L:o.cls=.type T)(P:o.data=.seq f.toArray n)(X:f.length<64)
  (U:∀h Q,2<=f.length->(∀b o,s.heap.get? b=some o->h.heap.get? b=some o)->Q κ h->P6 (R4 prog w) A.in1.in1 (keyKind' f.toArray) Q (λ_ _=>False) h)
  (S:∀i j h C,i<f.length->j<f.length->(∀b o,s.heap.get? b=some o->h.heap.get? b=some o)->C (ff O key i j) h->kas_ask prog w A.in1.in1 κ f i j C h)
  (k:∀(a:Q9) p x c h',(∀b o,s.heap.get? b=some o->a.get? b=some o)->c8 f.length p->dO O key p f.length->a.objs.size<=x->(∀b o,a.get? b=some o->h'.get? b=some o)->h'.get? x=some (aq9 "list" (jy f p).toArray c)->Q (.ref x) { s with heap:=h' }) :
  P6 (R4 prog w) A (call (.builtin "sorted") [.ref l]) Q E s:=by
 refine call_function_entry kind_sorted plain_sorted entry_sorted (args_sorted1 _) ?_;unfold Q8.«sorted»;refine o0 (m:=checkCount "sorted" 1 1 _) (M9 ?_);have G:f.length<=N7:=by rw[O7];lia
 refine o0 (wpAny_collect_seq l hT hg L P (λa B=>o0 (wpAny_newList ?_ G)) (by simpa using G));have H:∀b o,a.get? b=some o->(a.push (aq9 "list" f.toArray 0)).get? b=some o:=λb o e=>by
  rw[Q9.get?_push_ne _ _ _ (P8 (P2 e))];exact e
 have J:∀b o,s.heap.get? b=some o->(a.push (aq9 "list" f.toArray 0)).get? b=some o:=λb o e=>H b o (B b o e);have new:(a.push (aq9 "list" f.toArray 0)).get? a.objs.size=some (aq9 "list" f.toArray 0):=N6 _ rfl;have g:a.get? a.objs.size=none:=Q9.get?_none_of_le (N2 _);have I:s.heap.get? a.objs.size=none:=by
  cases e:s.heap.get? a.objs.size with
  |none=>rfl
  |some u=>rw[B _ _ e]at g;cases g
 show P6 _ _ _ _ _ { s with heap:=a.push (aq9 "list" f.toArray 0) };have N:∀(t:N1),xn a.objs.size { s with heap:=a.push (aq9 "list" f.toArray 0) } t->∀b o,s.heap.get? b=some o->t.heap.get? b=some o:=λt z b o e=>z b o (λq=>by rw[q,I]at e;cases e) (J b o e);have M:∀(t:N1),xn a.objs.size { s with heap:=a.push (aq9 "list" f.toArray 0) } t->∀b o,a.get? b=some o->t.heap.get? b=some o:=λt z b o e=>z b o (λq=>by rw[q,g]at e;cases e) (H b o e);refine o0 (W5 (U3 slot_list_sort ⟨_,new,rfl⟩ entry_list_sort ?_ (args_list_sort _)));refine C1 (κ:=κ) (key:=key) new X (λt Q' two z q=>U t Q' two (N t z) q) (λi j t C hi R z q=>S i j t C hi R (N t z) q) λp c h' hp Z hs Y=>?_;refine⟨_,rfl,M9 ⟨_,rfl,?_⟩⟩;exact k a p _ c h' B hp Z (N2 _) (λb o e=>M { s with heap:=h' } hs b o e) Y
end
end L2
namespace L2
open PySem PySem.Spec PyProof.Rows
section
variable{X:Cx}{y:am0}{z:List (Str×O1)}{ms:List Bool}{ar:List Str}{G L Y t1 i1:R6}{f0 f1:List R6}{I:Pos}
theorem pW{i:Nat}{x:Str}{a c:Pos}{N wi:TId}{J g:GD}{e tc:TTd}{te:TEd}(hN:X.N.Nodup)(n:X.N[i]?=some x)(Z:X.env.scope.names.lookup x=some .local)
  (w:ai1 (.ListComp G [⟨L,Y,f0,0⟩,⟨t1,i1,f1,0⟩] y I) (some (.Name x c)) a.line X.env=al5 true) (S:eP X y z ms ar) (eD:X.calm=true) (hi:QId X L Y N) (u:PGa X y z ar L J)
  (j:∀C s H f,QIf (aL X y z (X.N++ar) C s H f) f0 e) (p:∀C s H f,QId (aL X y z (X.N++ar) C s H f) t1 i1 wi) (hg:PGa X y z ar t1 g) (l:∀C s H f,QIf (aL X y z (X.N++ar) C s H f) f1 tc) (he:∀C s H f,QEd (aL X y z (X.N++ar) C s H f) G te)
  (hs:∀x,T0 Y X.env x=al5 x:=by intro _;rfl) (o:∀C x,T0 i1 (aw0 y z C X.env) x=al5 x:=by intro _ _;rfl):QSd X (.Assign [.Name x c] (.ListComp G [⟨L,Y,f0,0⟩,⟨t1,i1,f1,0⟩] y I) a) (mR i (FM ms ar.length N J e wi g tc te)):=by
 simp only[QEd.eq,QSd.eq,QId.eq,QIf.eq]at *
 obtain⟨Q,A,B⟩:=u;obtain⟨gv,pg,kg⟩:=hg;refine(kh (tc:=upT X.K e) hN n Z w S eD hi A j (HU (w1:=upI X.K wi) (tc1:=upT X.K tc) (te:=up X.K te) p pg l he o) hs).conv λD σ H hh=>?_;obtain⟨T,M,E,O,hr,q,k⟩:=hh;unfold mR FM at q;exact qQ B (λh=>me kg uq h) σ H _ ⟨T,M,_,O,hr,q,λd M1 v U q1 P m R=>k.nx _ M1 _ U q1 P m ((O.ext P).set i R)⟩
end
section
variable{X:Cx}
end
theorem rE{prog:Q7}{w:U9}{A:S0}{E:M0->N1->Prop}{s:N1}{it d:O1}{i ep:Nat}{es:Array as2}{od:Obj}{ok Y:M0}{Q:Option M0->N1->Prop}
  (n:ar5 s.heap it d i es.size ep ok Y) (P:s.heap.get? d=some od) (U:od.data=.dict es ep) (X:i<es.size)
  (hQ:∀ h':Q9,IsItemIterOut h' it d (i + 1) es.size ep es[i].key es[i].val s.heap.objs.size → h'.get? s.heap.objs.size = some { cls:=aa0 "tuple",data:=av9 #[es[i].key,es[i].val] } → h'.objs.size = s.heap.objs.size + 1 →
   (∀b o,b≠it->s.heap.get? b=some o->h'.get? b=some o)->Q (some (U4 s.heap.objs.size)) { s with heap:=h' }):P6 (R4 prog w) A (as1 (U4 it)) Q E s:=by
 obtain⟨R,g,dr,tk,os⟩:=s;dsimp only at n P hQ;have T:aq3 { heap:=R,gens:=g,drawn:=dr,toks:=tk,os:=os } (U4 it) "dict_itemiterator":=⟨_,n,rfl⟩;refine o0 (aq4 (V6 T ac2 (U3 ac2 T F.entry_dict_itemiterator_next ?_)));refine o0 (M9 (o0 (o0 (o0 (af6 T (M9 (o0 (ao5 n rfl ?_))))))));have S:ac9 "dict_itemiterator"=true:=by decide
 simp only[S,if_true,List.drop_succ_cons,ao6,List.take_succ_cons,av2];refine aj9 (Eq.refl (decide ((U4 d==X1)=true))) ?_;refine o0 (M9 (o0 (wpAny_dictEntries P U ?_)));refine aj9 (by simp) ?_;refine o0 (M9 (o0 (wpAny_dictEpoch P U ?_)));refine aj9 (by simp) (M9 ?_);have Z:(if((i:Nat):Int)<0 then none else es[((i:Nat):Int).toNat]?)=some es[i]:=by
  rw[if_neg (by lia),U2,R9 X]
 simp only[Z];refine o0 (o0 (af6 T (M9 (o0 (wpAny_isOneOf_itemiter T ?_)))));refine o0 ?_;refine am6 (k:=3) (x:=aw7 ((i:Int)+1) 0) n (by simp) λa c p=>?_;have c:ar5 a it d (i+1) es.size ep ok Y:=by
  show a.get? it=_;rw[c];simp
 have u:aq3 { heap:=a,gens:=g,drawn:=dr,toks:=tk,os:=os } (U4 it) "dict_itemiterator":=⟨_,c,rfl⟩;refine o0 (W5 ?_);refine o0 (wpAny_isOneOf_itemiter u ?_);refine o0 (wpAny_isOneOf_itemiter u ?_);refine o0 (wpAny_newTuple ?_);dsimp only;have B:a.objs.size=R.objs.size:=p.1;have L:∀b o,b≠it->R.get? b=some o->a.get? b=some o:=λb o G e=>p.extBut b o G e;have f:ar5 (a.push { cls:=aa0 "tuple",data:=av9 #[es[i].key,es[i].val] }) it d (i+1) es.size ep ok Y:=M7 _ c;have q:(a.push { cls:=aa0 "tuple",data:=av9 #[es[i].key,es[i].val] }).get? a.objs.size=some { cls:=aa0 "tuple",data:=av9 #[es[i].key,es[i].val] }:=N6 _ rfl;have M:∀b o,b≠it->R.get? b=some o->(a.push { cls:=aa0 "tuple",data:=av9 #[es[i].key,es[i].val] }).get? b=some o:=λb o G e=>M7 _ (L b o G e);have a0:(a.push { cls:=aa0 "tuple",data:=av9 #[es[i].key,es[i].val] }).objs.size=R.objs.size+1:=by rw[W1,B]
 rw[B]at q ⊢;generalize a.push { cls:=aa0 "tuple",data:=av9 #[es[i].key,es[i].val] }=a1 at *
 have C:R.objs.size≠it:=λz=>by
  have h0:it<R.objs.size:=P2 n;rw[z]at h0;exact ai0 _ h0
 refine o0 ?_;refine o0 (ai9 f rfl rfl (M9 ?_));refine wpAny_ite_true (Eq.refl (decide (true=true))) ?_;refine o0 (ai9 f rfl rfl (o0 (ai9 f rfl rfl ?_)));refine o0 (am6 f (by simp) λa4 J j=>?_);refine o0 (am6 J (by simp) λa2 I l=>?_);refine o0 (am6 I (by simp) λa3 N h=>?_);refine o0 (am6 N (by simp) λH O m=>?_);refine o0 (wpAny_letGo (M9 (M9 ⟨_,rfl,M9 ?_⟩)));refine hQ H ?_ ?_ ?_ λb o G e=>?_
 ·show H.get? it=_;rw[O];simp
 ·exact m.extBut _ _ C (h.extBut _ _ C (l.extBut _ _ C (j.extBut _ _ C q)))
 ·have Z:=j.1;have e2:=l.1;have e3:=h.1;have e4:=m.1;dsimp only at Z e2 e3 e4
  lia
 ·exact m.extBut _ _ G (h.extBut _ _ G (l.extBut _ _ G (j.extBut _ _ G (M b o G e))))
theorem jD{prog:Q7}{w:U9}{A:S0}{E:M0->N1->Prop}{s:N1}{it d:O1}{i ep:Nat}{es:Array as2}{od:Obj}{ok n:M0}{Q:Option M0->N1->Prop}
  (o:A.handled=none) (a:ar5 s.heap it d i es.size ep ok n) (e:s.heap.get? d=some od) (f:od.data=.dict es ep) (l:es.size<=i)
  (m:∀h':Q9,aw2 it s.heap h'->Q none { s with heap:=h' }):P6 (R4 prog w) A (as1 (U4 it)) Q E s:=by
 obtain⟨h,g,q,p,os⟩:=s;dsimp only at a e m;have j:aq3 { heap:=h,gens:=g,drawn:=q,toks:=p,os:=os } (U4 it) "dict_itemiterator":=⟨_,a,rfl⟩;refine o0 (aq4 (V6 j ac2 (U3 ac2 j F.entry_dict_itemiterator_next ?_)));refine o0 (M9 (o0 (o0 (o0 (af6 j (M9 (o0 (ao5 a rfl ?_))))))));have c:ac9 "dict_itemiterator"=true:=by decide
 simp only[c,if_true,List.drop_succ_cons,ao6,List.take_succ_cons,av2];refine aj9 (Eq.refl (decide ((U4 d==X1)=true))) ?_;refine o0 (M9 (o0 (wpAny_dictEntries e f ?_)));refine aj9 (by simp) ?_;refine o0 (M9 (o0 (wpAny_dictEpoch e f ?_)));refine aj9 (by simp) (M9 ?_);have u:(if((i:Nat):Int)<0 then none else es[((i:Nat):Int).toNat]?)=none:=by
  rw[if_neg (by lia),U2,Array.getElem?_eq_none l]
 simp only[u];refine o0 (o0 (af6 j (M9 ?_)));refine o0 (ag6 a rfl (by simp[c]) ?_);dsimp only;have kp:aw2 it h (h.update it (ao0 λx=>x.setIfInBounds (if ac9 "dict_itemiterator"=true then 2 else 0) X1)):=(U8 h it _).extBut;generalize h.update it (ao0 λx=>x.setIfInBounds (if ac9 "dict_itemiterator"=true then 2 else 0) X1)=z at kp;refine o0 ?_;unfold newExc;refine o0 (S3 ?_ (show(#[]:Array M0).size<=_ by simp));refine o0 (au4 (Eq.refl (al9 (aa0 "StopIteration") [])) ?_);refine S3 ?_ (sizeOk_excFields _ _ _ _ _ _ _ _);refine wpAny_raiseNew_none o ?_;refine o0 (ao8 (T:="StopIteration") (b:=true) ⟨_,N6 _ rfl,rfl⟩ rfl ?_);refine wpAny_ite_true (Eq.refl (decide (true=true))) (M9 ?_);exact m _ ((kp.push _).push _)
theorem qt{prog:Q7}{w:U9}{A:S0}{E:M0->N1->Prop}{s:N1}{d:O1}{od:Obj}{es:Array as2}{ep:Nat}{Q:M0->N1->Prop}
  (hs:(d==aj3)=false) (c:s.heap.get? d=some od) (h:od.ExactDict) (g:od.data=.dict es ep) 
  (f:Q (.ref s.heap.objs.size) { s with heap:=s.heap.push { cls:=.type "dict_items",data:=.fields #[.ref d] } }):P6 (R4 prog w) A (call (.builtin "dict.items") [.ref d]) Q E s:=by
 have e:s.TypeIs (.ref d) "dict":=⟨_,c,h.1⟩;refine U3 F.slot_dict_items e F.entry_dict_items ?_ (F.args_dict_items_1 _);refine o0 ?_;show P6 _ _ (Bind.bind _ _) _ _ _;refine o0 (wpAny_notOrdered_dict e ?_);refine M9 ?_;show P6 _ _ (do Q8.Dict.showsAll d;let a <-newFields "dict_items" [U4 d];ret a) _ _ _;refine o0 (aj9 (by simp[hs]) (M9 ?_));exact o0 (S3 (M9 ⟨_,rfl,f⟩) (show(#[U4 d]:Array M0).size<=_ by simp))
theorem p9{prog:Q7}{w:U9}{A:S0}{E:M0->N1->Prop}{s:N1}{v d:O1}{od:Obj}{es:Array as2}{ep:Nat}{Q:M0->N1->Prop}
  (i:s.heap.IsItemsView v d) (f:s.heap.get? d=some od) (c:od.data=.dict es ep)
  (j:∀h',ar5 h' s.heap.objs.size d 0 es.size ep .none .none->(∀b o,s.heap.get? b=some o->h'.get? b=some o)->Q (.ref s.heap.objs.size) { s with heap:=h' }):P6 (R4 prog w) A (au9 (.ref v)) Q E s:=by
 obtain⟨m,h,l,g⟩:=id i;refine ar6 i.typeIs F.slot_dict_items_iter (U3 F.slot_dict_items_iter i.typeIs F.entry_dict_items_iter ?_ (F.args_dict_items_iter_1 _));refine o0 (M9 (o0 ?_));show P6 _ _ (Bind.bind _ _) _ _ _;refine o0 (ai9 h g rfl (M9 (o0 ?_)));show P6 _ _ (Bind.bind _ _) _ _ _;refine o0 (wpAny_dictEntries f c (o0 (wpAny_dictEpoch f c ?_)));have a:ac9 "dict_itemiterator"=true:=by decide
 simp only[a,if_true];refine S3 (M9 ⟨_,rfl,"dict_itemiterator",_,⟨_,N6 _ rfl,rfl⟩,ac2.lookup,?_⟩) (show Array.size _<=_ by simp[Q8.Dict_items.ownedTupleFields];exact T8 (AA (by decide)));exact j _ (N6 _ rfl) λb o e=>M7 _ e
noncomputable def La(a:O1)(o:Obj)(ks:List (List Key×V)):It :=
 ⟨λi H=>H a=some (.frz o (.dT ks))/\i<ks.length,λi H x c=>∃T q k v,x=.ref T/\H T=none/\ks[i]?=some (k,v)/\H q=some (.tup (k.map kV))/\c=upd H T (.tup [.ref q,v]),λi H=>H a=some (.frz o (.dT ks))/\ks.length<=i⟩
section
variable{X:Cx}{G:List (O1×Obj)}{σ:St}{H:Hp}{s:N1}{a:O1}{o:Obj}{ks:List (List Key×V)}
theorem Inv.freezeT(I:Inv X G σ H s)(e:H a=some (.dT ks)):∃o,s.heap.get? a=some o/\Inv X G σ (upd H a (.frz o (.dT ks))) s:=by
 have q:=I.hok a _ e;obtain⟨_,_,_,_,o,_,_,f,_⟩:=id q;refine⟨o,f,?_⟩;have g:∀{b},H b≠some (.dT ks)->b≠a:=λ{b} z w=>z (by rw[w];exact e);have:=I.write (x:=a) (e:=a) (o:=.frz o (.dT ks)) (h':=s.heap) (t':=s.toks) (by rw[e];exact al8) (.inl rfl) (λb u _ q=>q) ⟨o,f⟩ ⟨f,q.stay (λc v _ r=>r) (λc r=>by rw[aX (g (by rw[r];intro z;cases z))];exact r) λc h r=>by rw[aX (g (by rw[r];intro z;cases z))];exact r⟩;exact this
theorem vY{ep:Nat}{es:Array as2}(I:Inv X G σ H s)(e:H a=some (.frz o (.dT ks)))(i:o.data=.dict es ep):s.heap.get? a=some o/\∃xs:List (List Key×O1×M0),af1 (λ(p:List Key×V) (q:List Key×O1×M0)=>p.1=q.1/\H q.2.1=some (.tup (p.1.map kV))/\aQ p.2 q.2.2) ks xs/\es.toList=xs.map (entryOfKey (ao4 (bo X.prog X.w))):=by
 obtain⟨q,n,l,xs,rel,m,h,j,g,c,f,r,_⟩:=I.hok a _ e;rw[q]at g;cases g;rw[i]at f;cases f;exact⟨q,xs,rel,r⟩
theorem fD{e f:Type}{F:e->f->Prop}:∀{c:List e}{a:List f},af1 F c a->∀(i:Nat) (x:e),c[i]?=some x->∃y,a[i]?=some y/\F x y
 |_,_,.cons r _,0,x,h=>by cases h;exact⟨_,rfl,r⟩
 |_,_,.cons _ t,i+1,x,h=>fD t i x h
theorem pX:entryFor table "dict_itemiterator.__iter__"=some Q8.«dict_keyiterator.__iter__»:=by kernel_rfl
theorem tT{prog:Q7}{w:U9}{A:S0}{E:M0->N1->Prop}{s:N1}{it d:O1}{i n ep:Nat}{ok a:M0}{Q:M0->N1->Prop}(q:ar5 s.heap it d i n ep ok a)(h:Q (.ref it) s):P6 (R4 prog w) A (au9 (.ref it)) Q E s :=
 ar6 (T:="dict_itemiterator") ⟨_,q,rfl⟩ PySem.F.slot_dict_itemiterator_iter (U3 PySem.F.slot_dict_itemiterator_iter ⟨_,q,rfl⟩ pX (show P6 _ _ (al5 _) _ _ _ from M9 ⟨_,rfl,"dict_itemiterator",_,⟨_,q,rfl⟩,PySem.F.slot_dict_itemiterator_next.lookup,h⟩) (PySem.F.args_dict_itemiterator_iter_1 _))
theorem yl{P:Q7}{w:U9}{K:u8}{C:List R6}{x1:Nat}{pt:Pos}(it:O1){ep:Nat}{es:Array as2}(L:o.data=.dict es ep)(hl:es.size=ks.length):m8 P w K (.Tuple C x1 pt) (La a o ks) [it] it (λi h=>∃ok l,ar5 h it a i es.size ep ok l) where
 mem:=by simp
 obj:=λi h st b g=>by
  have e:b=it:=by simpa using g
  subst e;obtain⟨ok,l,q⟩:=st;exact⟨_,q,λv z=>by cases z⟩
 keep:=λi h Y ⟨ok,l,q⟩ k=>⟨ok,l,k it (by simp) _ q⟩
 item:=by
  intro X Z hw hK hc i G s σ H E I U st T;subst Z hw hK;obtain⟨e,hi⟩:=T;obtain⟨c,xs,rel,B⟩:=vY I e L;obtain⟨ok,l,f⟩:=st;obtain⟨⟨k,v⟩,m⟩:∃p,ks[i]?=some p:=⟨ks[i],by simp[hi]⟩;obtain⟨⟨k',q,u⟩,hx,rk,hq,ru⟩:=fD rel i _ m;have n:i<es.size:=by lia
  have x:es[i]=entryOfKey (ao4 (bo X.prog X.w)) (k',q,u):=by
   have J:es.toList[i]?=some es[i]:=by simp[n]
   rw[B,Q6,hx]at J;exact(T4 J).symm
  have O:es[i].key=.ref q:=by rw[x];rfl
  have S:es[i].val=u:=by rw[x];rfl
  refine rE f c L n λJ j hT a2 keep=>⟨_,rfl,?_⟩;rw[O,S]at j hT;have fe:=U it (by simp);have In:H s.heap.objs.size=none:=I.hok.fresh (N2 _);have eT:it<s.heap.objs.size:=P2 f;have I1:Inv X G σ (upd H s.heap.objs.size (.tup [.ref q,v])) { s with heap:=s.heap.push { cls:=.type "tuple",data:=.seq #[.ref q,u] } } :=
   I.laid (t':=s.toks) (λb o q=>M7 _ q) (N2 _) ⟨by simp only[O2,V5];rw[O7];decide,[.ref q,u],.cons rfl (.cons ru .nil),⟨_,N6 s.heap rfl,rfl,⟨0,rfl⟩,rfl⟩⟩
  have R:gx X G (upd H s.heap.objs.size (.tup [.ref q,v])) it:=fe.upd (P8 eT);obtain⟨M,g1,g2,g3,g4,g5⟩:=R;have I2:=I1.turned (t':=s.toks) (h':=J) (it:=it) (λb o g q=>by
   rcases Q9.get?_push_cases q with z|z
   ·rw[z.1,z.2];exact hT
   ·exact keep b o g z) M g1 g3 g4 g5
  refine wpAny_letOwnedTupleGo_items j λh2 N a0=>?_;have I3:=I2.turned (t':=s.toks) (h':=h2) (it:=it) (λb o g q=>(a0.2 b g).trans q) M g1 g3 g4 g5;refine⟨.ref s.heap.objs.size,_,I3,rfl,⟨_,q,k,v,rfl,In,m,hq,rfl⟩,⟨_,_,N⟩,λb g=>?_⟩;rw[show b=it by simpa using g];exact M
 done:=by
  intro X Z hw hK hc i G s σ H E I U st T;subst Z hw hK;obtain⟨e,hi⟩:=T;obtain⟨c,xs,rel,B⟩:=vY I e L;obtain⟨ok,l,f⟩:=st;obtain⟨f0,f1,f2,f3,f4,f5⟩:=U it (by simp);exact jD (I.ok.hd hc) f c L (by lia) λY eb=>⟨rfl,I.turned (t':=s.toks) (λb o g q=>eb b o g q) f0 f1 f3 f4 f5⟩
 self:=λA i s Q E ⟨ok,l,q⟩ h=>tT q h
end
section
variable{X:Cx}{l:R6}{z:TE}{te:TEd}{y:List R6}{G:Nat}{pt I L:Pos}
theorem u3{K:u8}{M:DH}{H:Hp}:∀ks:List Key,aw K M H (ks.map kD) (ks.map kV)
 |[]=>aw.nil
 |k::ks=>aw.cons lH (u3 ks)
end
section
variable{X:Cx}
end
section
variable{X:Cx}{a b e:R6}{G H te:TEd}{z:Pos}
noncomputable def ui(ds:List D)(x:D):Option Nat:=if dLe x 59=true/\cT ds 59=true/\ds.length<2 ^ 62 then ds.findIdx? (λd=>eqD d x)else none
theorem Dr{ds:List D}{x:D}{j:Nat}(h:ui ds x=some j):dLe x 59=true/\cT ds 59=true/\ds.length<2 ^ 62/\∃c:j<ds.length,eqD ds[j] x=true/\∀m (e:m<ds.length),m<j->eqD ds[m] x=false:=by
 unfold ui at h
 by_cases a:dLe x 59=true/\cT ds 59=true/\ds.length<2 ^ 62
 ·rw[if_pos a]at h;obtain⟨c,f,i⟩:=List.findIdx?_eq_some_iff_getElem.mp h;exact⟨a.1,a.2.1,a.2.2,c,f,λm e g=>by have:=i m g;simpa using this⟩
 ·rw[if_neg a]at h;cases h
section
open PySem.SeqAt PySem.MeetsSeq AutoSeq1
theorem xa(l:O1)(xs:Array M0)(n:Nat)(od:Option O1)(os:Array (Option M0))(y:M0)(c:Nat->Bool)(top:Int)(j:Nat)(p:j<xs.size)(e:(j:Int)<top)(f:c j=true):
  ∀(k i:Nat),j-i=k->i<=j->(∀m,i<=m->m<j->c m=false)->Meets (Q8.«list.index.loop» ⟨[.ref l,y,ah1 i,ah1 top],[]⟩)
   (λB R t=>t.heap.get? l=some { cls:=.type "list",dict:=od,data:=.seq xs n,slots:=os }/\(∀m (h:m<xs.size),EqAt B.in1 t xs[m] y (c m))/\R (.ok (.ret (.int j t.toks))) { t with toks:=t.toks+1 })
 |0,i,E,G,s,prog,w,B,R,t,q=>by
  obtain⟨I,H,C,A,z⟩:=t;obtain⟨o,g,u⟩:=q;obtain rfl:i=j:=by lia
  wp_walk using af2 o
  rw[show(if(i:Int)<top then xs[((i:Nat):Int).toNat]? else none)=some xs[i]by simp[e,p]];refine o0 (g i p prog w _ _ ?_);rw[f]
  wp_walk
  exact u
 |k+1,i,E,G,s,prog,w,B,R,t,q=>by
  obtain⟨I,H,C,A,z⟩:=t;obtain⟨o,g,u⟩:=q;have x:i<xs.size:=by lia
  have lt:(i:Int)<top:=by lia
  wp_walk using af2 o
  rw[show(if(i:Int)<top then xs[((i:Nat):Int).toNat]? else none)=some xs[i]by simp[lt,x]];refine o0 (g i x prog w _ _ ?_);rw[s i (N2 _) (by lia)]
  wp_walk
  rw[show((i:Int)+1)=((i+1:Nat):Int)by lia];refine⟨ak7 plain_index_loop _,ab8 entry_index_loop ?_⟩;rw[Z7 plain_index_loop _];exact xa l xs n od os y c top j p e f k (i+1) (by lia) (by lia) (λm a b=>s m (by exact T8 (by assumption)) b) prog w B R _ ⟨o,g,u⟩
theorem Cv(l:O1)(xs:Array M0)(n:Nat)(od:Option O1)(os:Array (Option M0))(y:M0)(a:Nat->Bool)(j:Nat)(f:j<xs.size)(s:(j:Int)<2 ^ 63-1)(c:a j=true)(g:∀m,m<j->a m=false):
  Meets (Q8.«list.index» ⟨[.ref l,y],[]⟩)
   (λB R t=>t.heap.get? l=some { cls:=.type "list",dict:=od,data:=.seq xs n,slots:=os }/\(∀m (h:m<xs.size),EqAt B.in1 t xs[m] y (a m))/\R (.ok (.ret (.int j t.toks))) { t with toks:=t.toks+1 }):=by
 intro prog w B R t q;obtain⟨C,A,z,x,u⟩:=t;obtain⟨e,o,p⟩:=q
 wp_walk using af2 e
 rw[show((λi:Int=>if i<0 then max 0 (i+(xs.size:Int))else i) ((none:Option Int).getD 0))=((0:Nat):Int)by simp,show((λi:Int=>if i<0 then max 0 (i+(xs.size:Int))else i) ((none:Option Int).getD (2 ^ 63-1)))=2 ^ 63-1 by simp];refine⟨ak7 plain_index_loop _,ab8 entry_index_loop ?_⟩;rw[Z7 plain_index_loop _];exact xa l xs n od os y a (2 ^ 63-1) j f s c _ 0 rfl (O3 _) (λm _ b=>g m b) prog w B R _ ⟨e,o,p⟩
end
end
section
variable{X:Cx}{o e:R6}{G te:TEd}{L z:Pos}
noncomputable def vM(ds:List D)(d:D)(m:Nat):Bool:=match ds[m]? with|some x=>eqD x d|none=>false
theorem F4{p:List (O1×Obj)}{σ:St}{H:Hp}{s:N1}{M:DH}{ds:List D}{d:D}{f:List V}{a:List M0}{y:V}{u:M0}(I:Inv X p σ H s)(C:X.A.units+64<af7)(e:aw X.K M H ds f)(r:aH f a)(r1:ba X.K M H d y)(w:aQ y u)(l:dLe d 59=true)(o:cT ds 59=true):
  ∀m (h:m<a.toArray.size),PySem.SeqAt.EqAt X.A.in1 s a.toArray[m] u (vM ds d m):=λm h=>by
 have B:ds.length=a.length:=e.length.trans r.length;have x:m<a.length:=by simpa using h
 have c:m<ds.length:=by lia
 obtain⟨E,g,j⟩:=e.get (i:=m) (d:=ds[m]) (by simp[c]);obtain⟨A,n,z⟩:=r.get g;have q:a.toArray[m]=A:=by simpa[N0 x]using n
 rw[q,show vM ds d m=eqD ds[m] d by simp[vM,c]];exact(qY I 59 (by show X.A.units+1+59<af7;lia) (g9 o (i:=m) (by simp[c])) l j.r r1 z w).1
theorem Di{ds:List D}{x:D}{j:Nat}(h:ui ds x=some j):dLe x 59=true/\cT ds 59=true/\(j:Int)<2 ^ 63-1/\j<ds.length/\vM ds x j=true/\∀m,m<j->vM ds x m=false:=by
 obtain⟨g,i,n,e,c,l⟩:=Dr h;refine⟨g,i,by lia,e,by simp[vM,e,c],λm f=>?_⟩;have a:m<ds.length:=by lia
 simp[vM,a,l m a f]
theorem FD(w:X.A.units+64<af7):MtR X "list.index" (λx xs H Q=>∃M ds d y j,xs=[y]/\ba X.K M H (.lst ds) x/\ba X.K M H d y/\ui ds d=some j/\Q (.int j) H):=by
 intro Y s R H x xs v us Q I rx rv h;obtain⟨M,ds,d,y,j,rfl,J,O,p,q⟩:=h;obtain⟨u,rfl,z⟩:=aH.one rv;obtain⟨l,S,rfl,sq,g⟩:=J;cases rx;obtain⟨a,r,A,U⟩:=I.list (SqL.of sq);obtain⟨m,C,G,P,f,o⟩:=Di p;have T:ds.length=a.length:=g.length.trans r.length;obtain⟨⟨c,L,dt,E⟩,n,i,B,N,e⟩:=A;obtain rfl:c=.type "list":=B;obtain rfl:dt=.seq a.toArray n:=e;exact av5 F.slot_list_index ⟨_,i,rfl⟩ F.entry_list_index (F.args_list_index_2 _ _) (Cv l a.toArray n L E u (vM ds d) j (by simp;lia) G f o) ⟨i,F4 I w g r O z m C,⟨.int _,H,I.tok _,⟨_,rfl⟩,q⟩⟩
def Gg(G te:TEd):TEd:=λc M Q=>G c M λo M1=>(∃a,rdM M1 o=.lst a)/\te c M1 λx M2=>∃a j,rdM M2 o=.lst a/\ui a (rdM M2 x)=some j/\Q (.int j) M2
theorem Cs(O:X.A.units+64<af7)(I:QEd X o G)(he:QEd X e te)(S:ac0 o "index" X.env (af8 o X.env)=af8 o X.env:=by rfl)
  (f:O5 [e] X.env=(false,af8 e X.env)::O5 [] X.env:=by rfl)
  (C:((ad7 z (O5 [e] X.env)).all (λx => !x.1) && (az2 z (at9 [] X.env)).all (λx => x.1.isSome)
  &&decide ([e].length+([]:List au0).length+(if([]:List au0).isEmpty then 0 else 1)<30))=true:=by rfl)
  (P:(L.endLine==z.line)=true:=by rfl) (E:(ad7 z (O5 [] X.env)).any (·.1)=false:=by rfl):QEd X (.Call (.Attribute o "index" L) [e] [] z) (Gg G te):=by
 rw[QEd.eq]at *
 refine(Ds PySem.F.plainAttrs_list PySem.F.slot_list_index PySem.F.type_list_index (FD O) I (ka he qF f) S C P f E).conv λσ H Q hh=>?_;obtain⟨n,M,R,l,hr,q,k⟩:=hh;refine⟨n,M,_,l,hr,q,λo M1 ov H1 ⟨⟨J,A⟩,B⟩ u c p=>?_⟩;have i:=p.rd c;rw[A]at i;obtain⟨l0,g,rfl,h,_⟩:=i;refine⟨.inl ⟨rfl,g,SqL.of h⟩,n,M1,_,l.ext u,c,B,λd M2 v U ⟨w,j,Y,N,Z⟩ m a T=>?_⟩;have s:=(p.ext m).rd a;rw[Y]at s;exact⟨M2,w,_,v,j,rfl,s,T.rd a,N,k _ M2 _ U Z (u.trans m) a (by simp[Rep])⟩
end
section
variable{X:Cx}{y:am0}{G:List (Str×O1)}{ar:List Str}{H:R6}{z:Pos}
end
noncomputable def rT(ks:List Key):D:=.box .key (ks.map kD)
section
variable{K:u8}{M:DH}{H:Hp}
theorem o3{ds:List D}{v:V}:Rep K M H (.box .key ds) v↔∃a c,v=.ref a/\(H a=some (.tup c)/\M a=none)/\aw K M H ds c:=by
 simp only[Rep,i5];exact⟨λ⟨a,c,e,⟨_,⟨_,r⟩,n⟩,h⟩=>⟨a,c,e,⟨r,n⟩,h⟩,λ⟨a,c,e,⟨r,n⟩,h⟩=>⟨a,c,e,⟨trivial,⟨(),r⟩,n⟩,h⟩⟩
theorem xm{ds:List D}{v:V}(h:Rep K M H (.box .key ds) v):Rep K M H (.tup ds) v:=by
 obtain⟨a,c,e,⟨r,n⟩,h⟩:=o3.mp h;simp only[Rep];exact⟨a,c,e,.inl ⟨.inl r,n⟩,h⟩
theorem mZ{ks:List Key}{v:V}(h:Rep K M H (rT ks) v):∃a,v=.ref a/\H a=some (.tup (ks.map kV)):=by
 obtain⟨a,c,e,⟨r,_⟩,h⟩:=o3.mp h;rw[lU h]at r;exact⟨a,e,r⟩
theorem rO{κ:Type}:∀{ks:List κ}{ds:List D}{a:List V},ks.length=a.length->aw K M H ds a->KR K M H (ks.zip ds) (ks.zip a)
 |[],_,_,_,_=>by simp only[List.zip_nil_left];exact .nil
 |k::ks,ds,a,c,h=>by
  cases a with
  |nil=>cases c
  |cons v a =>
   cases ds with
   |nil=>have:=h.length;cases this
   |cons d ds =>
    simp only[aw]at h;obtain⟨_,_,e,f,g⟩:=h;cases e;exact .cons ⟨rfl,f⟩ (rO (ax3 c) g)
noncomputable def asT(M:DH):D->Option (List (List Key×D))
 |.ref a=>match M a with|some (.dT c)=>some c|_=>none
 |.box (.dt f) e=>some (f.zip e)
 |_=>none
noncomputable def asK(M:DH):D->Option (List (Key×D))
 |.ref a=>match M a with|some (.dK c)=>some c|_=>none
 |.box (.dk f) e=>some (f.zip e)
 |_=>none
theorem o5{x:D}{v:V}{kvs:List (List Key×D)}(hr:HR K M H)(h:Rep K M H x v)(e:asT M x=some kvs):∃a ks,v=.ref a/\Rd H a (.dT ks)/\KR K M H kvs ks:=by
 cases x with
 |ref a =>
  simp only[asT]at e;simp only[Rep]at h
  split at e
  ·rename_i q;cases e;obtain⟨ks,c,g⟩:=hr a _ q;exact⟨a,ks,h,.inl c,g⟩
  ·cases e
 |box t j =>
  cases t with
  |dt ks =>
   cases e;simp only[Rep,i5]at h;obtain⟨a,l,e,⟨f,⟨o,r⟩,_⟩,i⟩:=h;exact⟨a,_,e,.inr ⟨o,r⟩,rO f i⟩
  |_=>cases e
 |_=>cases e
theorem uJ{x:D}{v:V}{kvs:List (Key×D)}(hr:HR K M H)(h:Rep K M H x v)(e:asK M x=some kvs):∃a ks,v=.ref a/\Rd H a (.dK ks)/\KR K M H kvs ks:=by
 cases x with
 |ref a =>
  simp only[asK]at e;simp only[Rep]at h
  split at e
  ·rename_i q;cases e;obtain⟨ks,c,g⟩:=hr a _ q;exact⟨a,ks,h,.inl c,g⟩
  ·cases e
 |box t j =>
  cases t with
  |dk ks =>
   cases e;simp only[Rep,i5]at h;obtain⟨a,l,e,⟨f,⟨o,r⟩,_⟩,i⟩:=h;exact⟨a,_,e,.inr ⟨o,r⟩,rO f i⟩
  |_=>cases e
 |_=>cases e
theorem kc{a:O1}{kvs:List (List Key×D)}(h:M a=some (.dT kvs)):asT M (.ref a)=some kvs:=by simp only[asT,h]
theorem Fy{ks:List (List Key)}{ds:List D}:asT M (.box (.dt ks) ds)=some (ks.zip ds):=rfl
theorem Fj{ks:List Key}{ds:List D}:asK M (.box (.dk ks) ds)=some (ks.zip ds):=rfl
end
section
variable{X:Cx}{e i o:R6}{es:List R6}{te G H:TEd}{t:TAd}{I:Pos}
def KZ(te:TEd):TEd:=λc M Q=>te c M λd M1=>∃a,d=.box .key a/\Q (.tup a) M1
def Ga(t:TAd):TEd:=λc M Q=>t c M λa M1=>a.length<=N7/\Q (.box .key a) M1
def Co(H G:TEd):TEd:=λe M Q=>H e M λx M1=>G e M1 λy M2=>∃a c d,asT M2 x=some a/\y=rT c/\bM a c=some d/\Q d M2
def Gz(H G:TEd):TEd:=λc M Q=>H c M λx M1=>G c M1 λy M2=>∃a k d,asK M2 x=some a/\y=kD k/\bM a k=some d/\Q d M2
def Ak(H G te:TEd):TSd:=λE e M=>te e M λd M1=>H e M1 λx M2=>G e M2 λy f=>∃a c g,x=.ref a/\f a=some (.dT c)/\y=rT g/\c.length<N7/\E.nx e (ay f a (.dT (gV c g d)))
def yP(H G te:TEd):TEd:=λc M Q=>H c M λx M1=>(asT M1 x).isSome=true/\G c M1 λy M2=>te c M2 λz e=>∃a f,asT e x=some a/\y=rT f/\Q ((bM a f).getD z) e
def DV(H G te:TEd):TEd:=λc M Q=>H c M λx M1=>(asK M1 x).isSome=true/\G c M1 λy M2=>te c M2 λz e=>∃a k,asK e x=some a/\y=kD k/\Q ((bM a k).getD z) e
end
noncomputable def vV(f:Str)(d:D):List (Str×D)->List (Str×D)
 |[]=>[(f,d)]
 |(g,x)::r=>if g=f then(g,d)::r else(g,x)::vV f d r
section
variable{K:u8}{M:DH}{H:Hp}
theorem KR.putF{f:Str}{d:D}{v:V}(c:Rep K M H d v):∀{fs:List (Str×D)}{a:List (Str×V)},KR K M H fs a->KR K M H (vV f d fs) (L2.putF f v a):=by
 intro fs a h;unfold KR at h ⊢
 induction h with
 |nil=>exact .cons ⟨rfl,c⟩ .nil
 |@cons p q j l r t ih =>
  obtain⟨g,x⟩:=p;obtain⟨i,y⟩:=q;obtain⟨rfl,e⟩:=r;simp only[vV,L2.putF]
  split
  ·exact .cons ⟨rfl,c⟩ t
  ·exact .cons ⟨rfl,e⟩ ih
theorem KR.look{f:Str}{d:D}:∀{fs:List (Str×D)}{a:List (Str×V)},KR K M H fs a->fs.lookup f=some d->∃v,a.lookup f=some v/\Rep K M H d v:=by
 intro fs a h;unfold KR at h
 induction h with
 |nil=>intro e;cases e
 |@cons p q l i r t ih =>
  obtain⟨g,x⟩:=p;obtain⟨j,y⟩:=q;obtain⟨rfl,c⟩:=r;intro e;simp only[V3]at e ⊢
  split at e
  ·cases e;exact⟨y,rfl,c⟩
  ·exact ih e
end
section
variable{X:Cx}{e o:R6}{es:List R6}{te G:TEd}{t:TAd}{I p H:Pos}{f x:Str}{C:O1}
def B7(C:O1)(f:Str)(te:TEd):TEd:=λc M Q=>te c M λd M1=>∃a fs z,d=.ref a/\M1 a=some (.ins C fs)/\fs.lookup f=some z/\Q z M1
def Gd(C:O1)(f:Str)(G te:TEd):TSd:=λE c M=>te c M λy M1=>G c M1 λd M2=>∃a fs,d=.ref a/\M2 a=some (.ins C fs)/\fs.length<1000/\E.nx c (ay M2 a (.ins C (vV f y fs)))
structure MkD(P:Q7) (w:U9) (K:u8) (mg:Str->Option M0) (base:Q9) (x:Str) (C:O1) (k n:Nat) (S:SpD):Prop where
 ex:∃(f:O1) (fd:P5) (ps:List Str),Mk K C f/\aV P w K mg base CX0 k f fd ps (spD K n S)/\mg x=some (.ref C)/\dM K fd ps []
def Gf(C:O1)(n:Nat)(S:SpD)(t:TAd):TEd:=λc M Q=>t c M λa M1=>a.length+1=n/\∀x,M1 x=none->S (.ref x::a) (ay M1 x (.ins C [])) λd M2=>d=.non/\Q (.ref x) M2
end
section
variable{X:Cx}{e:R6}{te:TEd}
def LD(t:TE):TE:=λf H Q=>t f H λx c=>∃a e,x=.ref a/\c a=some (.dT e)/\∀o,Q x (upd c a (.frz o (.dT e)))
theorem Fw{t:TE}(h:PE X e t):PE X e (LD t):=by
 intro g s f H Q I q;refine thn (h g s f H _ I q) λv p ⟨x,u,c,r,a,n,m,i,j⟩=>?_;obtain⟨o,_,l⟩:=c.freezeT i;exact⟨x,_,l,r,j o⟩
def KH(t:TE):TE:=λf H Q=>t f H λx c=>∃a e,x=.ref a/\c a=some (.dK e)/\∀o,Q x (upd c a (.frz o (.dK e)))
theorem Ft{t:TE}(h:PE X e t):PE X e (KH t):=by
 intro g s f H Q I q;refine thn (h g s f H _ I q) λv p ⟨x,u,c,r,a,n,m,i,j⟩=>?_;obtain⟨o,_,l⟩:=c.freeze i;exact⟨x,_,l,r,j o⟩
theorem dX{κ a:Type}:∀l:List (κ×a),(l.map (·.1)).zip (l.map (·.2))=l
 |[]=>rfl
 |p::l=>by rw[N5,N5,List.zip_cons_cons,dX l]
theorem zL{K:u8}{M:DH}{H:Hp}{κ:Type}{kvs:List (κ×D)}{ks:List (κ×V)}(h:KR K M H kvs ks):aw K M H (kvs.map (·.2)) (ks.map (·.2)):=by
 unfold KR at h
 induction h with
 |nil=>exact aw.nil
 |cons r _ ih=>exact aw.cons r.2 ih
noncomputable def kn(kvs:List (List Key×D)):D:=.box (.dt (kvs.map (·.1))) (kvs.map (·.2))
noncomputable def vk(kvs:List (Key×D)):D:=.box (.dk (kvs.map (·.1))) (kvs.map (·.2))
theorem wH{M:DH}{kvs:List (List Key×D)}:asT M (kn kvs)=some kvs:=by unfold kn;rw[Fy,dX]
theorem BW{M:DH}{kvs:List (Key×D)}:asK M (vk kvs)=some kvs:=by unfold vk;rw[Fj,dX]
theorem lK{M1:DH}{e:Hp}{a:O1}{u:HD}{o:HO}(f:M1 a=some u):Ext M1 e (k5 M1 a) (upd e a o):=λb w z n=>by
 have c:b≠a:=λw=>by rw[w,f]at n;cases n
 rw[aX c,o9 c];exact⟨z,n⟩
theorem DQ{K:u8}{M1:DH}{e:Hp}{a:O1}{u:HD}{o:HO}(hr:HR K M1 e)(f:M1 a=some u):HR K (k5 M1 a) (upd e a o):=λb w z=>by
 have c:b≠a:=λw=>by rw[w,fC]at z;cases z
 rw[o9 c]at z;exact(hr b w z).keep (lK f) (aX c)
def BM(te:TEd):TEd:=λe M Q=>te e M λd M1=>∃a c,d=.ref a/\M1 a=some (.dT c)/\Q (kn c) (k5 M1 a)
def DP(te:TEd):TEd:=λe M Q=>te e M λd M1=>∃a c,d=.ref a/\M1 a=some (.dK c)/\Q (vk c) (k5 M1 a)
end
noncomputable def GN(a:O1)(o:Obj)(ks:List (Key×V)):It :=
 ⟨λi H=>H a=some (.frz o (.dK ks))/\i<ks.length,λi H x c=>∃T k v,x=.ref T/\H T=none/\ks[i]?=some (k,v)/\c=upd H T (.tup [kV k,v]),λi H=>H a=some (.frz o (.dK ks))/\ks.length<=i⟩
section
variable{X:Cx}{y:List (O1×Obj)}{σ:St}{H:Hp}{s:N1}{a:O1}{o:Obj}{ks:List (Key×V)}
theorem vS{P:Q7}{w:U9}{K:u8}{J:List R6}{x1:Nat}{pt:Pos}(it:O1){ep:Nat}{es:Array as2}(T:o.data=.dict es ep)(hl:es.size=ks.length):m8 P w K (.Tuple J x1 pt) (GN a o ks) [it] it (λi h=>∃ok l,ar5 h it a i es.size ep ok l) where
 mem:=by simp
 obj:=λi h st b j=>by
  have e:b=it:=by simpa using j
  subst e;obtain⟨ok,l,q⟩:=st;exact⟨_,q,λv z=>by cases z⟩
 keep:=λi h U ⟨ok,l,q⟩ k=>⟨ok,l,k it (by simp) _ q⟩
 item:=by
  intro X Y hw hK hc i y s σ H E I S st R;subst Y hw hK;obtain⟨e,hi⟩:=R;obtain⟨f,hz,hs,vs,rel,o',a2,a3,q',c,d',hk,hp,_⟩:=I.hok a _ e;rw[f]at q';cases q';rw[T]at d';cases d';obtain⟨ok,l,g⟩:=st;obtain⟨⟨k,v⟩,m⟩:∃p,ks[i]?=some p:=⟨ks[i],by simp[hi]⟩;obtain⟨⟨k',u⟩,hx,rk,ru⟩:=fD rel i _ m;have n:i<es.size:=by lia
  obtain⟨C,L⟩:=hp.get? (e:=es[i]) (by simp[n]) hx;have G:aQ (kV k) es[i].key:=by
   have:k=k':=rk;rw[this];exact Al C
  have x:aQ v es[i].val:=by rw[L];exact ru
  refine rE g f T n λh1 B hT a1 keep=>⟨_,rfl,?_⟩;have fe:=S it (by simp);have In:H s.heap.objs.size=none:=I.hok.fresh (N2 _);have eT:it<s.heap.objs.size:=P2 g;have I1:Inv X y σ (upd H s.heap.objs.size (.tup [kV k,v])) { s with heap:=s.heap.push { cls:=.type "tuple",data:=.seq #[es[i].key,es[i].val] } } :=
   I.laid (t':=s.toks) (λb o q=>M7 _ q) (N2 _) ⟨by simp only[O2,V5];rw[O7];decide,[es[i].key,es[i].val],.cons G (.cons x .nil),⟨_,N6 s.heap rfl,rfl,⟨0,rfl⟩,rfl⟩⟩
  have O:gx X y (upd H s.heap.objs.size (.tup [kV k,v])) it:=fe.upd (P8 eT);obtain⟨M,g1,g2,g3,g4,g5⟩:=O;have I2:=I1.turned (t':=s.toks) (h':=h1) (it:=it) (λb o j q=>by
   rcases Q9.get?_push_cases q with z|z
   ·rw[z.1,z.2];exact hT
   ·exact keep b o j z) M g1 g3 g4 g5
  refine wpAny_letOwnedTupleGo_items B λh2 N Z=>?_;have I3:=I2.turned (t':=s.toks) (h':=h2) (it:=it) (λb o j q=>(Z.2 b j).trans q) M g1 g3 g4 g5;refine⟨.ref s.heap.objs.size,_,I3,rfl,⟨_,k,v,rfl,In,m,rfl⟩,⟨_,_,N⟩,λb j=>?_⟩;rw[show b=it by simpa using j];exact M
 done:=by
  intro X Y hw hK hc i y s σ H E I S st R;subst Y hw hK;obtain⟨e,hi⟩:=R;obtain⟨f,_⟩:=I.hok a _ e;obtain⟨ok,l,g⟩:=st;obtain⟨f0,f1,f2,f3,f4,f5⟩:=S it (by simp);exact jD (I.ok.hd hc) g f T (by lia) λU eb=>⟨rfl,I.turned (t':=s.toks) (λb o j q=>eb b o j q) f0 f1 f3 f4 f5⟩
 self:=λA i s Q E ⟨ok,l,q⟩ h=>tT q h
end
section
variable{X:Cx}{l:R6}{y:TE}{te:TEd}{z:List R6}{N:Nat}{pt G L:Pos}
def LV(y:TE):TI:=λf H R=>y f H λx c=>∃a o e,x=.ref a/\c a=some (.frz o (.dT e))/\R (La a o e) c
theorem A7(hl:PE X l y)(U:ac0 l "items" X.env (af8 l X.env)=af8 l X.env:=by rfl)(T:(G.endLine==L.line)=true:=by rfl):PI X (.Tuple z N pt) (.Call (.Attribute l "items" G) [] [] L) (LV y):=by
 intro af s S H R I h;refine wpAny_Call_method0_late U T (thn (hl af s S H _ I h) λv u f=>f.el λx H1 i P q1=>?_);obtain⟨a,o,B,e,J,q⟩:=q1;subst e;cases P;obtain⟨Q,Y,_⟩:=yM i (.inr ⟨B,.inr ⟨o,J⟩⟩);obtain⟨m,_,M,xs,rel,o',n,E,C,c,j,r,_⟩:=i.hok a _ J;rw[m]at C;cases C;refine⟨"dict","dict.items",PySem.F.plainAttrs_dict,PySem.F.slot_dict_items,PySem.F.type_dict_items,Q,Y,am3 rfl (PySem.evalArgs_none ?_)⟩;refine qt M m c j ?_;have w:=i.kept (t':=u.toks) (h':=u.heap.push { cls:=.type "dict_items",data:=.fields #[.ref a] }) λb o e=>M7 _ e;refine p9 (d:=a) (od:=o) (es:=n) (ep:=E) ⟨_,N6 _ rfl,rfl,rfl⟩ (M7 _ m) j λp g keep=>?_;have I4:=w.kept (t':=u.toks) (h':=p) keep;have O:n.size=B.length:=by
  have A:=congrArg ad2 r;rw[O8,s0]at A;rw[A];exact(ap6 rel).symm
 refine⟨_,[_],_,_,_,rfl,I4,yl _ j O,⟨_,_,g⟩,λb Z=>?_,q⟩;have e:=N8.mp Z;rw[e];exact w.fpOk (N2 _) (w.hok.fresh (N2 _))
def Kv(y:TE):TI:=λf H R=>y f H λx c=>∃a o e,x=.ref a/\c a=some (.frz o (.dK e))/\R (GN a o e) c
theorem xU(hl:PE X l y)(U:ac0 l "items" X.env (af8 l X.env)=af8 l X.env:=by rfl)(T:(G.endLine==L.line)=true:=by rfl):PI X (.Tuple z N pt) (.Call (.Attribute l "items" G) [] [] L) (Kv y):=by
 intro af s S H R I h;refine wpAny_Call_method0_late U T (thn (hl af s S H _ I h) λv u f=>f.el λx H1 i P q1=>?_);obtain⟨a,o,B,e,J,q⟩:=q1;subst e;cases P;obtain⟨Q,Y,_⟩:=yM i (.inl ⟨B,.inr ⟨o,J⟩⟩);obtain⟨m,_,M,vs,rel,o',n,E,C,c,j,hk,hp,_⟩:=i.hok a _ J;rw[m]at C;cases C;refine⟨"dict","dict.items",PySem.F.plainAttrs_dict,PySem.F.slot_dict_items,PySem.F.type_dict_items,Q,Y,am3 rfl (PySem.evalArgs_none ?_)⟩;refine qt M m c j ?_;have w:=i.kept (t':=u.toks) (h':=u.heap.push { cls:=.type "dict_items",data:=.fields #[.ref a] }) λb o e=>M7 _ e;refine p9 (d:=a) (od:=o) (es:=n) (ep:=E) ⟨_,N6 _ rfl,rfl,rfl⟩ (M7 _ m) j λp g keep=>?_;have I4:=w.kept (t':=u.toks) (h':=p) keep;have O:n.size=B.length:=by
  have A:=hp.length;rw[O8]at A;rw[A];exact(ap6 rel).symm
 refine⟨_,[_],_,_,_,rfl,I4,vS _ j O,⟨_,_,g⟩,λb Z=>?_,q⟩;have e:=N8.mp Z;rw[e];exact w.fpOk (N2 _) (w.hok.fresh (N2 _))
def Dp(te:TEd):TId:=λc M R=>te c M λd M1=>∃a,d=kn a/\R (a.map λp=>.tup [rT p.1,p.2]) M1
def Gp(te:TEd):TId:=λc M R=>te c M λd M1=>∃a,d=vk a/\R (a.map λp=>.tup [kD p.1,p.2]) M1
end
noncomputable abbrev LH(e f j m h t2 n:R6)(i g l:List R6)(a:am0)(c:Pos):R6:=lcE e [⟨f,j,i,0⟩,⟨m,h,g,0⟩,⟨t2,n,l,0⟩] a c
def ER(ms:List Bool)(k:Nat)(h:TId)(f:GD)(c:TTd)(w1:TId)(e:GD)(tc1:TTd)(i:TId)(g:GD)(a:TTd)(te:TEd):TEd:=B8 ms k h f c (fI w1 e tc1 (fI i g a (jS te)))
section
variable{X:Cx}{y:am0}{z:List (Str×O1)}{ms:List Bool}{ar:List Str}{L t0 Y t1 i1 t2 i2:R6}{f0 f1 f2:List R6}{pos:Pos}{w0 w1 w2:TId}{g0 g1 g2:GD}{I tc1 G:TTd}{te:TEd}
theorem J9(S:eP X y z ms ar)(R:X.calm=true)(P:QId X t0 Y w0)(O:PGa X y z ar t0 g0)(g:∀C s H a,QIf (aL X y z (X.N++ar) C s H a) f0 I)
  (M:∀C s H a,QId (aL X y z (X.N++ar) C s H a) t1 i1 w1) (n:PGa X y z ar t1 g1) (f:∀C s H a,QIf (aL X y z (X.N++ar) C s H a) f1 tc1)
  (w:∀C s H a,QId (aL X y z (X.N++ar) C s H a) t2 i2 w2) (q:PGa X y z ar t2 g2) (e:∀C s H a,QIf (aL X y z (X.N++ar) C s H a) f2 G) (he:∀C s H a,QEd (aL X y z (X.N++ar) C s H a) L te)
  (hs:∀x,T0 Y X.env x=al5 x:=by intro _;rfl) (j:∀C x,T0 i1 (aw0 y z C X.env) x=al5 x:=by intro _ _;rfl) (m:∀C x,T0 i2 (aw0 y z C X.env) x=al5 x:=by intro _ _;rfl) :
  QEd X (.ListComp L [⟨t0,Y,f0,0⟩,⟨t1,i1,f1,0⟩,⟨t2,i2,f2,0⟩] y pos) (ER ms ar.length w0 g0 I w1 g1 tc1 w2 g2 G te):=by
 simp only[QEd.eq,QId.eq,QIf.eq]at *
 obtain⟨Q,E,N⟩:=O;obtain⟨o,u,l⟩:=n;obtain⟨J,A,i⟩:=q;refine(DN (tc:=upT X.K I) (p:=Y.pos) (B:=rK (upI X.K w1) o (upT X.K tc1) (rK (upI X.K w2) J (upT X.K G) (mJ (up X.K te)))) S R P E g (λ_ _ _ _ _ c=>?_) hs).conv (qQ N λh=>me l (λh=>me i uq h) h);exact mw (wi:=upI X.K w1) (tc:=upT X.K tc1) c (mw (wi:=upI X.K w2) (tc:=upT X.K G) c (o8 (te:=up X.K te) (k:=2) (p:=i2.pos) c (he _ _ _ _) λ_ _ _=>rfl) (λ_ _ _=>rfl) (m _) (w _ _ _ _) (A _ _ _ _) (e _ _ _ _) (k:=1) (p:=i1.pos) λ_ _ _=>rfl) (λ_ _ _=>rfl) (j _) (M _ _ _ _) (u _ _ _ _) (f _ _ _ _) λ_ _ _=>rfl
end
section
variable{X:Cx}{e i o l:R6}{es:List R6}{te N L:TEd}{t:TAd}{G p Y cS bx:Pos}{f x:Str}{C:O1}{elts:List R6}{x1:Nat}{pt:Pos}
theorem CZ(h:QEd X e te):QEd X e (KZ te):=by
 simp only[QEd.eq]at *
 exact PE.conv h λs H Q a=>a.el λl M R f g q k=>⟨l,M,_,f,g,q,λd M1 v m ⟨p,j,o⟩ n c i=>k _ M1 v m o n c (xm (by rw[<-j];exact i))⟩
theorem Ae{x1}(h:QAd X es t):QEd X (.Tuple es x1 G) (Ga t):=by
 simp only[QEd.eq,QAd.eq]at *
 exact(pM h).conv λs H Q e=>e.el λl M R g j q k=>⟨l,M,_,g,j,q,λo M1 i u ⟨z,n⟩ m a f=>⟨by rw[<-f.length];exact z,λp c=>k _ M1 _ _ n (m.trans (Ext.new a c)) (a.new c)
   (o3.mpr ⟨p,i,rfl,⟨aO,a.fresh c⟩,f.ext (Ext.new a c)⟩)⟩⟩
theorem yO(E:X.A.units+1<af7)(B:QEd X o L)(U:QEd X i N)(hs:Aw i):QEd X (.Subscript o i G) (Co L N):=by
 simp only[QEd.eq]at *
 exact PE.conv (Ad E B U hs) λσ H Q e=>e.el λm M R h hr q k=>⟨m,M,_,h,hr,q,λx M1 v H1 p n f O=>⟨m,M1,_,h.ext n,f,p,λy M2 u S ⟨s,j,d,T,J,Y,q2⟩ l c I=>by
   subst J;obtain⟨a,C,rfl,Z,z⟩:=o5 c (O.ext l) T;obtain⟨b,rfl,P⟩:=mZ I;obtain⟨w,A,g⟩:=(z.val j).1 d Y;exact⟨a,w,rfl,.inr ⟨C,j,b,Z,rfl,P,A.symm⟩,k d M2 w S q2 (n.trans l) c g⟩⟩⟩
theorem Jw(E:X.A.units+1<af7)(B:QEd X o L)(T:QEd X i N)(hs:Aw i):QEd X (.Subscript o i G) (Gz L N):=by
 simp only[QEd.eq]at *
 exact PE.conv (Ad E B T hs) λσ H Q e=>e.el λm M R h hr q k=>⟨m,M,_,h,hr,q,λx M1 v H1 p n f O=>⟨m,M1,_,h.ext n,f,p,λy M2 u P ⟨s,j,d,S,J,U,Z⟩ l c I=>by
   subst J;obtain⟨a,C,rfl,Y,z⟩:=uJ c (O.ext l) S;obtain⟨w,A,g⟩:=(z.val j).1 d U;exact⟨a,w,rfl,.inl ⟨C,j,Y,qg I,A.symm⟩,k d M2 w P Z (n.trans l) c g⟩⟩⟩
theorem yx(hu:X.A.units+1<af7)(ho:QEd X o L)(hi:QEd X i N)(he:QEd X e te)(hs:ai1 e (some (.Subscript o i p)) G.line X.env=al5 false:=by rfl):QSd X (.Assign [.Subscript o i p] e G) (Ak L N te):=by
 simp only[QEd.eq,QSd.eq]at *
 exact PS.conv (uk hu ho hi he hs) λD σ H A=>A.el λg M E f hr q k=>⟨g,M,_,f,hr,q,λd M1 v H1 Z l m T=>⟨g,M1,_,f.ext l,m,Z,λx M2 u H2 U h s O=>⟨g,M2,_,(f.ext l).ext h,s,U,λy I w P ⟨a,B,C,ex,J,S,Y,R⟩ z c n=>by
   subst ex;subst S;simp only[Rep]at O;subst O;obtain⟨ks,h3,Q⟩:=c a _ J;obtain⟨b,rfl,hb⟩:=mZ n;have j:Ext I P (ay I a (.dT (gV B C d))) (upd P a (.dT (fu ks C v))):=Ext.write J;refine⟨a,_,rfl,uK.t h3 hb (by rw[<-Q.length];exact Y),?_⟩;exact k.nx g _ σ _ R (((l.trans h).trans z).trans j) (c.put j ⟨_,aO,(Q.put C ((T.ext h).ext z)).ext j⟩) ((((f.ext l).ext h).ext z).ext j)⟩⟩⟩
theorem yV(hu:X.A.units+1<af7)(ho:QEd X o L)(hi:QEd X i N)(he:QEd X e te)(m:M2 X o "get" cS i e bx):QEd X (.Call (.Attribute o "get" cS) [i,e] [] bx) (yP L N te):=by
 simp only[QEd.eq]at *
 exact PE.conv (vE hu ho hi he m) λσ H Q I=>I.el λB M R p hr q k=>⟨B,M,_,p,hr,q,λx M1 v H1 ⟨hx,q1⟩ n g T=>by
   obtain⟨Z,ex⟩:=X5.mp hx;obtain⟨a,s,rfl,h1,a0⟩:=o5 g T ex;refine⟨a,rfl,.inr ⟨s,h1⟩,B,M1,_,p.ext n,g,q1,λy M2 u H2 q2 j G ru=>?_⟩;refine⟨B,M2,_,(p.ext n).ext j,G,q2,λz S w U ⟨J,f,ea,ey,h⟩ l c C=>?_⟩;subst ey;obtain⟨a',O,P,h3,Y⟩:=o5 c ((T.ext j).ext l) ea;cases P;obtain⟨b,rfl,hb⟩:=mZ (ru.ext l);refine⟨iV O f,.inr ⟨O,f,b,h3,rfl,hb,rfl⟩,?_⟩;cases A:bM J f with
   |some d =>
    obtain⟨w',hw,E⟩:=(Y.val f).1 d A;rw[hw];rw[A]at h;exact k _ S _ U h ((n.trans j).trans l) c E
   |none =>
    have:=(Y.val f).2;rw[A]at this h;have hn:iV O f=none:=by simpa using this
    rw[hn];exact k _ S _ U h ((n.trans j).trans l) c C⟩
theorem EW(hu:X.A.units+1<af7)(ho:QEd X o L)(hi:QEd X i N)(he:QEd X e te)(m:M2 X o "get" cS i e bx):QEd X (.Call (.Attribute o "get" cS) [i,e] [] bx) (DV L N te):=by
 simp only[QEd.eq]at *
 exact PE.conv (vE hu ho hi he m) λσ H Q G=>G.el λA M R n hr q k=>⟨A,M,_,n,hr,q,λx M1 v H1 ⟨hx,q1⟩ l g T=>by
   obtain⟨Z,ex⟩:=X5.mp hx;obtain⟨a,p,rfl,h1,a0⟩:=uJ g T ex;refine⟨a,rfl,.inl ⟨p,h1⟩,A,M1,_,n.ext l,g,q1,λy M2 u H2 q2 j E ru=>?_⟩;refine⟨A,M2,_,(n.ext l).ext j,E,q2,λz S w U ⟨I,f,ea,ey,h⟩ O c B=>?_⟩;subst ey;obtain⟨a',J,P,h3,Y⟩:=uJ c ((T.ext j).ext O) ea;cases P;refine⟨iV J f,.inl ⟨J,f,h3,qg ru,rfl⟩,?_⟩;cases s:bM I f with
   |some d =>
    obtain⟨w',hw,C⟩:=(Y.val f).1 d s;rw[hw];rw[s]at h;exact k _ S _ U h ((l.trans j).trans O) c C
   |none =>
    have:=(Y.val f).2;rw[s]at this h;have hn:iV J f=none:=by simpa using this
    rw[hn];exact k _ S _ U h ((l.trans j).trans O) c B⟩
theorem kA(c:Cls X.K C)(n:eN X.K C f)(he:QEd X e te)(A:ac0 e f X.env (af8 e X.env)=af8 e X.env:=by rfl):QEd X (.Attribute e f G) (B7 C f te):=by
 simp only[QEd.eq]at *
 exact PE.conv (Jh he A) λO H Q h=>h.el λI M R u N q k=>⟨I,M,_,u,N,q,λd M1 v J ⟨a,fs,z,B,x,el,m⟩ L g j=>by
   subst B;simp only[Rep]at j;subst j;obtain⟨l,⟨E,o⟩,p⟩:=g a _ x;obtain⟨w,s,i⟩:=p.look el;exact⟨a,C,E,l,w,rfl,o,c,n,s,k z M1 w J m L g i⟩⟩
theorem uG(c:Cls X.K C)(n:eN X.K C f)(T:QEd X o L)(he:QEd X e te)(hs:ai1 e (some (.Attribute o f Y)) G.line X.env=al5 false:=by rfl):QSd X (.Assign [.Attribute o f Y] e G) (Gd C f L te):=by
 simp only[QEd.eq,QSd.eq]at *
 exact PS.conv (Ib T he hs) λD U H m=>m.el λl M E i S q k=>⟨l,M,_,i,S,q,λy M1 v Z R w j J=>⟨l,M1,_,i.ext w,j,R,λd M2 u A ⟨a,fs,O,x,N,Q⟩ p g z=>by
   subst O;simp only[Rep]at z;subst z;obtain⟨B,⟨s,P⟩,I⟩:=g a _ x;have h:Ext M2 A (ay M2 a (.ins C (vV f y fs))) (upd A a (.ins C s (L2.putF f v B))):=Ext.write x;refine⟨a,C,s,B,rfl,P,c,n,by rw[<-I.length];exact N,?_⟩;exact k.nx l _ U _ Q ((w.trans p).trans h) (g.put h ⟨_,⟨s,aO⟩,(KR.putF (J.ext p) I).ext h⟩) (((i.ext w).ext p).ext h)⟩⟩
theorem JC{k n:Nat}{S:SpD}(F:MkD X.prog X.w X.K X.mg X.base x C k n S)(hr:cQ (k+1) X.A)(hg:Gl X x)(ha:QAd X (e::es) t)(hdb:(x==("__debug__":Str))=false:=by decide)
  (he:O5 (e::es) X.env=(false,af8 e X.env)::O5 es X.env:=by rfl) (hpl:(ad7 G (O5 es X.env)).any (·.1)=false:=by rfl):QEd X (.Call (.Name x p) (e::es) [] G) (Gf C n S t):=by
 simp only[QEd.eq,QAd.eq]at *
 obtain⟨f,fd,ps,L,h2,h3,T⟩:=F.ex;refine PE.conv (Gb L h2 hr hg h3 T .nil Ce ha hdb he hpl) λσ H Q l=>l.el λΔ M R O hr q k=>⟨Δ,M,_,O,hr,q,λE M1 vs i ⟨Z,I⟩ e1 c Y=>?_⟩;intro a g A j m;rw[aa4];have s:upd i g (.own a) a=none:=by rw[aX (aa3 m)];exact A
 have z:Ext M1 i M1 (upd i g (.own a)):=Ext.new c j;have N:=c.new (o:=.own a) j;have u:Ext M1 (upd i g (.own a)) (ay M1 a (.ins C [])) (upd (upd i g (.own a)) a (.ins C g [])):=Ext.own s;have U:=N.put u ⟨[],⟨g,aO⟩,.nil⟩;refine⟨.ref a::E,_,_,by rw[O2];exact Z,aw.cons (by simp only[Rep]) ((Y.ext z).ext u),U,I a (c.fresh A),λd B v J ⟨ed,q2⟩ P w h=>?_⟩;subst ed;simp only[Rep]at h;exact⟨h,k _ B _ J q2 (((e1.trans z).trans u).trans P) w (by simp only[Rep])⟩
theorem IC(h:QEd X e te):QEd X e (BM te):=by
 simp only[QEd.eq]at *
 exact PE.conv (Fw h) λA H Q g=>g.el λw M R s z q k=>⟨w,M,_,s,z,q,λd M1 v B ⟨a,p,u,f,m⟩ x c l=>by
   subst u;simp only[Rep]at l;subst l;obtain⟨j,n,i⟩:=c a _ f;refine⟨a,j,rfl,n,λo=>k _ _ _ _ m (x.trans (lK f)) (DQ c f) ?_⟩;simp only[kn,Rep,i5];refine⟨a,j.map (·.2),rfl,⟨by rw[s0,s0];exact i.length,⟨o,?_⟩,fC⟩,(zL i).ext (lK f)⟩;rw[aO,i.keys,dX]⟩
theorem IV(h:QEd X e te):QEd X e (DP te):=by
 simp only[QEd.eq]at *
 exact PE.conv (Ft h) λA H Q g=>g.el λw M R s z q k=>⟨w,M,_,s,z,q,λd M1 v B ⟨a,p,u,f,m⟩ x c l=>by
   subst u;simp only[Rep]at l;subst l;obtain⟨j,n,i⟩:=c a _ f;refine⟨a,j,rfl,n,λo=>k _ _ _ _ m (x.trans (lK f)) (DQ c f) ?_⟩;simp only[vk,Rep,i5];refine⟨a,j.map (·.2),rfl,⟨by rw[s0,s0];exact i.length,⟨o,?_⟩,fC⟩,(zL i).ext (lK f)⟩;rw[aO,i.keys,dX]⟩
theorem Cn(he:QEd X l te)(gm:ac0 l "items" X.env (af8 l X.env)=af8 l X.env:=by rfl)(fK:(cS.endLine==bx.line)=true:=by rfl):QId X (.Tuple elts x1 pt) (.Call (.Attribute l "items" cS) [] [] bx) (Dp te):=by
 simp only[QEd.eq,QId.eq]at *
 exact λaf s O H R I h =>
  PI.conv (A7 he gm fK) (λO H R A=>A.el λΔ M R' sr hr q k=>⟨Δ,M,_,sr,hr,q,λd M1 v H1 ⟨c,ed,q1⟩ e1 C m=>by
   subst ed;simp only[kn,Rep,i5]at m;obtain⟨a,S,rfl,⟨J,⟨o,P⟩,Z⟩,rl⟩:=m;refine⟨a,o,_,rfl,P,k _ _ _ _ q1 e1 C ?_⟩;have j:KR X.K M1 H1 c ((c.map (·.1)).zip S):=by
    have:=rO J rl
    rwa [dX]at this
   have L:c.length=((c.map (·.1)).zip S).length:=j.length;intro M2 G N e i;have U:=(N a _ P Z).1;refine⟨λd g=>?_,λJ=>⟨U,?_⟩⟩
   ·rw[Q6]at g;cases q:c[i]? with
    |none=>rw[q]at g;cases g
    |some p =>
     rw[q]at g;cases g;have hi:i<c.length:=(N4.mp q).1;refine⟨⟨U,by rw[<-L];exact hi⟩,λx H' n=>?_⟩;obtain⟨T,f,k',Y,ex,E,hk,Q,eH⟩:=n;subst eH;subst ex;obtain⟨y,n,ek,m⟩:=fD (j.ext N) i p q;rw[hk]at n;cases n;have B:Ext M2 G M2 (upd G T (.tup [.ref f,Y])):=Ext.new e E;have hn:=e.new (o:=.tup [.ref f,Y]) E;refine⟨B,hn,?_⟩;have mq:M2 f=none:=by
      cases hm:M2 f with
      |none=>rfl
      |some u =>
       obtain⟨w,z,nw⟩:=(e f u hm).some;rw[Q]at z;cases z;exact absurd rfl (nw _).1
     have rk:Rep X.K M2 G (rT p.1) (.ref f):=o3.mpr ⟨f,_,rfl,⟨Q,mq⟩,by
      have:p.1=k':=ek;rw[this];exact u3 _⟩
     rw[Rep];exact⟨T,_,rfl,.inl ⟨.inl aO,e.fresh E⟩,aw.cons (rk.ext B) (aw.cons (Rep.ext m B) aw.nil)⟩
   ·rw[<-L];simpa using J⟩) af s O H R I h
theorem GW(he:QEd X l te)(gm:ac0 l "items" X.env (af8 l X.env)=af8 l X.env:=by rfl)(fK:(cS.endLine==bx.line)=true:=by rfl):QId X (.Tuple elts x1 pt) (.Call (.Attribute l "items" cS) [] [] bx) (Gp te):=by
 simp only[QEd.eq,QId.eq]at *
 exact λaf s G H R I h =>
  PI.conv (xU he gm fK) (λG H R n=>n.el λΔ M R' Y hr q k=>⟨Δ,M,_,Y,hr,q,λd M1 v H1 ⟨c,ed,S⟩ e1 w j=>by
   subst ed;simp only[vk,Rep,i5]at j;obtain⟨a,L,rfl,⟨A,⟨o,J⟩,Q⟩,U⟩:=j;refine⟨a,o,_,rfl,J,k _ _ _ _ S e1 w ?_⟩;have g:KR X.K M1 H1 c ((c.map (·.1)).zip L):=by
    have:=rO A U
    rwa [dX]at this
   have B:c.length=((c.map (·.1)).zip L).length:=g.length;intro M2 N E e i;have O:=(E a _ J Q).1;refine⟨λd f=>?_,λA=>⟨O,?_⟩⟩
   ·rw[Q6]at f;cases q:c[i]? with
    |none=>rw[q]at f;cases f
    |some p =>
     rw[q]at f;cases f;have hi:i<c.length:=(N4.mp q).1;refine⟨⟨O,by rw[<-B];exact hi⟩,λx H' m=>?_⟩;obtain⟨T,u,P,Z,z,hk,eH⟩:=m;subst eH;subst Z;obtain⟨y,m,ek,j⟩:=fD (g.ext E) i p q;rw[hk]at m;cases m;have C:Ext M2 N M2 (upd N T (.tup [kV u,P])):=Ext.new e z;have hn:=e.new (o:=.tup [kV u,P]) z;refine⟨C,hn,?_⟩;have e':p.1=u:=ek;rw[Rep];exact⟨T,_,rfl,.inl ⟨.inl aO,e.fresh z⟩,aw.cons (by rw[e'];exact lH) (aw.cons (Rep.ext j C) aw.nil)⟩
   ·rw[<-B];simpa using A⟩) af s G H R I h
end
noncomputable def LL(a:O1)(xs:List V):It :=
 ⟨λi H=>H a=some (.lst xs)/\i<xs.length,λi H x c=>c=H/\xs[xs.length-1-i]?=some x,λi _=>xs.length<=i⟩
theorem An{P:Q7}{w:U9}{K:u8}{Z:R6}(a it:O1)(xs:List V):m8 P w K Z (LL a xs) [it] it (λi h=>i<=xs.length/\h.IsRevIter it a ((xs.length:Int)-1-(i:Int))) where
 mem:=by simp
 obj:=λi h st b j=>by
  have e:b=it:=by simpa using j
  subst e;obtain⟨_,o,e,c,d⟩:=st;exact⟨o,e,λv z=>by rw[d]at z;cases z⟩
 keep:=λi h q st k=>⟨st.1,st.2.at λo e=>k it (by simp) o e⟩
 item:=by
  intro X J L hK Q i S s T H E I n st A;subst J L hK;obtain⟨U,hi⟩:=A;obtain⟨hz,B,nn,R,p⟩:=I.hok a _ U;have bp:=R.length;have m:xs.length-1-i<xs.length:=by lia
  obtain⟨u,hu,Y⟩:=R.get (show xs[xs.length-1-i]?=some xs[xs.length-1-i]by simp[m]);obtain⟨O,G,f2,N,C,M⟩:=n it (by simp);have ei:(xs.length:Int)-1-(i:Int)=((xs.length-1-i:Nat):Int):=by lia
  have f:=st.2;rw[ei]at f;refine wpAny_pyNext_rev_item f (items:=B.toArray) ⟨_,p,rfl,nn,rfl⟩ (x:=u) (by simpa using hu) λq g sb=>?_;have I1:Inv X S T H { s with heap:=q }:=I.turned (t':=s.toks) (λb o j e=>(sb.2 b j).trans e) O G N C M;obtain⟨o,e,c,d⟩:=id g;have e2:((xs.length-1-i:Nat):Int)-1=(xs.length:Int)-1-((i+1:Nat):Int):=by lia
  rw[e2]at g;exact⟨u,rfl,sJ (s:={ s with heap:=q }) e c d (by decide) ⟨xs[xs.length-1-i],H,I1,Y,⟨rfl,by simp[m]⟩,⟨hi,g⟩,λb j=>(n b j).1⟩⟩
 done:=by
  intro X J L hK Q i S s T H E I n st A;subst J L hK;obtain⟨O,G,f2,N,C,M⟩:=n it (by simp);have e:i=xs.length:=Nat.le_antisymm st.1 A;subst e;have f:=st.2;rw[show(xs.length:Int)-1-(xs.length:Int)=-1 by lia]at f;exact wpAny_pyNext_rev_end (I.ok.hd Q) f λq eb=>⟨rfl,I.turned (t':=s.toks) (λb o j e=>eb b o j e) O G N C M⟩
 self:=λ_ _ _ _ _ st h=>wpAny_pyIter_revIter st.2 h
section
variable{X:Cx}{a b c e o i:R6}{es:List R6}{te L tb N Y:TEd}{t:TAd}{G:Pos}{tg iter:R6}
def CH(L:TAd):TId:=λc M R=>L c M λa M1=>∃es,a=[.lst es]/\(es.length<=N7->R es.reverse M1)
theorem F2{p:Pos}(hg:Gl X "reversed")(hm:X.mg "reversed"=none)(ha:QAd X [a] t)(hs:O5 [a] X.env=[(false,af8 a X.env)]:=by rfl):QId X tg (.Call (.Name "reversed" p) [a] [] G) (CH t):=by
 simp only[QAd.eq,QId.eq]at *
 intro af s σ H R I hh;obtain⟨Y,M,Q,P,hr,q,k⟩:=hh;refine Call_ (gn I hg hm rY (X4 (thn (ha G af s σ H (λh g=>∃es M1,aw X.K M1 g [.lst es] h/\(es.length<=N7->Q es.reverse M1)/\Ext M H M1 g/\HR X.K M1 g) I ⟨Y,M,_,P,hr,q,λds M1 h g ⟨es,U,A⟩ j f u=>⟨es,M1,by rw[<-U];exact u,A,j,f⟩⟩) λus w ⟨h,g,B,r1,es,M1,u,A,j,f⟩=>?_) hs));obtain⟨v,rfl,E⟩:=u.one;cases r1 with
 |cons r S =>
  cases S;simp only[Rep]at E;obtain⟨ad,h,rfl,L,J⟩:=E;cases r;obtain⟨hz,c,nn,C,pt⟩:=B.hok ad _ L.1;have O:=C.length;have m:=J.length;refine call_reversed_list (items:=c.toArray) ⟨_,pt,rfl,nn,rfl⟩ ?_;refine wpAny_pyIter_revIter (l:=ad) (i:=(c.toArray.size:Int)-1) ⟨_,N6 _ rfl,rfl,rfl⟩ ?_;refine⟨w.heap.objs.size,[w.heap.objs.size],_,_,g,rfl,B.kept (t':=w.toks) λb o e=>M7 _ e,An ad _ h,⟨O3 _,_,N6 _ rfl,rfl,?_⟩,uB (o:=ac4) B,?_⟩
  ·show Data.fields _=_;have j:(c.toArray.size:Int)-1=(h.length:Int)-1-((0:Nat):Int):=by simp;lia
   rw[j]
  ·refine k _ M1 _ g (A (by lia)) j f λM2 H2 N z i=>⟨λd n=>?_,λT=>by show h.length<=i;rw[<-m];simpa using T⟩;have hi:i<es.length:=by
    have:=(N4.mp n).1;simpa using this
   rw[List.getElem?_reverse hi]at n;obtain⟨v,gv,r⟩:=J.get n;refine⟨⟨(L.ext N).1,by lia⟩,λx H' ⟨Z,y⟩=>?_⟩;subst Z;rw[<-m,gv]at y;cases y;exact⟨Ext.refl _ _,z,r.ext N⟩
theorem Iq{i:List (O1×Obj)}{σ:St}{H:Hp}{s:N1}{b:O1}{ks:List Key}(I:Inv X i σ H s)(h:SqT X.K H b (ks.map kV)):(ao4 (bo X.prog X.w)).is s.heap ks b:=by
 obtain⟨a,r,p,_⟩:=I.tuple h;obtain⟨f,c,e,n,g⟩:=p;exact⟨f,a.toArray,n,c,e,g,by simpa using nG r⟩
def Jk(K:u8)(g ty:TE):TE:=λf H Q=>g f H λx h=>ty f h λy e=>∃a b c k v,x=.ref a/\y=.ref b/\Rd e a (.dT c)/\SqT K e b (k.map kV)/\iV c k=some v/\Q v e
theorem Dt{m ty:TE}(U:X.A.units+1<af7)(S:PE X o m)(hi:PE X i ty)(hs:Aw i):PE X (.Subscript o i G) (Jk X.K m ty):=by
 intro q s w H Q I h;refine zd PySem.F.slot_dict_getitem.lookup hs (thn (S q s w H _ I h) λu B g=>g.el λx J P O L=>thn (hi q B w J _ P L) λZ s2 ⟨y,C,f,Y,a,b,N,k,v,T,A,e,eb,l,E⟩=>?_);subst T;subst A;obtain rfl:u=U4 a:=O;cases(show Z=U4 b from Y);obtain⟨z,hd,M,rel,n⟩:=oy f.hok e;refine⟨n.typeIs,?_⟩;obtain⟨w',R,c⟩:=ku.some_of (v:=v) (o:=(atKey M k).map (·.2)) (by rw[<-l];exact rel.val k);obtain⟨p,hp,j⟩:=Option.map_eq_some_iff.mp R;refine wpAny_getItem_heap (ai4 U) (Iq f eb) n hp ?_;rw[j];exact⟨v,C,f.tok _,c,E⟩
def Gx(N Y:TEd):TEd:=λe M Q=>N e M λx M1=>Y e M1 λy M2=>∃a c d,asT M2 x=some a/\y=.tup (c.map kD)/\bM a c=some d/\Q d M2
theorem Jl(J:X.A.units+1<af7)(E:QEd X o N)(T:QEd X i Y)(hs:Aw i):QEd X (.Subscript o i G) (Gx N Y):=by
 simp only[QEd.eq]at *
 exact PE.conv (Dt J E T hs) λσ H Q e=>e.el λn M R h hr q k=>⟨n,M,_,h,hr,q,λx M1 v H1 s p f O=>⟨n,M1,_,h.ext p,f,s,λy M2 u P ⟨z,l,d,S,L,U,q2⟩ m c j=>by
   subst L;obtain⟨a,I,rfl,Z,A⟩:=o5 c (O.ext m) S;simp only[Rep]at j;obtain⟨b,vs,rfl,tb,B⟩:=j;obtain⟨w,C,g⟩:=(A.val l).1 d U;refine⟨a,b,I,l,w,rfl,rfl,Z,?_,C,k d M2 w P q2 (p.trans m) c g⟩;rw[<-lU B];exact tb.sq⟩⟩
end
section
variable{X:Cx}{a b:R6}{Y tb:TEd}{G L:TE}{N:Pos}
def IW(G L:TE):TE:=λc H Q=>∀p,H p=none->G c (upd H p (.dT [])) λx f=>L c f λy a=>∃b e,x=.ref b/\a p=some (.dT [])/\a b=some (.tup (e.map kV))/\Q (.ref p) (upd a p (.dT [(e,y)]))
theorem BE(hu:X.A.units+1<af7)(hk:PE X a G)(Z:PE X b L):PE X (.Dict [some a] [b] N) (IW G L):=by
 intro E s w H Q I q;have hn:=I.hok.fresh (N2 s.heap.objs.size);have O:=I.laid (a:=s.heap.objs.size) (o:=.dT []) (h':=s.heap.push { cls:=.type "dict",data:=.dict #[] }) (t':=s.toks) (λ_ _ q=>M7 _ q) (N2 _) (wF s.heap I.big);refine wpAny_Dict_any rfl rfl (by simp) (by simp) (pairTrees_cons_walk (thn (hk E _ w _ _ O (q _ hn)) λu s1 g=>g.el λx H1 I2 M q1=>thn (Z E s1 w H1 _ I2 q1) λw2 s2 ⟨y,H2,m,T,bb,f,S,j,B,q2⟩=>pairTrees_nil_walk ?_));subst S;cases(show u=U4 bb from M);obtain⟨z,P,xs,rel,dd⟩:=GV m.hok j;have h:xs=[]:=by cases rel;rfl
 subst h;unfold storeAll;simp only[List.forIn_cons,List.forIn_nil];refine o0 (o0 (wpAny_dictSet_heap (knd:=ao4 (bo X.prog X.w)) (hsz:=by simp) (by show X.A.units<af7;exact T8 (by assumption)) (k6 m.hok B) dd λU l J=>M9 (M9 ?_)));obtain⟨n,R,i,p,h2,h3,Y,_,h5⟩:=l;have e:fu ([]:List (List Key×V)) f y=[(f,y)]:=rfl;have C:=mE (t':=s2.toks+(ao4 (bo X.prog X.w)).draws f) (ob:=.dT (fu [] f y)) m (by rw[j];exact al8) J ⟨n,p⟩ ⟨by rw[e,O7,af3];decide,P,_,(rel.put f B T).keeps λc ys A=>by
  rw[aX (Gv A j (λz=>nomatch z))];exact A,n,R,i,p,h2,h3,Y,h5⟩
 rw[e]at C;exact⟨.ref s.heap.objs.size,_,C,rfl,q2⟩
def CT(G L:TEd):TEd:=λc M Q=>∀p,M p=none->G c (ay M p (.dT [])) λx M1=>L c M1 λy M2=>∃a,x=rT a/\M2 p=some (.dT [])/\Q (.ref p) (ay M2 p (.dT [(a,y)]))
theorem EY(G:X.A.units+1<af7)(ha:QEd X a Y)(i:QEd X b tb):QEd X (.Dict [some a] [b] N) (CT Y tb):=by
 simp only[QEd.eq]at *
 exact PE.conv (BE G ha i) λS H Q f=>f.el λs M R l A q k=>λp z=>by
   have e:Ext M H (ay M p (.dT [])) (upd H p (.dT [])):=Ext.own z;refine⟨s,_,_,l.ext e,A.put e ⟨[],aO,.nil⟩,q p (A.fresh z),λx M1 v U B w g J=>⟨s,M1,_,(l.ext e).ext w,g,B,λy M2 u n ⟨h,E,m,P⟩ o c I=>?_⟩⟩;subst E;obtain⟨T,O,C⟩:=c p _ m;cases C;obtain⟨L,rfl,i⟩:=mZ (J.ext o);have j:Ext M2 n (ay M2 p (.dT [(h,y)])) (upd n p (.dT [(h,u)])):=Ext.write m;exact⟨L,h,rfl,O,i,k _ _ _ _ P ((e.trans (w.trans o)).trans j) (c.put j ⟨_,aO,.cons ⟨rfl,I.ext j⟩ .nil⟩) (by simp only[Rep])⟩
end
noncomputable def z5:D->Option D
 |.box (.dk a) _=>some (.lst (a.map kD))
 |_=>none
theorem zC{kvs:List (Key×D)}:z5 (vk kvs)=some (.lst (kvs.map λp=>kD p.1)):=by
 show some (D.lst ((kvs.map (·.1)).map kD))=_;rw[P9];rfl
theorem sX{P:Q7}{w:U9}:∀{ks:List (Key×V)}{a:List M0},a.length=ks.length->(∀(j:Nat) (v:M0),a[j]?=some v->∃k x,ks[j]?=some (k,x)/\aQ (kV k) v)->aH (ks.map λp=>kV p.1) a
 |[],a,h,_=>by
  have:a=[]:=List.eq_nil_of_length_eq_zero h;subst this;exact .nil
 |_::_,[],h,_=>by cases h
 |p::ks,u::a,h,c=>by
  rw[N5];obtain⟨k,x,e,r⟩:=c 0 u rfl;cases e;exact .cons r (sX (P:=P) (w:=w) (ax3 h) λj v f=>c (j+1) v (by simpa using f))
section
variable{X:Cx}
theorem yC(R:X.calm=true):dN X (.type "list") (λxs H Q=>∃p ks o,xs=[.ref p]/\H p=some (.frz o (.dK ks))/\∀l,H l=none->Q (.ref l) (upd H l (.lst (ks.map λp=>kV p.1)))):=by
 intro af s σ H xs us Q I r h;obtain⟨p,ks,o,rfl,M,q⟩:=h;obtain⟨u,rfl,E⟩:=oa r;cases E;obtain⟨ho,A,C,i,rel,o',L,m,T,c,J,hr⟩:=I.hok p _ M;have G:s.heap.DictAt (bo X.prog X.w) p i m:=⟨o',L,T,c,J,hr⟩;have n:ks.length=i.length:=rel.length;refine PySem.W.kdl_call (PySem.W.kdl_dict (knd:=bo X.prog X.w) (kvs:=i) (ep:=m) C) (I.ok.hd R) G (by rw[<-n];exact A) λO S f c' kp e a=>?_;have U:aH (ks.map λp=>kV p.1) f.toList:=sX (P:=X.prog) (w:=X.w) (by rw[O8,a.1,n]) λj v N=>by
  obtain⟨k,x,B,hk⟩:=a.2 j v (by rw[<-W7];exact N);have g:j<ks.length:=by rw[n];exact(N4.mp B).1
  obtain⟨y,z,Z,_⟩:=fD rel j ks[j] (by simp[g]);rw[B]at z;cases z;refine⟨k,ks[j].2,?_,Al hk⟩;rw[N0 g];have Y:ks[j].1=k:=Z;rw[<-Y]
 exact⟨.ref s.heap.objs.size,_,I.laid (t':=S) kp (N2 _) (show cu X.prog X.w _ O _ (.lst _)from⟨by rw[s0];exact A,f.toList,c',U,e⟩),rfl,q _ (I.hok.fresh (N2 _))⟩
theorem sG{K:u8}{M:DH}{H:Hp}:∀{ks:List Key}{a:List V},ks.length=a.length->aw K M H (ks.map kD) ((ks.zip a).map λp=>kV p.1)
 |[],a,_=>by simp only[an0,List.zip_nil_left];exact aw.nil
 |k::ks,[],h=>by cases h
 |k::ks,v::a,h=>by
  rw[N5,List.zip_cons_cons,N5];exact aw.cons lH (sG (ax3 h))
theorem EG(i:X.calm=true):bX X (.type "list") (lr z5):=bX.of (yC i) λH M x g w Q n m e q=>by
 obtain⟨d,rfl,c⟩:=cK e;clear e;obtain⟨v,rfl,r⟩:=kY m;cases d with
 |box t g =>
  cases t with
  |dk s =>
   cases c;simp only[ba,Rep,i5]at r;obtain⟨a,u,rfl,⟨j,⟨o,h⟩,_⟩,p⟩:=r;exact⟨a,_,o,rfl,h,λl f=>gN n f (sG j) q⟩
  |_=>cases c
 |_=>cases c
noncomputable def FB:List Int->Option Int
 |[]=>none
 |n::a=>some (a.foldl max n)
theorem nk:∀(ns:List Int) (n:Int),(∀a∈n::ns,a<=ns.foldl max n)/\ns.foldl max n∈n::ns
 | [],n => ⟨λa h => by
   rw[N8.mp h];exact ay7 _,V8⟩
 |m::ns,n=>by
  obtain⟨f,g⟩:=nk ns (max n m);rw[aa6];have i:=f (max n m) (.head _);refine⟨λa h=>?_,?_⟩
  ·rcases O9.mp h with e|h
   ·lia
   ·rcases O9.mp h with e|h
    ·lia
    ·exact f a (.tail _ h)
  ·rcases O9.mp g with e|h
   ·by_cases c:n<=m
    ·have:ns.foldl max (max n m)=m:=by lia
     rw[this];exact .tail _ (.head _)
    ·have:ns.foldl max (max n m)=n:=by lia
     rw[this];exact .head _
   ·exact .tail _ (.tail _ h)
def Fi:D->Option D
 |.lst a=>((iJ a).bind FB).map D.int
 |_=>none
theorem Iu{ns:List Int}:Fi (.lst (ns.map D.int))=(FB ns).map D.int:=by simp only[Fi,rN,at2]
theorem GX(Z:X.calm=true):bX X (.builtin "max") (lr Fi):=by
 intro S s R H M xs us w dz Q I hr p rp e k;obtain⟨d,rfl,c⟩:=cK e;clear e;obtain⟨v,rfl,r⟩:=kY rp;obtain⟨u,rfl,U⟩:=aH.one p;cases d with
 |lst w =>
  simp only[Fi]at c;cases q:iJ w with
  |none=>rw[q]at c;cases c
  |some f =>
   rw[q]at c;cases f with
   |nil=>cases c
   |cons n f =>
    cases c;obtain⟨l,vs,rfl,sq,J⟩:=r;cases U;obtain⟨C,p,Y,hz⟩:=I.list (SqL.of sq);obtain⟨a,e1,g⟩:=tU q J p;have m:0<a.size:=by
     have h:=congrArg ad2 g;simp at h;lia
    refine max_intList (xs:=a) (I.ok.hd Z) (by rw[<-e1];exact Y.isList) m λv T A hv P=>?_;obtain⟨t,rfl⟩:=intItems_at hv;obtain⟨B,h2⟩:=argBest_gt (numAt a) (a.size-1);have E:Inv X S R H { s with heap:=T,toks:=A }:=I.kept (t':=A) P;refine⟨.int _,H,E,⟨_,rfl⟩,k _ H (Ext.refl _ _) hr ?_⟩;obtain⟨m1,x⟩:=nk f n;have L:∀j,j<a.size->numAt a j∈n::f:=λj o=>by
     rw[numAt_eq,g];exact getD_mem (by rw[<-g,s0,O8];exact o)
    have G:=m1 _ (L _ (am5 B (by lia)));have N:f.foldl max n<=numAt a (argBest (λi j=>decide (numAt a i > numAt a j)) (a.size-1)):=by
     rw[<-g]at x;obtain⟨j,o,O⟩:=mem_getD x;rw[s0,O8]at o;rw[<-O,<-numAt_eq];exact h2 j (by lia)
    have:numAt a (argBest (λi j=>decide (numAt a i > numAt a j)) (a.size-1))=f.foldl max n:=Int.le_antisymm G N;rw[this];simp[Rep]
 |_=>cases c
end
noncomputable def KC(s:af0)(i:Nat):af0:=match s with
 |.ClassDef _ _ _ b _ _ _ _ _ _ _=>b.getD i (.Pass ⟨0,0,0,0⟩)
 |_=>.Pass ⟨0,0,0,0⟩
def Cd(K:u8)(c:Str->Option M0)(x:Str)(ks:List Key):Prop:=∃a,c x=some (.ref a)/\SqT K (λ_=>none) a (ks.map kV)
section
variable{X:Cx}{x:Str}{ks:List Key}{y:Pos}
theorem vi(hg:Gl X x)(e:Cd X.K X.mg x ks)(i:(x==("__debug__":Str))=false:=by decide):QEd X (.Name x y) (dC (.tup (ks.map kD))):=by
 simp only[QEd.eq]at *
 obtain⟨a,f,g⟩:=e;refine PE.conv (uj (v:=.ref a) hg f rfl i) λl H Q c=>c.el λm M R j h q k=>?_;refine k _ M _ H q (Ext.refl _ _) h ?_;simp only[Rep];exact⟨a,_,rfl,.inr g,u3 ks⟩
end
noncomputable def Ky:D->Option D
 |.int i=>some (.int i)
 |.bl k=>some (.int (if k then 1 else 0))
 |_=>none
theorem G3{k:Bool}:Ky (.bl k)=some (.int (if k then 1 else 0)):=rfl
theorem Ls{X:Cx}:bX X (.type "int") (lr Ky):=bX.of Bs λH M j g h Q c f e q=>by
 obtain⟨d,rfl,a⟩:=cK e;clear e;obtain⟨v,rfl,r⟩:=kY f;cases d with
 |int i=>cases a;rw[jo r];exact .inl ⟨i,rfl,q _ H (Ext.refl _ _) c (by simp[Rep])⟩
 |bl k=>cases a;rw[rBl r];exact .inr ⟨k,rfl,q _ H (Ext.refl _ _) c (by simp[Rep])⟩
 |_=>cases a
noncomputable def ltS(a b:Str):Bool:=decide (a.cps.toList<b.cps.toList)
def leS(a b:Str):Bool:=!ltS b a
theorem B0{a b:Str}(h:a.cps.toList=b.cps.toList):a=b:=by
 cases a;cases b;simp only[Str.mk.injEq];exact Array.toList_inj.mp h
theorem vB(a:Str):ltS a a=false:=decide_eq_false (List.lt_irrefl _)
theorem j8{a b c:Str}(f:ltS a b=true)(e:ltS b c=true):ltS a c=true:=decide_eq_true (List.lt_trans (of_decide_eq_true f) (of_decide_eq_true e))
theorem ph{a b:Str}(e:ltS a b=false)(c:ltS b a=false):a=b :=
 B0 (List.le_antisymm (List.not_lt.mp (of_decide_eq_false c)) (List.not_lt.mp (of_decide_eq_false e)))
theorem zj{a b c:Str}(h:ltS a c=true):ltS a b=true∨ltS b c=true:=by
 cases f:ltS a b with
 |true=>exact .inl rfl
 |false =>
  refine .inr ?_;cases e:ltS b a with
  |true=>exact j8 e h
  |false=>rw[<-ph f e];exact h
def KI:ak3 where
 α:=Str
 blt:=ltS
 irrefl:=vB
 trans _ _ _:=j8
 negTrans _ _ _:=zj
 total _ _:=ph
theorem DY{a b:Str}(e:leS a b=true)(c:leS b a=true):a=b:=ph (by simpa[leS]using c) (by simpa[leS]using e)
def aT(ps:List Str):List Str:=ps.mergeSort leS
theorem br(ps:List Str):(aT ps).Perm ps:=List.mergeSort_perm _ _
theorem vZ(ps:List Str):(aT ps).Pairwise λa b=>leS a b=true :=
 List.pairwise_mergeSort (λa b c f e=>by
  simp only[leS,Bool.not_eq_true']at *
  cases h:ltS c a with
  |false=>rfl
  |true =>
   rcases zj (b:=b) h with z|z
   ·rw[e]at z;cases z
   ·rw[f]at z;cases z) (λa b=>by
  cases h:leS a b with
  |true=>rfl
  |false =>
   have g:ltS b a=true:=by simpa[leS]using h
   cases e:ltS a b with
   |false=>simp[leS,e]
   |true=>have:=j8 g e;rw[vB]at this;cases this) ps
theorem qN{ps c:List Str}(h:c.Perm ps)(hs:c.Pairwise λa b=>leS a b=true):c=aT ps :=
 av6.eq_of_pairwise (le:=λa b=>leS a b=true) (λa b _ _ e f=>DY e f) hs (vZ ps) (h.trans (br ps).symm)
section
variable{X:Cx}{y:List (O1×Obj)}{s:N1}{σ:St}{H:Hp}{M:DH}
theorem qx(ns:List Str):(Q0 ns.length).map (λi=>ns.getD i ac4)=ns:=by
 apply List.ext_getElem (by simp);intro i c a;simp[N0 a]
theorem D6{K:u8}{ns:List Str}{c:List V}{a:List M0}(l:aw K M H (ns.map D.str) c)(e:aH c a){i:Nat}(h:i<ns.length):∃t,a[i]?=some (.str ns[i] t):=by
 obtain⟨v,g,r⟩:=l.get (i:=i) (d:=D.str ns[i]) (by simp[h]);obtain⟨u,j,f⟩:=e.get g;simp only[Rep]at r;subst r;obtain⟨t,rfl⟩:=f;exact⟨t,j⟩
theorem uc{K:u8}{ns:List Str}{e:List V}(c:aw K M H (ns.map D.str) e):∀{l:List Nat},(∀i∈l,i<ns.length)->aw K M H ((l.map λi=>ns.getD i ac4).map D.str) (l.map λi=>e.getD i .non)
 |[],_=>rfl
 |i::l,h=>by
  have a:=h i (.head _);obtain⟨v,g,r⟩:=c.get (i:=i) (d:=D.str ns[i]) (by simp[a]);simp only[N5,aw];refine⟨v,_,?_,?_,uc c λj f=>h j (.tail _ f)⟩
  ·rw[S5,g];rfl
  ·rw[S5,N0 a];exact r
theorem Dz(I:Inv X y σ H s)(hr:HR X.K M H){ns:List Str}(a2:ns.length<64){l:O1}{T:String}{o:Obj}{n:Nat}{B:List V}{f:List M0}(R:aw X.K M H (ns.map D.str) B)(L:aH B f)(Y:B.length<=N7)
  (hT:T="list"∨T="tuple") (hg:s.heap.get? l=some o) (Z:o.cls=.type T) (hd:o.data=.seq f.toArray n) {Q:VK}
  (k:∀w A,Ext M H M A->HR X.K M A->Rep X.K M A (.lst ((aT ns).map D.str)) w->Q w A):P6 (R4 X.prog X.w) X.A (call (.builtin "sorted") [.ref l]) (EP X y σ Q) X.xe s:=by
 have E:ns.length=f.length:=by rw[<-L.length,<-R.length,s0]
 have at_:=λi (e:i<ns.length)=>D6 R L e;have m:∀i (e:i<ns.length),ns.getD i ac4=ns[i]:=λi e=>by rw[S5,N0 e];rfl
 refine Ao (O:=KI) (key:=λi=>ns.getD i ac4) (κ:=oneType') hT hg Z hd (by lia) (λs1 Q' two kp q=>?_) (λi j s1 C e h kp q=>?_) λh1 p x c h' a0 N hs hx kp ho=>?_
 ·exact PySem.W.kas_kind (T:=.type "str") two (λv hv=>by
   obtain⟨i,e⟩:=af4.mp hv;have U:i<ns.length:=by rw[E];exact(N4.mp e).1
   obtain⟨t,g⟩:=at_ i U;rw[g]at e;cases e;exact PySem.W.Looks.of_pure rfl) rfl rfl q
 ·rw[<-E]at e h;obtain⟨t,g⟩:=at_ i e;obtain⟨u,g'⟩:=at_ j h;show P6 _ _ (keyLt' _ _ _) _ _ _;rw[j7 g,j7 g'];refine PySem.W.kas_lt_str ?_;have q':C (ltS (ns.getD i ac4) (ns.getD j ac4)) s1:=q
  rwa [m i e,m j h]at q'
 ·have J:∀i∈p.toList,i<ns.length:=λi e=>by rw[E];exact R0.mp (N.mem_iff.mp e)
  have G:B.length=f.length:=L.length;have lo:(p.toList.map λi=>B.getD i .non).length=f.length:=by rw[s0,O8];exact N.size
  have I1:Inv X y σ H { s with heap:=h1,toks:=s.toks }:=I.kept a0;have I2:=I1.laid (t':=s.toks) (o:=.lst (p.toList.map λi=>B.getD i .non)) kp hx (show cu X.prog X.w _ h' x (.lst _)from⟨by rw[lo,<-G];exact Y,jy f p,c,t5 L (λi e=>by rw[G,<-E];exact J i e),ho⟩);have es:(p.toList.map λi=>ns.getD i ac4)=aT ns:=by
   have P:p.toList.Perm (Q0 ns.length):=by rw[E];exact N
   have hm:=P.map λi=>ns.getD i ac4;rw[qx]at hm;refine qN hm ?_;rw[ae8];intro i j e h S;have sz:p.size=f.length:=N.size;rw[s0,O8]at e h;have:=hs i j (T8 S) (by lia);have e1:kp_ p i=p.toList[i]'(by simpa using e):=by simp[kp_,ac6,e]
   have e2:kp_ p j=p.toList[j]'(by simpa using h):=by simp[kp_,ac6,h]
   have g:leS (ns.getD (kp_ p i) ac4) (ns.getD (kp_ p j) ac4)=true:=by
    have z:ltS (ns.getD (kp_ p j) ac4) (ns.getD (kp_ p i) ac4)=false:=this;simp only[leS,z,ao7]
   rw[e1,e2]at g;simpa using g
  refine⟨.ref x,_,I2,rfl,gN hr (I1.hok.fresh hx) (uc R J) λw A a b c=>?_⟩;rw[es]at c;exact k w A a b c
noncomputable def kM:List D->Option (List Str)
 |[]=>some []
 |.str x::a=>(kM a).map (x::·)
 |_=>none
theorem t9:∀{ns:List Str},kM (ns.map D.str)=some ns
 |[]=>rfl
 |n::ns=>by simp[kM,t9 (ns:=ns)]
theorem yB:∀{ds:List D}{ns:List Str},kM ds=some ns->ds=ns.map D.str:=by
 intro ds
 induction ds using kM.induct with
 |case1=>intro ns e;cases e;rfl
 |case2 i ds ih =>
  intro ns e;simp only[kM]at e;cases q:kM ds with
  |none=>rw[q]at e;cases e
  |some a=>rw[q]at e;cases e;rw[ih q];rfl
 |case3 ds c f=>intro ns e;unfold kM at e;split at e<;>simp_all
def z9:D->Option D
 |.lst a=>if a.length<64 then(kM a).map λc=>.lst ((aT c).map D.str)else none
 |_=>none
theorem zp{ns:List Str}(h:ns.length<64):z9 (.lst (ns.map D.str))=some (.lst ((aT ns).map D.str)):=by simp[z9,t9,h]
theorem zO:bX X (.builtin "sorted") (lr z9):=by
 intro y s σ H M R L i O Q I J g E e k;obtain⟨d,rfl,f⟩:=cK e;clear e;obtain⟨v,rfl,r⟩:=kY E;obtain⟨u,rfl,A⟩:=aH.one g;cases d with
 |lst i =>
  obtain⟨l,N,rfl,sq,p⟩:=r;cases A;obtain⟨m,g,B,G⟩:=I.list (SqL.of sq);obtain⟨o,z,C,n,x⟩:=B.isList;simp only[z9]at f
  split at f
  ·rename_i h;cases q:kM i with
   |none=>rw[q]at f;cases f
   |some P =>
    rw[q]at f;cases f;have:=yB q;subst this;exact Dz I J (by simpa using h) p g G (.inl rfl) z C x λw j a b c=>k w j a b c
  ·cases f
 |_=>cases f
end
section
variable{X:Cx}
noncomputable def nq(x y:D):Option D:=match y with
 |.lst a=>if dLe x 59=true/\cT a 59=true then some (.bl (!(a.any λd=>eqD d x)))else none
 |.tup a=>if dLe x 59=true/\cT a 59=true then some (.bl (!(a.any λd=>eqD d x)))else none
 |_=>none
theorem DA{x:D}{ds:List D}:nq x (.lst ds)=if dLe x 59=true/\cT ds 59=true then some (.bl (!(ds.any λd=>eqD d x)))else none:=rfl
theorem CJ{x:D}{ds:List D}:nq x (.tup ds)=if dLe x 59=true/\cT ds 59=true then some (.bl (!(ds.any λd=>eqD d x)))else none:=rfl
theorem yj{h:Q9}{a:O1}{xs:Array M0}(p:aw8 h a xs):h.IsTuple a xs:=by
 obtain⟨o,e,f,n,c⟩:=p;exact⟨o,e,f,n,c⟩
open Classical in
theorem vI(hu:X.A.units+64<af7):cC X (V4 .NotIn) nq:=by
 intro af s σ H M x y v u dx dy dz Q I hr rx ry r1 r2 e k;cases dy with
 |lst c =>
  simp only[nq]at e
  by_cases g:dLe dx 59=true/\cT c 59=true
  ·rw[if_pos g]at e;cases e;obtain⟨l,U,rfl,sq,m⟩:=r2;cases ry;obtain⟨a,r,C,hz⟩:=I.list (SqL.of sq);have Z:c.length=a.length:=m.length.trans r.length;have at_:∀j (h:j<c.length) (f:j<a.length),PySem.SeqAt.EqAt X.A.in1 s a[j] v (eqD c[j] dx):=λj h f=>by
    obtain⟨Y,G,o⟩:=m.get (i:=j) (d:=c[j]) (by simp[h]);obtain⟨E,S,P⟩:=r.get G;have O:a[j]=E:=by simpa[N0 f]using S
    rw[O];exact(qY I 59 (by show X.A.units+1+59<af7;omega) (g9 g.2 (i:=j) (by simp[h])) g.1 o.r r1 P rx).1
   refine SeqAt.notIn_listAt (λw=>decide (∃j,∃h:j<c.length,∃f:j<a.length,a[j]=w/\eqD c[j] dx=true)) C.isList (λw p=>?_) ⟨.bl _,H,I,rfl,?_⟩
   ·obtain⟨i,n,rfl⟩:=ad6.mp (show w∈a by simpa using p)
    by_cases q:∃j,∃h:j<c.length,∃f:j<a.length,a[j]=a[i]/\eqD c[j] dx=true
    ·rw[decide_eq_true q];obtain⟨j,h,f,R,N⟩:=q;rw[<-R,<-N];exact at_ j h f
    ·rw[decide_eq_false q];have:=at_ i (by omega) n
     rwa [show eqD c[i] dx=false from Bool.eq_false_iff.mpr λz=>q ⟨i,by omega,n,rfl,z⟩]at this
   ·have J:a.toArray.any (λw=>decide (∃j,∃h:j<c.length,∃f:j<a.length,a[j]=w/\eqD c[j] dx=true))=c.any λd=>eqD d dx:=by
     rw[W0,List.any_toArray,ab0,ab0];constructor
     ·rintro⟨w,_,h⟩;obtain⟨j,T,_,_,L⟩:=of_decide_eq_true h;exact⟨c[j],V0 _,L⟩
     ·rintro⟨d,A,h⟩;obtain⟨j,B,rfl⟩:=ad6.mp A;exact⟨a[j],V0 _,decide_eq_true ⟨j,B,by omega,rfl,h⟩⟩
    rw[J];exact k _ H (Ext.refl _ _) hr (by simp[Rep])
  ·rw[if_neg g]at e;cases e
 |tup c =>
  simp only[nq]at e
  by_cases g:dLe dx 59=true/\cT c 59=true
  ·rw[if_pos g]at e;cases e;obtain⟨l,U,rfl,sq,m⟩:=r2;cases ry;obtain⟨a,r,C,hz⟩:=I.tuple sq;have Z:c.length=a.length:=m.length.trans r.length;have at_:∀j (h:j<c.length) (f:j<a.length),PySem.SeqAt.EqAt X.A.in1 s a[j] v (eqD c[j] dx):=λj h f=>by
    obtain⟨Y,G,o⟩:=m.get (i:=j) (d:=c[j]) (by simp[h]);obtain⟨E,S,P⟩:=r.get G;have O:a[j]=E:=by simpa[N0 f]using S
    rw[O];exact(qY I 59 (by show X.A.units+1+59<af7;omega) (g9 g.2 (i:=j) (by simp[h])) g.1 o.r r1 P rx).1
   refine SeqAt.notIn_tupleAt (λw=>decide (∃j,∃h:j<c.length,∃f:j<a.length,a[j]=w/\eqD c[j] dx=true)) (yj C) (λw p=>?_) ⟨.bl _,H,I,rfl,?_⟩
   ·obtain⟨i,n,rfl⟩:=ad6.mp (show w∈a by simpa using p)
    by_cases q:∃j,∃h:j<c.length,∃f:j<a.length,a[j]=a[i]/\eqD c[j] dx=true
    ·rw[decide_eq_true q];obtain⟨j,h,f,R,N⟩:=q;rw[<-R,<-N];exact at_ j h f
    ·rw[decide_eq_false q];have:=at_ i (by omega) n
     rwa [show eqD c[i] dx=false from Bool.eq_false_iff.mpr λz=>q ⟨i,by omega,n,rfl,z⟩]at this
   ·have J:a.toArray.any (λw=>decide (∃j,∃h:j<c.length,∃f:j<a.length,a[j]=w/\eqD c[j] dx=true))=c.any λd=>eqD d dx:=by
     rw[W0,List.any_toArray,ab0,ab0];constructor
     ·rintro⟨w,_,h⟩;obtain⟨j,T,_,_,L⟩:=of_decide_eq_true h;exact⟨c[j],V0 _,L⟩
     ·rintro⟨d,A,h⟩;obtain⟨j,B,rfl⟩:=ad6.mp A;exact⟨a[j],V0 _,decide_eq_true ⟨j,B,by omega,rfl,h⟩⟩
    rw[J];exact k _ H (Ext.refl _ _) hr (by simp[Rep])
  ·rw[if_neg g]at e;cases e
 |_=>cases e
end
section
variable{X:Cx}{e:R6}{t:TEd}
end
section
variable{P:Q7}{w:U9}{K:u8}{h base:Q9}{I:Str->Option M0}{x y:Str}{st:af0}{f:O1}{z:P5}{k:Nat}{S:SpD}
structure bf(K:u8) (x:Str) (st:af0) (f:O1) (z:P5):Prop where
 a:T7 K R3 x=some (some (.ref f))
 F:Fun K x x st f z
theorem K0{m:M0}{od j:Option O1}{h:Array (Option M0)}{kV g i e ct:M0}(a:T7 K R3 x=some (some (.ref f)))(l:K.lookup f=some ⟨m,od,.func (ak2 x x (iy st) (eA st) (aj st) .none kV g i j e ct),h⟩)
  (c:av1 K e x=true) (k:ag5 K (.ref f)=true):bf K x st f (ak2 x x (iy st) (eA st) (aj st) .none kV g i j e ct):=⟨a,CL l c k⟩
theorem usS{p:List M0->Prop}{n:Nat}(h:∀a c,c.length=n->p (a::c)):∀c:List M0,c.length=n+1->p c:=by
 intro c e;cases c with
 |nil=>cases e
 |cons a c=>exact h a c (ax3 e)
theorem us0{p:List M0->Prop}(h:p []):∀c:List M0,c.length=0->p c:=by
 intro c e;cases c with
 |nil=>exact h
 |cons a c=>cases e
def Bd(x y:Str)(st:af0)(ps:List Str)(e:List M0):Prop:=∀(kV c f:M0) (g:Option O1) (a h:M0),bindArgs (ak2 x y (iy st) (eA st) (aj st) .none kV c f g a h) ⟨e,[]⟩=al5 (ps.zip e)
theorem xE{ps:List Str}(F:Fun K x y st f z)(b:∀a:List M0,a.length=ps.length->Bd x y st ps a):dM K z ps []:=F.binds λkV e g i c j a h=>b a h kV e g i c j
variable{H L N Y p5:Str}
theorem bd1(F:Fun K x y st f z)(b:∀a,Bd x y st [H] [a]):dM K z [H] []:=xE F (usS λa=>us0 (b a))
theorem bd2(F:Fun K x y st f z)(b:∀a c,Bd x y st [H,L] [a,c]):dM K z [H,L] []:=xE F (usS λa=>usS λc=>us0 (b a c))
theorem bd3(F:Fun K x y st f z)(b:∀a c d,Bd x y st [H,L,N] [a,c,d]):dM K z [H,L,N] []:=xE F (usS λa=>usS λc=>usS λd=>us0 (b a c d))
theorem bd4(F:Fun K x y st f z)(b:∀a c d e,Bd x y st [H,L,N,Y] [a,c,d,e]):dM K z [H,L,N,Y] []:=xE F (usS λa=>usS λc=>usS λd=>usS λe=>us0 (b a c d e))
theorem bd5(F:Fun K x y st f z)(b:∀a c d e g,Bd x y st [H,L,N,Y,p5] [a,c,d,e,g]):dM K z [H,L,N,Y,p5] []:=xE F (usS λa=>usS λc=>usS λd=>usS λe=>usS λg=>us0 (b a c d e g))
theorem fg{ps:List Str}{n:Nat}(X:K.In h)(G:h.Ns R3 I)(i:bf K x st f z)(o:aV P w K I base CX0 k f z ps (spD K n S))(b:dM K z ps []):FnD P w K I base x k n S:=⟨_,_,_,o,ac1 X G i.a,i.F.kp,b⟩
theorem HH{l:O1}{sp:Sp}{m:Q7}(X:K.In h)(G:h.Ns R3 I)(j:I "law"=some (.ref l))(i:bf K "law" st f z)(b:∀a,Bd "law" "law" st [H] [a])(o:∀base:Q9,aV m w K I base CX0 k f z [H] sp):
  ∃z:P5,(∀(s:N1) (v:M0),az5 s z ⟨[v],[]⟩ [(H,v)])/\∀base:Q9,K.In base->base.Ns R3 I->aV m w K I base CX0 k l z [H] sp:=by
 have e:=j.symm.trans (ac1 X G i.a);cases e;refine⟨z,λs v=>?_,λbase _ _=>o base⟩;obtain⟨C,A,kV,g,p,x,c,q,u,rfl,B,n⟩:=i.F.ex;exact .of_eq (b v kV g p x c q)
end
theorem nbh{a:ay2}{b:R6}(h:a≠.In:=by decide)(c:a≠.NotIn:=by decide):ae6 a b=false:=qW b h c
theorem fsc{N P:List Str}{h:am0}(a:h.kind=.function:=by exact rfl)(b:h.isCoroutine=false:=by exact rfl)(c:h.isGenerator=false:=by exact rfl)(d:N.Nodup:=by decide +kernel)(e:N.take P.length=P:=by exact rfl)
  (f:∀x∈P,h.names.lookup x=some .local∨h.names.lookup x=some .cell:=by decide +kernel) (g:∀y∈h.names,y.2≠.free:=by decide +kernel):ax N P h:=⟨a,b,c,d,e,f,g⟩
section
variable{X:Cx}{e:R6}{es:List R6}{t:TAd}{y p:Pos}{x:Str}{j k n:Nat}{S:SpD}
theorem qd(F:FnD X.prog X.w X.K X.mg X.base x j n S)(hr:cQ k X.A)(ha:QAd X (e::es) t)(h:j<=k:=by decide)(hg:Gl X x:=by exact rfl)(hdb:(x==("__debug__":Str))=false:=by decide)(he:O5 (e::es) X.env=(false,af8 e X.env)::O5 es X.env:=by rfl)(hpl:(ad7 y (O5 es X.env)).any (·.1)=false:=by rfl):
  QEd X (.Call (.Name x p) (e::es) [] y) (jg n S t):=qc F (hr.mono h) hg ha hdb he hpl
end
noncomputable def txt:M0->Str|.str x _=>x|_=>ac4
theorem DK(t:R1)(n:Nat):(t.orStandIn n).led=t.led:=by unfold R1.orStandIn;split<;>rfl
theorem yc(t:R1)(es:Array (Int×M0))(h:Int)(x:M0):(layNew t es h x).2.1.led=t.led:=by
 unfold layNew
 split
 ·exact DK _ _
 ·rfl
theorem pI{t t':R1}{hs:Array Int}{n:Nat}{o:Array Nat}(e:t.relaid hs n=some (t',o)):t'.led=t.led/\t'.plain=t.plain:=by
 unfold R1.relaid R1.laid at e;cases q:R1.layClean (R1.sizeAbove n-1) hs with
 |none=>rw[q]at e;cases e
 |some w=>rw[q]at e;cases e;exact⟨rfl,rfl⟩
theorem uv(t:R1)(es:Array (Int×M0))(n:Nat):(aw3 t es n).2.1.led=t.led:=by
 unfold aw3
 split
 ·rename_i e;dsimp only;split
  ·exact(pI e).1
  ·rfl
 ·rfl
theorem qO(t:R1)(es:Array (Int×M0))(n:Nat)(z:t.plain=false):(aw3 t es n).2.1.plain=false:=by
 unfold aw3
 split
 ·rename_i e;dsimp only;split
  ·rw[(pI e).2];exact z
  ·rfl
 ·rfl
section
variable{prog:Q7}{w:U9}{A:S0}{E:M0->N1->Prop}{s:N1}
noncomputable def byT(w:U9):Bool:=w.params.followText "set-order"
def ElT(prog:Q7)(w:U9)(l:List (Int×M0)):Prop:=∀e∈l,∃x t,e=((strKind prog w).hash x,.str x t)
theorem ElT.of{l:List (Int×M0)}(h:ElT prog w l):ElemsOf (strKind prog w) l:=λe a=>by
 obtain⟨x,t,rfl⟩:=h e a;exact⟨⟨x,az9 _ _ _ _,rfl⟩,rfl⟩
structure uO(prog:Q7) (w:U9) (h:Q9) (a:O1) (o:Obj) (es:Array (Int×M0)) (ep:Nat) (t:R1):Prop where
 get:h.get? a=some o
 ex:o.ExactSet
 data:o.data=.set es ep t
 el:ElT prog w es.toList
 nd:(es.toList.map λe=>txt e.2).Nodup
 room:es.size<ai5
 fit:t.fits es.size=true
 led:t.led=!byT w
 pl:es.size≠0->t.plain=false
def iL(prog:Q7)(w:U9)(h:Q9)(a:O1)(xs:List Str):Prop:=∃o c f t,uO prog w h a o c f t/\(c.toList.map λe=>txt e.2).Perm xs
theorem iL.mono{h h':Q9}{a:O1}{xs:List Str}(z:iL prog w h a xs)(k:∀o,h.get? a=some o->h'.get? a=some o):iL prog w h' a xs:=by
 obtain⟨o,e,c,t,p,q⟩:=z;exact⟨o,e,c,t,⟨k _ p.get,p.ex,p.data,p.el,p.nd,p.room,p.fit,p.led,p.pl⟩,q⟩
theorem iL.perm{h:Q9}{a:O1}{xs c:List Str}(z:iL prog w h a xs)(k:xs.Perm c):iL prog w h a c:=by
 obtain⟨o,f,e,t,p,q⟩:=z;exact⟨o,f,e,t,p,q.trans k⟩
theorem HC{x:Str}{v:M0}(h:(strKind prog w).is x v=true):∃t,v=.str x t:=by
 cases v<;>simp[PySem.strKind,M0.isStrOf]at h
 rename_i y t;exact⟨t,by rw[h]⟩
theorem uO.mem{h:Q9}{a:O1}{o:Obj}{es:Array (Int×M0)}{ep:Nat}{t:R1}(p:uO prog w h a o es ep t)(x:Str):
  (∃e∈es.toList,(strKind prog w).is x e.2=true)↔x∈es.toList.map λe=>txt e.2:=by
 constructor
 ·rintro⟨e,c,q⟩;obtain⟨t,z⟩:=HC q;exact P4.mpr ⟨e,c,by rw[z];rfl⟩
 ·intro q;obtain⟨e,c,z⟩:=P4.mp q;obtain⟨y,t,rfl⟩:=p.el e c;have:y=x:=z;subst this;exact⟨_,c,az9 _ _ _ _⟩
theorem tI{h:Q9}{a:O1}{o:Obj}{es:Array (Int×M0)}{ep:Nat}{t:R1}(f:h.get? a=some o)(e:o.data=.set es ep t)(c:Array (Int×M0))(t':R1):
  (h.update a (ap4 c t')).get? a=some { o with data:=.set c (ep+1) t' }:=by
 have:=W6 (ap4 c t') f (by rw[aA7 c t' e];rfl);rw[aA7 c t' e]at this;exact this
theorem lP{l a:List (Int×M0)}(h:l.Perm a):(l.map λe=>txt e.2).Perm (a.map λe=>txt e.2):=h.map _
theorem uO.laid{h h':Q9}{a:O1}{o:Obj}{es c:Array (Int×M0)}{ep i:Nat}{t t':R1}(p:uO prog w h a o es ep t)
  (g:h'.get? a=some { o with data:=.set c i t' }) (q:c.toList.Perm es.toList) (f:t'.fits c.size=true) (l:t'.led=t.led) (z:c.size≠0->t'.plain=false):uO prog w h' a { o with data:=.set c i t' } c i t':=by
 have sz:c.size=es.size:=by rw[<-O8,q.length_eq,O8]
 exact⟨g,p.ex,rfl,λe j=>p.el e (q.mem_iff.mp j),((lP q).nodup_iff).mpr p.nd,by rw[sz];exact p.room,f,l.trans p.led,z⟩
theorem GJ{g:Bool->Sem Unit}(hg:∀(b:Bool) (j:N1) (O:Unit->N1->Prop),O () j->P6 (R4 prog w) A (g b) O E j)
  {a:O1} {o:Obj} {es:Array (Int×M0)} {ep:Nat} {t:R1} (M:s.heap.get? a=some o) (hex:o.ExactSet) (J:o.data=.set es ep t)
  {c:Array (Int×M0)} {t2:R1} (el:ElT prog w c.toList) (Q:(c.toList.map λe=>txt e.2).Nodup) (p:c.size<ai5) (B:t2.fits c.size=true) (ld:t2.led=!byT w) (N:t2.plain=false)
  {f:Bool} {R:Option Bool->N1->Prop}
  (h:∀h',S4 a s.heap h'->iL prog w h' a (c.toList.map λe=>txt e.2)->R (some true) { s with heap:=h' }) :
  P6 (R4 prog w) A (do
    storeSet a c t2
    if(!f&&t2.tooFull)=true then do
      g (aw3 t2 c (aj1 c.size)).2.2
      storeSet a (aw3 t2 c (aj1 c.size)).1 (aw3 t2 c (aj1 c.size)).2.1
      al5 (some true)
     else al5 (some true)) R E s:=by
 refine o0 (ar7 M J ?_ (ak0 p));have m:=tI M J c t2;have u:uO prog w (s.heap.update a (ap4 c t2)) a { o with data:=.set c (ep+1) t2 } c (ep+1) t2:=⟨m,hex,rfl,el,Q,p,B,ld,λ_=>N⟩;have i:=U8 s.heap a (ap4 c t2)
 split
 ·have x:=relayAll_perm t2 c (aj1 c.size);have l:=relayAll_fits t2 c (aj1 c.size);have C:=uv t2 c (aj1 c.size);have n:=qO t2 c (aj1 c.size) N;generalize T:aw3 t2 c (aj1 c.size)=S at x l C n ⊢;obtain⟨q,P,G⟩:=S;dsimp only at x l C n ⊢;have z:q.size=c.size:=by rw[<-O8,x.length_eq,O8]
  have H:q.size<ai5:=by rw[z];exact p
  refine o0 (hg _ _ _ ?_);refine o0 (ar7 m rfl ?_ (ak0 H));have I:=tI (h:=s.heap.update a (ap4 c t2)) m rfl q P;exact M9 (h _ (i.trans (U8 _ a _)) ⟨_,_,_,_,u.laid I x l C (λ_=>n),lP x⟩)
 ·exact M9 (h _ i ⟨_,_,_,_,u,.refl _⟩)
theorem LG{a:O1}{xs:List Str}{x:Str}{J:Tok}{Q:Bool->N1->Prop}(hS:iL prog w s.heap a xs)(M:xs.length+1<ai5)
  (h:∀b h',S4 a s.heap h'->iL prog w h' a (if x∈xs then xs else xs++[x])->Q b { s with heap:=h' }) :
  P6 (R4 prog w) A (ax4 a (.str x J) ((strKind prog w).hash x)) Q E s:=by
 obtain⟨o,l,ep,t,p,P⟩:=hS;have S:=az9 prog w x J;have O:=p.el.of;have hn:l.size=xs.length:=by rw[<-O8,<-P.length_eq,s0]
 have Z:l.size+1<ai5:=by rw[hn];exact M
 unfold ax4 setAddHashedIn;refine W5 (o0 (ag8 p.get p.data p.fit ?_));dsimp only;rw[byScan_of rfl p.room O];simp only[↓reduceIte];unfold setAddByScan;refine o0 ?_;refine o0 (ap3 ?_);refine o0 (wpAny_setScan_of S p.get p.data p.fit O ?_);cases hr:List.findIdx? (λe=>(strKind prog w).is x e.2) l.toList with
 |some j =>
  dsimp only;obtain⟨hj,a0,_⟩:=List.findIdx?_eq_some_iff_getElem.mp hr;have U:x∈xs:=P.mem_iff.mp ((p.mem x).mp ⟨l.toList[j],V0 hj,a0⟩);refine M9 (M9 ?_);have e:s={ s with heap:=s.heap }:=by cases s;rfl
  rw[e];exact h _ s.heap (S4.refl a s.heap) (by rw[if_pos U];exact⟨o,l,ep,t,p,P⟩)
 |none =>
  dsimp only;have U:x∉l.toList.map λe=>txt e.2:=λq=>by
   obtain⟨e,G,z⟩:=(p.mem x).mpr q;have:=List.findIdx?_eq_none_iff.mp hr e G;rw[z]at this;exact Bool.noConfusion this
  have X:x∉xs:=λq=>U (P.mem_iff.mpr q);have Y:∀(b:Bool) {g:N1} {T:Unit->N1->Prop},T () g->P6 (R4 prog w) A (match b with|true=>rule "set.scan.the-table-gave-way" |false=>al5 ()) T E g :=
   λb g T C=>by cases b<;>first|exact M9 C|exact ap3 C
  have c:=layNew_perm t l ((strKind prog w).hash x) (.str x J);have f:=layNew_fits t l ((strKind prog w).hash x) (.str x J);have i:=yc t l ((strKind prog w).hash x) (.str x J);generalize hL:layNew t l ((strKind prog w).hash x) (.str x J)=L at c f i ⊢;obtain⟨m,t1,N,a1⟩:=L;dsimp only at c f i ⊢;rw[ar8]at c;have H:ElT prog w m.toList:=λe G=>by
   rcases P0.mp (c.mem_iff.mp G)with G|G
   ·exact p.el e G
   ·rw[N8]at G;exact⟨x,J,G⟩
  have hm:(m.toList.map λe=>txt e.2).Perm ((l.toList.map λe=>txt e.2)++[x]):=by
   have:=lP c
   rwa [P7]at this
  have R:(m.toList.map λe=>txt e.2).Nodup:=by
   rw[hm.nodup_iff,ac7];exact⟨p.nd,by simp,λa ha b hb=>by rw[N8]at hb;subst hb;intro q;subst q;exact U ha⟩
  have B:m.size<ai5:=by rw[<-O8,c.length_eq,O6,O8];simpa using Z
  refine o0 (Y _ ?_);have I:∀h',S4 a s.heap h'->iL prog w h' a (m.toList.map λe=>txt e.2)->Q true { s with heap:=h' }:=λh' n u =>
   h _ h' n (by rw[if_neg X];exact u.perm (hm.trans (P.append_right _)))
  split
  ·refine o0 ?_;rw[hashByValue_scannable 8 rfl];refine M9 ?_;refine GJ (t2:={ t1 with plain:=false }) ?_ p.get p.ex p.data H R B (R1.fits_plain_off f) (i.trans p.led) rfl ?_
   ·intro b g T C;cases b<;>first|exact M9 C|exact ap3 C
   ·intro h' n u;dsimp only;exact M9 (I h' n u)
  ·rename_i hp;refine o0 (M9 ?_);simp only[↓reduceIte];refine GJ ?_ p.get p.ex p.data H R B f (i.trans p.led) (by simpa using hp) ?_
   ·intro b g T C;cases b<;>first|exact M9 C|exact ap3 C
   ·intro h' n u;dsimp only;exact M9 (I h' n u)
end
noncomputable def ic(xs:List Str)(x:Str):List Str:=if x∈xs then xs else xs++[x]
noncomputable def dg(xs:List Str):List Str:=xs.foldl ic []
theorem AX(xs:List Str)(x:Str):(ic xs x).length<=xs.length+1:=by unfold ic;split<;>simp
theorem AZ(xs:List Str)(x y:Str):y∈ic xs x↔y∈xs∨y=x:=by
 unfold ic;split
 ·rename_i h;exact⟨.inl,λq=>q.elim id λe=>e▸h⟩
 ·simp
theorem ng:∀(xs a:List Str),(xs.foldl ic a).length<=a.length+xs.length
 |[],_=>N2 _
 |x::xs,a=>by
  have:=ng xs (ic a x);have:=AX a x;simp only[aa6,O2];lia
theorem sW:∀(xs a:List Str) (y:Str),y∈xs.foldl ic a↔y∈a∨y∈xs
 |[],_,_=>by simp
 |x::xs,a,y=>by
  rw[aa6,sW xs,AZ,O9,or_assoc]
theorem mH(xs:List Str)(y:Str):y∈dg xs↔y∈xs:=by rw[dg,sW];simp
theorem mr(xs:List Str):(dg xs).length<=xs.length:=by have:=ng xs [];simpa[dg]using this
theorem A3(xs:List Str)(i:Nat)(h:i<xs.length):dg (xs.take (i+1))=ic (dg (xs.take i)) xs[i]:=by
 rw[List.take_succ_eq_append_getElem h,dg,ao1];rfl
section
variable{prog:Q7}{w:U9}{A:S0}{R:aA0->N1->Prop}{I:O1}{z y:List O1}{G:Array az0->Array az0->Prop}{P:Nat->M0->Prop}{St:Nat->N1->Prop}
theorem L5{xs:List Str}(W:WalksS prog w A.in1 I z y G xs.length P St)(S:O1)(p:S∉z)
  (B:∀i v (h:i<xs.length),P i v->∃t,v=.str xs[i] t) (j:xs.length+1<ai5) :
  ∀(k i:Nat) (s:N1),xs.length-i=k->i<=xs.length->St i s->iL prog w s.heap S (dg (xs.take i)) ->
   (∀s',Moved (S::y) G s s'->iL prog w s'.heap S (dg xs)->R (.ok (.ret .none)) s') ->
   am8 (R4 prog w) A (.builtin "set.update.loop" ⟨[.ref S,.ref I],[]⟩) R s:=by
 have m:S∉y:=λh=>p (W.sub _ h);have c:∀b∈y,b∈S::y:=λb j=>S7 _ j;intro k
 induction k with
 |zero =>
  intro i s T X f C E;have H:i=xs.length:=by lia
  subst H;refine ab8 ak8 ?_;rw[Z7 ad5 _];show P6 _ A.in1 (as1 (.ref I) >>= _) _ _ s;refine o0 (W.done s _ _ f λs' u=>?_);show P6 _ A.in1 (ret X1) _ _ s';rw[S6]at C;exact M9 (E s' (u.mono c) (C.mono λo e=>u.heap S _ m e))
 |succ k ih =>
  intro i s T X f C E;have a:i<xs.length:=by lia
  refine ab8 ak8 ?_;rw[Z7 ad5 _];show P6 _ A.in1 (as1 (.ref I) >>= _) _ _ s;refine o0 (W.item i s _ _ a f λv s' U q u=>?_);obtain⟨t,rfl⟩:=B i v a U;have N:iL prog w s'.heap S (dg (xs.take i)):=C.mono λo e=>u.heap S _ m e;show P6 _ A.in1 (at7 [ay9 xs[i] t] (setAdd S (.str xs[i] t)) >>= _) _ _ s';refine o0 (W5 ?_);unfold setAdd;refine W5 ?_;refine o0 ((strKind prog w).pyHash (k:=xs[i]) (az9 _ _ _ _) ?_);have g:(dg (xs.take i)).length+1<ai5:=by have:=mr (xs.take i);rw[S2]at this;lia
  refine LG (s:={ s' with toks:=s'.toks+1 }) N g λb Q x M=>?_;have J:iL prog w Q S (dg (xs.take (i+1))):=by rw[A3 xs i a];exact M
  refine M9 ⟨ak7 ad5 _,ih (i+1) _ (by lia) a (W.frame _ s' _ _ q (ar1 _) λb j o e=>?_) J λL l n=>?_⟩
  ·rw[x.2 b (λh:b=S=>p (by rw[<-h];exact j))];exact e
  ·refine E L (Moved.trans W.gtrans ((u.mono c).then_heap (ar1 _) λb o j e=>?_) l) n;rw[x.2 b (λh:b=S=>j (by rw[h];exact V8))];exact e
end
section
variable{prog:Q7}{w:U9}{A:S0}{E:M0->N1->Prop}{s:N1}
abbrev gZ(w:U9):Obj:={ cls:=.type "set",dict:=none,data:=.set #[] 0 (.fresh 0 0 (!byT w)) }
theorem Jq{h:Q9}{a:O1}(g:h.get? a=some (gZ w)):iL prog w h a [] :=
 ⟨_,#[],0,_,⟨g,⟨rfl,rfl,rfl⟩,rfl,λe c=>by simp at c,by simp,by decide,rfl,rfl,λq=>absurd rfl q⟩,by simp⟩
theorem vK(a:M0){Q₁:M0->N1->Prop}(h:Q₁ (.ref s.heap.objs.size) { s with heap:=s.heap.push (gZ w) }):
  am8 (R4 prog w) A (.call (.builtin "set.__new__") ⟨[.type "set",a],[]⟩) (wants Q₁ E) s:=by
 refine au2 ?_;show P6 _ A.in1 (do checkBuiltinCall "set.__new__" ⟨[.type "set",a],[]⟩;again (.builtin "set.__new__" ⟨[.type "set",a],[]⟩)) _ _ s;refine o0 (au4 (PySem.F.newCall_set_1 a) (M9 ⟨ak7 PySem.F.plain_set_new _,ab8 PySem.F.entry_set_new ?_⟩));rw[Z7 PySem.F.plain_set_new _];unfold Q8.«set.__new__» Q8.Frozenset.newClass;have c:=sub_set_self;obtain⟨f,g,d,e,os⟩:=s;dsimp only
 wp_walk
 refine as9 (M9 ?_);dsimp only;simp only[newObj];refine o0 (wpAny_alloc (M9 ?_));exact M9 h
set_option maxHeartbeats 3200000 in
theorem sY{l:O1}{items:Array M0}{xs:List Str}{Q:M0->N1->Prop}
  (hh:A.handled=none) (hl:s.heap.IsList l items) (hn:items.size=xs.length) (hi:∀i (h:i<xs.length),∃t,items[i]?=some (.str xs[i] t)) (N:xs.length+1<ai5)
  (h:∀(h':Q9) (L:Nat),iL prog w h' s.heap.objs.size (dg xs)->(∀b o,s.heap.get? b=some o->h'.get? b=some o)->Q (.ref s.heap.objs.size) { s with heap:=h',toks:=L }) :
  P6 (R4 prog w) A (call (.type "set") [.ref l]) Q E s:=by
 obtain⟨c,tl,a8⟩:=T9.mro;have a0:=T9.made;have a':=T9.sub;refine az6 (au2 ?_);show P6 _ _ (callAny (.type "set") _) _ _ _;refine M9 ⟨aA9.quiet_builtin _ (by decide +kernel),ab8 PySem.F.entry_type_call ?_⟩;rw[S0.under_plain (weight_type_call_type "set" [.ref l] []) rfl];have h1:=T9.notType;have h2:=T9.canCreate;have b0:=PySem.F.typeCall_set_1 (.ref l)
 repeat (any_goals (first|assumption|wp_step))
 refine ai3 (vK (.ref l) (E:=E) (Q₁:=λobj m=>obj=.ref s.heap.objs.size/\m={ s with heap:=s.heap.push (gZ w) }) ⟨rfl,rfl⟩) λr m Y=>?_;cases r with
 |error e=>exact Y
 |ok fl =>
  cases fl with
  |ret obj =>
   obtain⟨rfl,rfl⟩:=Y;have hS:(s.heap.push (gZ w)).get? s.heap.objs.size=some (gZ w):=N6 _ rfl;have hT:aq3 { s with heap:=s.heap.push (gZ w) } (.ref s.heap.objs.size) "set":=⟨_,hS,rfl⟩;have b2:=T9.init.lookup;have b1:=T9.init.bind (.ref s.heap.objs.size)
   repeat (any_goals (first|assumption|wp_step))
   refine ai3 (codeAny_call_builtin (R:=wants (λr j=>r=.none/\∃h' L,j={ s with heap:=h',toks:=L } /\
     iL prog w h' s.heap.objs.size (dg xs)/\(∀b o,s.heap.get? b=some o->h'.get? b=some o)) E) T9.init.plain PySem.F.entry_set_init (check_set_init_1 hT ?_)) λz j a=>?_
   ·obtain⟨ol,G,H,nl,B⟩:=hl;obtain⟨a5,n,a3,f⟩:=ol;simp only at H B;subst H;subst B;have I:(s.heap.push (gZ w)).get? l=some { cls:=.type "list",dict:=n,data:=.seq items nl,slots:=f }:=M7 _ G;have a4:=PySem.F.sub_list_set;have a9:=PySem.F.sub_list_frozenset;have b3:(aa0 "list"==aa0 "dict")=false:=by decide
    have u:(s.heap.push (gZ w)).IsList l items:=⟨_,I,rfl,nl,rfl⟩;unfold Q8.«set.__init__» noKeywords Q8.Frozenset.updateFrom;generalize X:au9=PI
    wp_walk
    subst X;refine an6 u ?_;refine o0 (wpAny_runValue ?_);have J:l<s.heap.objs.size:=P2 G;have Z:A.in1.in1.in1.handled=none:=by simp[hh]
    have x:l≠(s.heap.push (gZ w)).objs.size:=by
     rw[W1];exact P8 (X7 J)
    have S:s.heap.objs.size∉[(s.heap.push (gZ w)).objs.size,l]:=by
     rw[W1];simp only[O9,N8,ac3,or_false,not_or];exact⟨P8 (ab9 _),ap2 J⟩
    have W:=(az4.list (prog:=prog) (w:=w) Z _ l x items).toS;rw[hn]at W;refine L5 (xs:=xs) W s.heap.objs.size S (λi v O hv=>?_) N (xs.length-0) 0 _ (by lia) (O3 _) ?St0 ?hS0 ?hR
    case St0=>exact⟨⟨_,N6 _ rfl,rfl,rfl⟩,(u.push _)⟩
    ·obtain⟨t,g⟩:=hi i O;have C:items[i]?=some v:=hv;rw[g]at C;exact⟨t,(T4 C).symm⟩
    case hS0=>exact Jq (M7 _ hS)
    case hR =>
     intro s' M p;obtain⟨h',g',d',T,P⟩:=s';have eg:g'=s.gens:=M.gens;have ed:d'=s.drawn:=M.drawn;have eo:P=s.os:=M.os;subst eg;subst ed;subst eo;show P6 _ _ _ _ _ _;refine M9 ?_;show P6 _ _ (ret X1) _ _ _;refine M9 ⟨rfl,h',T,rfl,p,λb o e=>?_⟩;have N:=P2 e;have U:b≠s.heap.objs.size:=P8 N;have a1:b≠(s.heap.push (gZ w)).objs.size:=by
      rw[W1];exact P8 (X7 N)
     exact M.heap b o (by simp only[O9,N8,ac3,or_false,not_or];exact⟨U,a1⟩) (M7 _ (M7 _ e))
   ·cases z with
    |error e=>exact a
    |ok q =>
     cases q with
     |ret r =>
      obtain⟨rfl,h',L,rfl,p,a2⟩:=a
      repeat (any_goals (first|assumption|wp_step))
      exact h _ _ p a2
     |_=>exact a.elim
  |_=>exact Y.elim
end
theorem nZ{c:Type}(f:Nat->Nat):∀(n k:Nat) (l:List c) (a:Array c),l.length=n->(an3.go f n k l a).toList.Perm (a.toList++l)
 |0,k,l,a,h=>by
  have:l=[]:=ag2.mp h;subst this;simp[an3.go]
 |n+1,k,l,a,h=>by
  have g:f k % l.length<l.length:=ap5 _ (by lia);simp only[an3.go,N0 g];refine(nZ f n (k+1) _ _ (by rw[List.length_eraseIdx_of_lt g];lia)).trans ?_;rw[ar8,aj7];refine av6.append_left _ ?_;have z:l=l.take (f k % l.length)++l[f k % l.length]::l.drop (f k % l.length+1):=by rw[List.getElem_cons_drop];simp
  have e:l.eraseIdx (f k % l.length)=l.take (f k % l.length)++l.drop (f k % l.length+1):=List.eraseIdx_eq_take_drop_succ l _;rw[e];generalize l[f k % l.length]=x at z ⊢
  conv=>rhs;rw[z]
  rw[List.singleton_append];exact al7.symm
theorem nu{a:Type}(f:Nat->Nat)(xs:Array a):(an3 f xs).toList.Perm xs.toList:=by
 have:=nZ f xs.size 0 xs.toList #[] (by simp);simpa[an3]using this
section
variable{prog:Q7}{w:U9}{A:S0}{E:M0->N1->Prop}{s:N1}
theorem oX{Q:Bool->N1->Prop}(h:Q (byT w) s):P6 (R4 prog w) A setsByText Q E s:=by
 unfold setsByText;exact o0 (as9 (M9 h))
end
end L2
namespace L2
open PySem
noncomputable def f51(x:Nat):Nat:=5*x+1
noncomputable def oG:Nat->Nat->Nat
 |0,x=>x
 |n+1,x=>oG n (f51 x)
theorem rq(m n x:Nat):oG (m+n) x=oG n (oG m x):=by
 induction m generalizing x with
 |zero=>simp[oG]
 |succ m ih=>rw[Nat.succ_add];simp only[oG];exact ih _
theorem DS(k:Nat):∃a c,∀z,oG (2 ^ k) z=z+2 ^ (k+2)*a*z+2 ^ k+2 ^ (k+1)*c:=by
 induction k with
 |zero=>exact⟨1,0,λz=>by simp[oG,f51];lia⟩
 |succ k ih =>
  obtain⟨a,c,h⟩:=ih;generalize e:2 ^ k=p at *
  have g:2 ^ (k+1)=2*p:=by rw[ai6,e,am9]
  have f:2 ^ (k+2)=4*p:=by rw[au5,e];lia
  have j:2 ^ (k+1+2)=8*p:=by rw[show k+1+2=k+3 by lia,au5,e];lia
  have i:2 ^ (k+1+1)=4*p:=f;rw[g,j,i];rw[g,f]at h;refine⟨a+2*p*a*a,c+p*a+2*p*a*c,λz=>?_⟩;rw[show 2*p=p+p by lia,rq,h,h]
  grind
theorem Dv(k:Nat):∀x j,j<2 ^ k->∃n,n<2 ^ k/\oG n x % 2 ^ k=j:=by
 induction k with
 |zero=>intro x j h;exact⟨0,by simp,by simp at h;simp[h,Nat.mod_one]⟩
 |succ k ih =>
  intro x j B;obtain⟨a,c,A⟩:=DS k;have f:0<2 ^ k:=Nat.two_pow_pos k;have m:2 ^ (k+1)=2*2 ^ k:=by rw[ai6,am9]
  have C:2 ^ (k+2)=2*(2*2 ^ k):=by rw[au5];lia
  obtain⟨n,L,s⟩:=ih x (j % 2 ^ k) (ap5 _ f);generalize w:oG n x=y at s;generalize M:2 ^ k=p at *
  have e:y % (2*p)=j∨(y+p) % (2*p)=j:=by
   rw[m]at B;have E:=Nat.div_add_mod y (2*p);have I:=ap5 y (show 0<2*p by lia);have:y % (2*p) % p=y % p:=Nat.mod_mul_left_mod y 2 p;rw[s]at this;generalize y % (2*p)=r at *
   have o:r=p*(r / p)+r % p:=(Nat.div_add_mod r p).symm;have z:j=p*(j / p)+j % p:=(Nat.div_add_mod j p).symm;have G:r / p<2:=Nat.div_lt_of_lt_mul (by lia);have H:j / p<2:=Nat.div_lt_of_lt_mul (by lia);rw[this]at o;have l:(y+p) % (2*p)=(r+p) % (2*p):=by
    rw[<-E,aw4,Nat.mul_add_mod]
   rw[l];have J:j % p<p:=ap5 _ f;generalize j % p=u at *
   have two:∀q,q<2->q=0∨q=1:=λq h=>by lia
   have g:=two _ G;have i:=two _ H;rcases g with g|g<;>rcases i with i|i<;>rw[g]at o<;>rw[i]at z<;>simp only[Nat.mul_zero,Nat.mul_one,as6]at o z
   ·left;lia
   ·right;rw[Nat.mod_eq_of_lt (by lia)];lia
   ·right;rw[show r+p=u+1*(2*p)by lia,Nat.add_mul_mod_self_right,Nat.mod_eq_of_lt (by lia)];lia
   ·left;lia
  rcases e with e|e
  ·exact⟨n,by lia,by rw[m,w];exact e⟩
  ·refine⟨n+p,by lia,?_⟩;rw[rq,w,A y,m,C];have:y+2*(2*p)*a*y+p+2*p*c=(y+p)+(2*a*y+c)*(2*p):=by grind
   rw[this,Nat.add_mul_mod_self_right];exact e
end L2
namespace L2
open PySem PySem.SetTable
noncomputable def pS(mask:Nat)(h:Int):Probe:={ j:=bits h % (mask+1),more:=runEnd mask (bits h % (mask+1))-bits h % (mask+1),i:=bits h % (mask+1),perturb:=bits h,dummy:=none }
noncomputable def pA(mask:Nat)(p:Probe):Probe :=
 if p.more > 0 then { p with j:=p.j+1,more:=p.more-1 }
 else { p with j:=(leap mask p.i p.perturb).1,more:=runEnd mask (leap mask p.i p.perturb).1-(leap mask p.i p.perturb).1,i:=(leap mask p.i p.perturb).1,perturb:=(leap mask p.i p.perturb).2 }
noncomputable def pth(mask:Nat)(h:Int):Nat->Probe
 |0=>pS mask h
 |n+1=>pA mask (pth mask h n)
noncomputable def rs(mask:Nat)(h:Int):Nat->Nat×Nat
 |0=>(bits h % (mask+1),bits h)
 |n+1=>leap mask (rs mask h n).1 (rs mask h n).2
noncomputable def atR(mask:Nat)(r:Nat×Nat):Probe:={ j:=r.1,more:=runEnd mask r.1-r.1,i:=r.1,perturb:=r.2,dummy:=none }
variable{mask:Nat}{h:Int}
theorem G6(i:Nat):runEnd mask i-i<=9:=by unfold runEnd;split<;>lia
theorem vc{n:Nat}{r:Nat×Nat}(e:pth mask h n=atR mask r):∀q,q<=runEnd mask r.1-r.1->pth mask h (n+q)={ atR mask r with j:=r.1+q,more:=runEnd mask r.1-r.1-q }
 |0,_=>by rw[ax5,e];rfl
 |q+1,a=>by
  rw[<-aw4];show pA mask (pth mask h (n+q))=_;rw[vc e q (by exact T8 (by assumption))];unfold pA;rw[if_pos (show runEnd mask r.1-r.1-q > 0 by lia)];rfl
theorem CM:∀m,∃n,n<=10*m/\pth mask h n=atR mask (rs mask h m)
 |0=>⟨0,by decide,rfl⟩
 |m+1=>by
  obtain⟨n,c,e⟩:=CM m;have a:=G6 (mask:=mask) (rs mask h m).1;refine⟨n+(runEnd mask (rs mask h m).1-(rs mask h m).1)+1,by lia,?_⟩;show pA mask (pth mask h (n+_))=_;rw[vc e _ (N2 _)];unfold pA;rw[if_neg (by simp)];rfl
theorem EH:bits h<2 ^ 64:=by
 unfold bits;have:=Int.emod_lt_of_pos h (show(0:Int)<2 ^ 64 by decide);have:=Int.emod_nonneg h (show(2 ^ 64:Int)≠0 by decide)
 lia
theorem CG:∀m,(rs mask h m).2=bits h / 32 ^ m
 |0=>by simp[rs]
 |m+1=>by
  show(rs mask h m).2 / 32=_;rw[CG m,Nat.div_div_eq_div_mul,ai6]
theorem Mo(m:Nat):(rs mask h (13+m)).2=0:=by
 rw[CG];refine Nat.div_eq_of_lt (O4 EH ?_);rw[au5];exact N3 (by decide) (Nat.le_mul_of_pos_right (32 ^ 13) (Nat.pow_pos (by decide)))
theorem Gs:∀m,(rs mask h (13+m)).1 % (mask+1)=oG m (rs mask h 13).1 % (mask+1)
 |0=>rfl
 |m+1=>by
  show(leap mask (rs mask h (13+m)).1 (rs mask h (13+m)).2).1 % _=_;unfold leap;rw[Mo,rq m 1];show((rs mask h (13+m)).1*5+1+0 / 32) % (mask+1) % (mask+1)=(5*oG m (rs mask h 13).1+1) % (mask+1);rw[Nat.mod_mod,Nat.zero_div,ax5,Nat.add_mod,Nat.mul_mod,Gs m,<-Nat.mul_mod,<-Nat.add_mod,am9]
theorem GQ(m:Nat):(rs mask h m).1<mask+1:=by
 cases m with
 |zero=>exact ap5 _ (ax6 _)
 |succ m=>exact ap5 _ (ax6 _)
theorem zH{k:Nat}(i:mask+1=2 ^ k){j:Nat}(l:j<=mask):∃m n,m<=mask+13/\n<=10*m/\(rs mask h m).1=j/\(pth mask h n).j=j:=by
 obtain⟨m,c,e⟩:=Dv k (rs mask h 13).1 j (by lia);rw[<-i]at c e;have a:=Gs (mask:=mask) (h:=h) m;rw[e,Nat.mod_eq_of_lt (GQ _)]at a;obtain⟨n,g,f⟩:=CM (mask:=mask) (h:=h) (13+m);exact⟨13+m,n,by lia,g,a,by rw[f];exact a⟩
theorem xF(n:Nat):(pth mask h n).j<=mask:=by
 have a:∀n,(pth mask h n).j+(pth mask h n).more<=mask/\(pth mask h n).dummy=none:=λn=>by
  have st:∀i,i<mask+1->i+(runEnd mask i-i)<=mask:=λi c=>by unfold runEnd;split<;>lia
  induction n with
  |zero=>exact⟨st _ (ap5 _ (ax6 _)),rfl⟩
  |succ n ih =>
   show(pA mask (pth mask h n)).j+(pA mask (pth mask h n)).more<=mask/\(pA mask (pth mask h n)).dummy=none;unfold pA
   split
   ·exact⟨by have:=ih.1;dsimp only;lia,ih.2⟩
   ·exact⟨st _ (ap5 _ (ax6 _)),ih.2⟩
 have:=(a n).1
 lia
theorem Ih(n:Nat):(pth mask h n).dummy=none:=by
 induction n with
 |zero=>rfl
 |succ n ih =>
  show(pA mask (pth mask h n)).dummy=none;unfold pA
  split<;>exact ih
theorem JO{P:Nat->Prop}{n:Nat}(h:P n):∃m,m<=n/\P m/\∀l,l<m->¬ P l:=by
 induction n using Nat.strongRecOn with
 |_ n ih =>
  by_cases c:∃l,l<n/\P l
  ·obtain⟨l,e,f⟩:=c;obtain⟨m,g,a,b⟩:=ih l e f;exact⟨m,by lia,a,b⟩
  ·exact⟨n,N2 _,h,λl e f=>c ⟨l,e,f⟩⟩
def Ri(xs:Array Nat):Prop:=∀i j,i<j->j<xs.size->xs.getD i 0<xs.getD j 0
theorem CW{xs:Array Nat}{i:Nat}(h:i<xs.size)(a b:Nat):xs.getD i a=xs.getD i b:=by simp[ac6,h]
theorem rn{xs:Array Nat}(up:Ri xs)(j:Nat):∀f lo e,e-lo<=f->lo<=e->e<=xs.size->(∀i,i<lo->xs.getD i 0<j)->(∀i,e<=i->i<xs.size->j<=xs.getD i 0) ->
  below.go xs j f lo e<=xs.size/\(∀i,i<below.go xs j f lo e->xs.getD i 0<j)/\∀i,below.go xs j f lo e<=i->i<xs.size->j<=xs.getD i 0
 |0,lo,e,h,l,g,a,b=>by
  obtain rfl:lo=e:=by lia
  exact⟨g,a,b⟩
 |f+1,lo,e,h,l,g,a,b=>by
  unfold below.go
  by_cases c:lo<e
  ·rw[if_pos c];dsimp only
   by_cases d:xs.getD ((lo+e) / 2) j<j
   ·rw[if_pos d];rw[CW (by lia) j 0]at d;refine rn up j f _ _ (by lia) (by lia) g (λi m=>?_) b;rcases U6 i ((lo+e) / 2)with q|q
    ·exact Nat.lt_trans (up i _ q (by lia)) d
    ·obtain rfl:i=(lo+e) / 2:=by lia
     exact d
   ·rw[if_neg d];rw[CW (by lia) j 0]at d;refine rn up j f _ _ (by lia) (by lia) (by lia) a (λi o n=>?_);rcases U6 ((lo+e) / 2) i with q|q
    ·have:=up _ i q n;lia
    ·obtain rfl:i=(lo+e) / 2:=by lia
     lia
  ·rw[if_neg c];obtain rfl:lo=e:=by lia
   exact⟨g,a,b⟩
theorem qw{xs:Array Nat}(up:Ri xs)(j:Nat):below xs j<=xs.size/\(∀i,i<below xs j->xs.getD i 0<j)/\∀i,below xs j<=i->i<xs.size->j<=xs.getD i 0 :=
 rn up j _ _ _ (by exact N2 _) (O3 _) (N2 _) (λi h=>by lia) (λi a c=>by lia)
def Occ(xs:Array Nat)(j:Nat):Prop:=∃i,i<xs.size/\xs.getD i 0=j
theorem tF{t:R1}(up:Ri t.place){i j:Nat}(c:i<t.place.size)(e:t.place.getD i 0=j):t.slot j=.live i:=by
 obtain⟨l,f,h⟩:=qw up j;have:below t.place j=i:=by
  rcases ar9 (below t.place j) i with q|q|q
  ·have a:=h _ (N2 _) (by lia);have b:=up _ i q c
   lia
  ·exact q
  ·have:=f i q;lia
 unfold slot;rw[this];have g:t.place[i]?=some j:=by rw[R9 c,<-e];simp[ac6,c]
 simp[g]
theorem yH{t:R1}(c:t.dummies=#[]){j:Nat}(n:¬ Occ t.place j):t.slot j=.empty:=by
 unfold slot;have g:(t.place[below t.place j]?==some j)=false:=by
  cases q:t.place[below t.place j]? with
  |none=>rfl
  |some x =>
   obtain⟨a,e⟩:=ah6.mp q;simp only[beq_eq_false_iff_ne,ne_eq,ar4];intro z;exact n ⟨_,a,by simp[ac6,a,e,z]⟩
 rw[if_neg (by rw[g];decide),c];rfl
theorem Bf{xs:Array Nat}(up:Ri xs){mask:Nat}(o:xs.size<=mask):∃j,j<=mask/\¬ Occ xs j:=by
 refine X0 λc=>?_;have all:∀j,j<=mask->Occ xs j:=λj m=>X0 λd=>c ⟨j,m,d⟩;have f:∀j,j<=mask+1->j<=xs.size/\∀i,i<j->xs.getD i 0=i:=λj=>by
  induction j with
  |zero=>exact λ_=>⟨O3 _,λi h=>by lia⟩
  |succ j ih =>
   intro m;obtain⟨s,g⟩:=ih (by exact T8 (by assumption));obtain⟨i,n,e⟩:=all j (by exact N3 (by assumption) (by assumption));have a:¬ i<j:=λq=>by have:=g i q;lia
   have b:i=j:=by
    rcases U6 j i with q|q
    ·have p:=up j i q n;rw[e]at p;cases j with
     |zero=>lia
     |succ j =>
      have u:=up j (j+1) (by exact N2 _) (by lia);have w:=g j (by exact N2 _)
      lia
    ·lia
   subst b;refine⟨n,λl x=>?_⟩;rcases U6 l i with q|q
   ·exact g l q
   ·obtain rfl:l=i:=by lia
    exact e
 have:=(f (mask+1) (N2 _)).1
 lia
structure TB(t:R1) (hs:List Int):Prop where
 sz:t.place.size=hs.length
 up:Ri t.place
 le:∀i,i<t.place.size->t.place.getD i 0<=t.mask
 dm:t.dummies=#[]
 pw:∃k,3<=k/\t.mask+1=2 ^ k
 few:t.place.size<=t.mask
 pr:∀i h,hs[i]?=some h->∃n,(pth t.mask h n).j=t.place.getD i 0/\∀m,m<n->Occ t.place (pth t.mask h m).j
theorem TB.free{t:R1}{hs:List Int}(T:TB t hs)(h:Int):∃n,n<=10*(t.mask+13)/\¬ Occ t.place (pth t.mask h n).j/\∀m,m<n->Occ t.place (pth t.mask h m).j:=by
 obtain⟨j,c,l⟩:=Bf T.up T.few;obtain⟨k,_,i⟩:=T.pw;obtain⟨m,n,a,q,_,e⟩:=zH (mask:=t.mask) (h:=h) i c;obtain⟨f,p,g,o⟩:=JO (P:=λn=>¬ Occ t.place (pth t.mask h n).j) (n:=n) (by rw[e];exact l);exact⟨f,by lia,g,λm a=>X0 λd=>o m a d⟩
theorem wA{t:R1}{hs:List Int}(T:TB t hs){h:Int}{n0:Nat}(o:¬ Occ t.place (pth t.mask h n0).j)(p:∀m,m<n0->Occ t.place (pth t.mask h m).j){ha:Nat->Int}:∀F n,n<=n0->n0-n<F ->
    ∃ m,n ≤ m ∧ m ≤ n0 ∧ (∀ l,n ≤ l → l < m → ∃ i,i < t.place.size ∧ t.place.getD i 0 = (pth t.mask h l).j ∧ ha i ≠ h) ∧
      ((m = n0 ∧ probe.go t ha h F (pth t.mask h n) = some (.empty (pth t.mask h n0).j none)) ∨
       (m<n0/\∃i,i<t.place.size/\t.place.getD i 0=(pth t.mask h m).j/\ha i=h/\probe.go t ha h F (pth t.mask h n)=some (.candidate (pth t.mask h m).j i (pth t.mask h (m+1)))))
  |0,n,g,w=>by lia
  | F + 1,n,g,w => by
    rcases U6 n n0 with q|q
    · obtain ⟨i,f,e⟩:=p n q;have j:=tF T.up f e
      by_cases c:ha i=h
      · refine ⟨n,N2 _,g,λl a b => by lia,.inr ⟨q,i,f,e,c,?_⟩⟩;unfold probe.go;rw[j];dsimp only;rw[if_pos (by simpa using c)];rfl
      · obtain ⟨m,z,u,x,s⟩:=wA T o p (ha:=ha) F (n + 1) (by assumption) (by lia);have eq:probe.go t ha h (F+1) (pth t.mask h n)=probe.go t ha h F (pth t.mask h (n+1)):=by
          rw[probe.go,j];dsimp only;rw[if_neg (by simpa using c)];rfl
        rw[eq];refine⟨m,by exact T8 (by assumption),u,λl a b=>?_,s⟩;rcases U6 n l with d|d
        · exact x l d b
        · obtain rfl:l = n:=by lia
          exact⟨i,f,e,c⟩
    · obtain rfl:n = n0:=by lia
      refine⟨n,N2 _,N2 _,λl a b=>by lia,.inl ⟨rfl,?_⟩⟩;unfold probe.go;rw[yH T.dm o];dsimp only;rw[Ih]
end L2
namespace L2
open PySem PySem.Spec PyProof.Rows
theorem bj:Slot "set_iterator" "__next__" "set_iterator.__next__" :=
 .of (owner:="set_iterator") (n:="__next__") (by rw[typeLookup_type,builtinLookup_eq_fast];kernel_rfl) (by decide +kernel) (by decide +kernel) (by decide +kernel)
  (by first|exact .inl (by decide +kernel)|exact .inr (by decide +kernel)) (by rw[isSubtype_type];kernel_rfl)
theorem dq:entryFor table "set_iterator.__next__"=some Q8.«set_iterator.__next__»:=entryFor_of_tree (by kernel_rfl)
theorem eu(a:M0):argsOk "set_iterator.__next__" ⟨[a],[]⟩:=by unfold argsOk;kernel_rfl
noncomputable abbrev lR(f:M0)(i:Nat)(a:O1)(n ep:Nat):Obj:={ cls:=.type "set_iterator",data:=.fields #[f,ah1 i,.ref a,ah1 n,ah1 ep] }
structure fQ(w:U9) (h:Q9) (a:O1) (o:Obj) (es:Array (Int×M0)) (ep:Nat) (t:R1):Prop where
 get:h.get? a=some o
 ex:o.ExactSet
 data:o.data=.set es ep t
 room:es.size<ai5
 fit:t.fits es.size=true
 led:t.led=!byT w
 go:(es.size≠0->t.plain=false)∨Ri t.place
theorem uO.b{prog:Q7}{w:U9}{h:Q9}{a:O1}{o:Obj}{es:Array (Int×M0)}{ep:Nat}{t:R1}(p:uO prog w h a o es ep t):fQ w h a o es ep t:=⟨p.get,p.ex,p.data,p.room,p.fit,p.led,.inl p.pl⟩
theorem fQ.kept{w:U9}{h h':Q9}{a:O1}{o:Obj}{es:Array (Int×M0)}{ep:Nat}{t:R1}(p:fQ w h a o es ep t)(k:h'.get? a=some o):fQ w h' a o es ep t:=⟨k,p.ex,p.data,p.room,p.fit,p.led,p.go⟩
theorem fQ.typeIs{w:U9}{s:N1}{a:O1}{o:Obj}{es:Array (Int×M0)}{ep:Nat}{t:R1}(p:fQ w s.heap a o es ep t):s.TypeIs (.ref a) "set":=⟨o,p.get,p.ex.1⟩
section
variable{prog:Q7}{w:U9}{A:S0}{E:M0->N1->Prop}{s:N1}
theorem fQ.state{a:O1}{o:Obj}{es:Array (Int×M0)}{ep:Nat}{t:R1}{Q:Array (Int×M0)×Nat×R1->N1->Prop}(p:fQ w s.heap a o es ep t)(h:Q (es,ep,t) s):P6 (R4 prog w) A (setState a) Q E s:=ag8 p.get p.data p.fit h
theorem D0{a:O1}{o:Obj}{es:Array (Int×M0)}{ep:Nat}{t:R1}{Q:Nat->N1->Prop}(p:fQ w s.heap a o es ep t)(h:Q ep s):P6 (R4 prog w) A (setEpoch a) Q E s :=
 wpAny_setEpoch_of p.get p.data p.fit h
theorem GP{I a:O1}{k i n:Nat}{o:Obj}{es:Array (Int×M0)}{ep:Nat}{t:R1}{x:M0}{nx:Nat}{Q:Option M0->N1->Prop}(c:s.heap.get? I=some (lR (ah1 k) i a n ep))(p:fQ w s.heap a o es ep t)(hn:es.size=n)
  (l:∀(g:Option (M0×Nat)->N1->Prop) E',g (some (x,nx)) s->P6 (R4 prog w) A.in1 (aA8 a k i ep) g E' s)
  (h:∀h',h'.get? I=some (lR (ah1 nx) (i+1) a n ep)->S4 I s.heap h'->Q (some x) { s with heap:=h' }):P6 (R4 prog w) A (as1 (.ref I)) Q E s:=by
 have f:s.TypeIs (.ref I) "set_iterator":=⟨_,c,rfl⟩;unfold as1;refine o0 (aq4 (V6 (name:=ab6 "__next__") f bj
  (U3 bj f dq ?_ (eu _))))
 unfold Q8.«set_iterator.__next__»;refine o0 (m:=slotArgs "__next__" 0 ⟨[.ref I],[]⟩) (M9 ?_);refine o0 (ao5 c rfl ?_);dsimp only;simp only[ah1,U2];refine o0 (ak9 p.get p.data p.fit ?_);rw[if_neg (by rw[hn];simp)];refine o0 (l _ _ ?_);dsimp only;refine o0 (ag6 c rfl (by simp) ?_);have e:(s.heap.update I (ao0 (·.setIfInBounds 0 (ah1 nx)))).get? I=some (lR (ah1 nx) i a n ep):=W6 _ c rfl;refine o0 (ag6 e rfl (by simp) ?_);have j:((s.heap.update I (ao0 (·.setIfInBounds 0 (ah1 nx)))).update I (ao0 (·.setIfInBounds 1 (ah1 ((i:Int)+1))))).get? I=some (lR (ah1 nx) (i+1) a n ep):=W6 _ e rfl;exact M9 ⟨_,rfl,M9 (h _ j ((U8 ..).trans (U8 ..)))⟩
theorem Kb{I a:O1}{k i n:Nat}{o:Obj}{es:Array (Int×M0)}{ep:Nat}{t:R1}{Q:Option M0->N1->Prop}(j:A.handled=none)(c:s.heap.get? I=some (lR (ah1 k) i a n ep))(p:fQ w s.heap a o es ep t)(hn:es.size=n)
  (g:∀(e:Option (M0×Nat)->N1->Prop) E',e none s->P6 (R4 prog w) A.in1 (aA8 a k i ep) e E' s)
  (h:∀h',aw2 I s.heap h'->Q none { s with heap:=h' }):P6 (R4 prog w) A (as1 (.ref I)) Q E s:=by
 have f:s.TypeIs (.ref I) "set_iterator":=⟨_,c,rfl⟩;unfold as1;refine o0 (aq4 (V6 (name:=ab6 "__next__") f bj
  (U3 bj f dq ?_ (eu _))))
 unfold Q8.«set_iterator.__next__»;refine o0 (m:=slotArgs "__next__" 0 ⟨[.ref I],[]⟩) (M9 ?_);refine o0 (ao5 c rfl ?_);dsimp only;simp only[ah1,U2];refine o0 (ak9 p.get p.data p.fit ?_);rw[if_neg (by rw[hn];simp)];refine o0 (g _ _ ?_);dsimp only;refine o0 (ag6 c rfl (by simp) ?_);refine o0 ?_;simp only[newExc,newTuple];refine o0 (S3 ?_ (by size_fits));refine o0 (m:=al9 _ _) (au4 (a:=X1) (by first|rfl|(simp only[al9];rfl)) ?_);refine S3 ?_ (by size_fits);simp only[raiseNew];refine o0 (wpAny_handled ?_);rw[show A.in1.handled=none from j];refine o0 (M9 (wpAny_throw ?_));refine o0 (ao8 (T:="StopIteration") (b:=true) ⟨_,N6 _ rfl,rfl⟩ isSubtype_stop ?_);exact M9 (h _ (((U8 ..).extBut.push _).push _))
end
section
variable{prog:Q7}{w:U9}{A:S0}{E:M0->N1->Prop}{s:N1}
noncomputable abbrev tpO(ps:List Nat):Obj:={ cls:=.type "tuple",data:=.seq (ps.map λ(i:Nat)=>ah1 i).toArray }
theorem JQ{a:O1}{ps:List Nat}{Q:Option (Array M0)->N1->Prop}(c:s.heap.get? a=some (tpO ps))(h:Q (some (ps.map λ(i:Nat)=>ah1 i).toArray) s):P6 (R4 prog w) A (ax2 (.ref a)) Q E s:=by
 unfold ax2;exact o0 (az3 c (M9 h))
theorem KY{I a c:O1}{i n j:Nat}{ps:List Nat}{o:Obj}{es:Array (Int×M0)}{ep:Nat}{t:R1}{e:Int×M0}{Q:Option M0->N1->Prop}(f:s.heap.get? I=some (lR (.ref c) i a n ep))(x:s.heap.get? c=some (tpO ps))(p:fQ w s.heap a o es ep t)(hn:es.size=n)
  (u:ps[i]?=some j) (he:es[j]?=some e)
  (h:∀h',h'.get? I=some (lR (.ref c) (i+1) a n ep)->S4 I s.heap h'->Q (some e.2) { s with heap:=h' }):P6 (R4 prog w) A (as1 (.ref I)) Q E s:=by
 have l:s.TypeIs (.ref I) "set_iterator":=⟨_,f,rfl⟩;unfold as1;refine o0 (aq4 (V6 (name:=ab6 "__next__") l bj
  (U3 bj l dq ?_ (eu _))))
 unfold Q8.«set_iterator.__next__»;refine o0 (m:=slotArgs "__next__" 0 ⟨[.ref I],[]⟩) (M9 ?_);refine o0 (ao5 f rfl ?_);dsimp only;simp only[ah1,U2];refine o0 (ak9 p.get p.data p.fit ?_);rw[if_neg (by rw[hn];simp)];refine o0 (JQ x ?_);have g:(ps.map λ(i:Nat)=>ah1 i).toArray[i]?=some (.int j 0):=by simp[u,ah1]
 dsimp only;rw[g];dsimp only;refine o0 ?_;unfold setNextDrawn;refine o0 (p.state ?_);dsimp only;rw[if_neg (by simp),U2,he];refine M9 ?_;refine o0 (ag6 f rfl (by simp) ?_);have q:(s.heap.update I (ao0 (·.setIfInBounds 1 (ah1 ((i:Int)+1))))).get? I=some (lR (.ref c) (i+1) a n ep):=W6 _ f rfl;exact M9 ⟨_,rfl,M9 (h _ q (U8 ..))⟩
theorem LU{I a g:O1}{i n:Nat}{ps:List Nat}{o:Obj}{es:Array (Int×M0)}{ep:Nat}{t:R1}{Q:Option M0->N1->Prop}(l:A.handled=none)(c:s.heap.get? I=some (lR (.ref g) i a n ep))(u:s.heap.get? g=some (tpO ps))(p:fQ w s.heap a o es ep t)(hn:es.size=n)
  (q:ps[i]?=none)
  (h:∀h',aw2 I s.heap h'->Q none { s with heap:=h' }):P6 (R4 prog w) A (as1 (.ref I)) Q E s:=by
 have f:s.TypeIs (.ref I) "set_iterator":=⟨_,c,rfl⟩;unfold as1;refine o0 (aq4 (V6 (name:=ab6 "__next__") f bj
  (U3 bj f dq ?_ (eu _))))
 unfold Q8.«set_iterator.__next__»;refine o0 (m:=slotArgs "__next__" 0 ⟨[.ref I],[]⟩) (M9 ?_);refine o0 (ao5 c rfl ?_);dsimp only;simp only[ah1,U2];refine o0 (ak9 p.get p.data p.fit ?_);rw[if_neg (by rw[hn];simp)];refine o0 (JQ u ?_);have e:(ps.map λ(i:Nat)=>ah1 i).toArray[i]?=none:=by simp[q]
 dsimp only;rw[e];dsimp only;refine o0 (ag6 c rfl (by simp) ?_);have j:(s.heap.update I (ao0 (·.setIfInBounds 0 (ah1 0)))).get? I=some (lR (ah1 0) i a n ep):=W6 _ c rfl;refine o0 (ag6 j rfl (by simp) ?_);refine o0 ?_;simp only[newExc,newTuple];refine o0 (S3 ?_ (by size_fits));refine o0 (m:=al9 _ _) (au4 (a:=X1) (by first|rfl|(simp only[al9];rfl)) ?_);refine S3 ?_ (by size_fits);simp only[raiseNew];refine o0 (wpAny_handled ?_);rw[show A.in1.handled=none from l];refine o0 (M9 (wpAny_throw ?_));refine o0 (ao8 (T:="StopIteration") (b:=true) ⟨_,N6 _ rfl,rfl⟩ isSubtype_stop ?_);exact M9 (h _ (((((U8 ..).trans (U8 ..)).extBut).push _).push _))
theorem Ct{a:O1}{k i:Nat}{o:Obj}{es:Array (Int×M0)}{ep:Nat}{t:R1}{Q:Option (M0×Nat)->N1->Prop}(p:fQ w s.heap a o es ep t)(c:byT w=true)
  (h:Q (((an3 (w.params.setOrder a ep) es)[i]?).map λe=>(e.2,k)) s):P6 (R4 prog w) A (aA8 a k i ep) Q E s:=by
 unfold aA8;refine o0 (p.state ?_);dsimp only;refine o0 (oX ?_);rw[c];simp only[if_true];rw[if_neg (by simp)];refine o0 ?_;unfold setWalk;refine o0 (p.state ?_);dsimp only;refine o0 (oX ?_);rw[c];simp only[if_true];exact o0 (as9 (M9 (M9 h)))
theorem DR{a:O1}{k i:Nat}{o:Obj}{es:Array (Int×M0)}{ep:Nat}{t:R1}{Q:Option (M0×Nat)->N1->Prop}(p:fQ w s.heap a o es ep t)(c:byT w=false)(e:(!t.plain&&decide (es.size > 1))=false)
  (h:Q (match es[av3 t.place k]?,t.place[av3 t.place k]? with|some (_,x),some j=>some (x,j+1)|_,_=>none) s):P6 (R4 prog w) A (aA8 a k i ep) Q E s:=by
 unfold aA8;refine o0 (p.state ?_);dsimp only;refine o0 (oX ?_);rw[c];simp only[N9,if_false];show P6 _ _ (if(!t.plain&&decide (es.size > 1))=true then _ else _) _ _ _;rw[if_neg (by rw[e];simp)];refine o0 ?_;show P6 _ _ (if(!t.led&&!es.isEmpty)=true then _ else _) _ _ _;rw[if_neg (by rw[p.led,c];simp)];exact M9 (M9 h)
end
section
variable{prog:Q7}{w:U9}{A:S0}{E:M0->N1->Prop}{s:N1}
theorem Fo{a:Source}{n:Nat}{Q:Nat->N1->Prop}(hn:n≠0)(h:∀i d,i<n->Q i { s with drawn:=d }):P6 (R4 prog w) A (choose a n) Q E s :=
 λc p hc=>⟨hn,h _ _ (ap5 _ (Nat.pos_of_ne_zero hn))⟩
theorem Ku{f:Type}(n:Nat):∀(xs:List f) (s:N1) (Q:List f->N1->Prop),xs.length=n->(∀c d,c.Perm xs->Q c { s with drawn:=d })->P6 (R4 prog w) A (drawOrder n xs) Q E s:=by
 induction n with
 |zero =>
  intro xs s Q a h;have:xs=[]:=ag2.mp a;subst this;have e:s={ s with drawn:=s.drawn }:=by cases s;rfl
  rw[e];exact M9 (h [] s.drawn (.refl _))
 |succ n ih =>
  intro xs s Q a h;cases xs with
  |nil=>simp at a
  |cons x xs =>
   unfold drawOrder;refine o0 (Fo (by simp) λi d g=>?_);rw[N0 g];dsimp only;refine o0 (ih ((x::xs).eraseIdx i) _ _ (by rw[List.length_eraseIdx_of_lt g];simp at a ⊢;assumption) λc l j=>?_);refine M9 (h _ l ?_);have z:(x::xs)=(x::xs).take i++(x::xs)[i]::(x::xs).drop (i+1):=by rw[List.getElem_cons_drop];simp
   have e:(x::xs).eraseIdx i=(x::xs).take i++(x::xs).drop (i+1):=List.eraseIdx_eq_take_drop_succ _ _;rw[e]at j;refine(j.cons _).trans ?_;generalize (x::xs)[i]=u at z ⊢
   conv=>rhs;rw[z]
   exact al7.symm
theorem kz:Slot "set_iterator" "__iter__" "set_iterator.__iter__" :=
 .of (owner:="set_iterator") (n:="__iter__") (by rw[typeLookup_type,builtinLookup_eq_fast];kernel_rfl) (by decide +kernel) (by decide +kernel) (by decide +kernel)
  (by first|exact .inl (by decide +kernel)|exact .inr (by decide +kernel)) (by rw[isSubtype_type];kernel_rfl)
theorem qi:entryFor table "set_iterator.__iter__"=some Q8.«dict_keyiterator.__iter__» :=
 entryFor_alias (id':="dict_keyiterator.__iter__") (by kernel_rfl) rfl (by decide +kernel) (by kernel_rfl)
theorem rZ(a:M0):argsOk "set_iterator.__iter__" ⟨[a],[]⟩:=by unfold argsOk;kernel_rfl
theorem D4{I a:O1}{f:M0}{i n ep:Nat}{Q:M0->N1->Prop}(e:s.heap.get? I=some (lR f i a n ep))(h:Q (.ref I) s):P6 (R4 prog w) A (au9 (.ref I)) Q E s:=by
 have c:s.TypeIs (.ref I) "set_iterator":=⟨_,e,rfl⟩;refine ar6 c kz (U3 kz c qi ?_ (rZ _));show P6 _ _ (ret (.ref I)) _ _ s;exact M9 ⟨_,rfl,"set_iterator",_,c,bj.lookup,h⟩
end
noncomputable def kI(xs:Array Nat)(i:Nat):Nat:=if i=0 then 0 else xs.getD (i-1) 0+1
theorem xo{xs:Array Nat}(up:Ri xs){i:Nat}(h:i<=xs.size):av3 xs (kI xs i)=i:=by
 obtain⟨g,f,e⟩:=qw up (kI xs i);rcases ar9 (av3 xs (kI xs i)) i with q|q|q
 ·have a:=e (i-1) (by lia) (by lia);unfold kI at a;rw[if_neg (by lia)]at a;lia
 ·exact q
 ·have a:=f i q;unfold kI at a
  by_cases c:i=0
  ·rw[if_pos c]at a;lia
  ·rw[if_neg c]at a;have b:=up (i-1) i (by lia) (by exact O4 (by assumption) (by assumption))
   lia
section
variable{prog:Q7}{w:U9}{A:S0}{E:M0->N1->Prop}{s:N1}
abbrev PSe(a:Array (Int×M0)):Nat->M0->Prop:=λi v=>∃e,a[i]?=some e/\v=e.2
theorem He(B:A.handled=none){I a:O1}(m:a≠I){o:Obj}{es:Array (Int×M0)}{ep:Nat}{t:R1}(c:byT w=true):
  az4 prog w A I [I,a] [I] es.size (PSe (an3 (w.params.setOrder a ep) es)) (λi h=>(∃k:Nat,h.get? I=some (lR (ah1 k) i a es.size ep))/\fQ w h a o es ep t) where
 sub:=λb c=>by simp at c;simp[c]
 frame:=λ_ _ _ st u=>⟨let⟨k,g⟩:=st.1;⟨k,u I (by simp) _ g⟩,st.2.kept (u a (by simp) _ st.2.get)⟩
 item:=λi s Q E H st f=>by
  obtain⟨⟨k,g⟩,p⟩:=st;have sz:(an3 (w.params.setOrder a ep) es).size=es.size:=by
   have:=(nu (w.params.setOrder a ep) es).length_eq;simpa using this
  have j:(an3 (w.params.setOrder a ep) es)[i]?=some ((an3 (w.params.setOrder a ep) es)[i]'(by lia)):=R9 _;refine GP g p rfl (λG C q=>Ct p c (by rw[j];exact q)) λl z x=>?_;exact f _ l s.toks ⟨_,j,rfl⟩ ⟨⟨_,z⟩,p.kept (by rw[x.2 a m];exact p.get)⟩ λb o c e=>by rw[x.2 b (λh=>c (by simp[h]))];exact e
 done:=λs Q E st f=>by
  obtain⟨⟨k,g⟩,p⟩:=st;have sz:(an3 (w.params.setOrder a ep) es).size=es.size:=by
   have:=(nu (w.params.setOrder a ep) es).length_eq;simpa using this
  have j:(an3 (w.params.setOrder a ep) es)[es.size]?=none:=Array.getElem?_eq_none (by lia);exact Kb B g p rfl (λG C q=>Ct p c (by rw[j];exact q)) λl n=>f l s.toks λb o c e=>n b o (λh=>c (by simp[h])) e
 self:=λ_ _ _ _ st f=>let⟨⟨_,g⟩,_⟩:=st;D4 g f
theorem IZ(H:A.handled=none){I a:O1}(l:a≠I){o:Obj}{es:Array (Int×M0)}{ep:Nat}{t:R1}(c:byT w=false)(u:(!t.plain&&decide (es.size > 1))=false)(up:Ri t.place)(O:t.place.size=es.size):
  az4 prog w A I [I,a] [I] es.size (PSe es) (λi h=>i<=es.size/\h.get? I=some (lR (ah1 (kI t.place i)) i a es.size ep)/\fQ w h a o es ep t) where
 sub:=λb c=>by simp at c;simp[c]
 frame:=λ_ _ _ st z=>⟨st.1,z I (by simp) _ st.2.1,st.2.2.kept (z a (by simp) _ st.2.2.get)⟩
 item:=λi s Q E m st f=>by
  obtain⟨_,g,p⟩:=st;have B:es[i]?=some (es[i]'m):=R9 _;have N:t.place[i]?=some (t.place.getD i 0):=by rw[R9 (by lia)];simp[ac6,show i<t.place.size by lia]
  refine GP (x:=(es[i]'m).2) (nx:=t.place.getD i 0+1) g p rfl (λM J q=>DR p c u (by rw[xo up (by lia),B,N];exact q)) λj G C=>?_;refine f _ j s.toks ⟨_,B,rfl⟩ ⟨m,?_,p.kept (by rw[C.2 a l];exact p.get)⟩ λb o c e=>by rw[C.2 b (λh=>c (by simp[h]))];exact e
  rw[G];rfl
 done:=λs Q E st f=>by
  obtain⟨_,g,p⟩:=st;have L:es[es.size]?=none:=Array.getElem?_eq_none (N2 _);exact Kb H g p rfl (λM J q=>DR p c u (by rw[xo up (by lia),L];exact q)) λj n=>f j s.toks λb o c e=>n b o (λh=>c (by simp[h])) e
 self:=λ_ _ _ _ st f=>D4 st.2.1 f
theorem IS(N:A.handled=none){I a f:O1}(u:a≠I)(z:f≠I){o:Obj}{es:Array (Int×M0)}{ep:Nat}{t:R1}{ps:List Nat}(C:ps.Perm (Q0 es.size)):
  az4 prog w A I [I,a,f] [I] es.size (PSe (ps.map λj=>es.getD j ac4).toArray) (λi h=>h.get? I=some (lR (.ref f) i a es.size ep)/\h.get? f=some (tpO ps)/\fQ w h a o es ep t) where
 sub:=λb c=>by simp at c;simp[c]
 frame:=λ_ _ _ st x=>⟨x I (by simp) _ st.1,x f (by simp) _ st.2.1,st.2.2.kept (x a (by simp) _ st.2.2.get)⟩
 item:=λi s Q E O st l=>by
  obtain⟨g,n,p⟩:=st;have sz:ps.length=es.size:=by rw[C.length_eq,Z5]
  have m:i<ps.length:=by lia
  have J:ps[i]?=some ps[i]:=N0 m;have H:ps[i]<es.size:=R0.mp (C.mem_iff.mp (V0 m));have L:es[ps[i]]?=some es[ps[i]]:=R9 H;refine KY g n p rfl J L λq M G=>?_;refine l _ q s.toks ⟨es[ps[i]],?_,rfl⟩ ⟨M,by rw[G.2 f z];exact n,p.kept (by rw[G.2 a u];exact p.get)⟩ λb o c e=>by rw[G.2 b (λh=>c (by simp[h]))];exact e
  simp[J,ac6,H]
 done:=λs Q E st l=>by
  obtain⟨g,n,p⟩:=st;have sz:ps.length=es.size:=by rw[C.length_eq,Z5]
  exact LU N g n p rfl (S9 (by lia)) λq B=>l q s.toks λb o c e=>B b o (λh=>c (by simp[h])) e
 self:=λ_ _ _ _ st l=>D4 st.1 l
end
theorem pZ:entryFor table "set.__iter__"=some Q8.«frozenset.__iter__» :=
 entryFor_alias (id':="frozenset.__iter__") (by kernel_rfl) rfl (by decide +kernel) (by kernel_rfl)
section
variable{prog:Q7}{w:U9}{A:S0}{E:M0->N1->Prop}{s:N1}
theorem DG(es:Array (Int×M0)):(Q0 es.size).map (λj=>es.getD j ac4)=es.toList:=by
 apply List.ext_getElem (by simp);intro i a c;simp at a;simp[ac6,a]
theorem KJ{a:O1}{o:Obj}{es:Array (Int×M0)}{ep:Nat}{t:R1}{Q:M0->N1->Prop}(B:A.handled=none)(p:fQ w s.heap a o es ep t)
  (h:∀ (I:O1) (h':Q9) d' (n:Array (Int × M0)) (H:List O1) (St:Nat → Q9 → Prop),n.toList.Perm es.toList → (∀ b o,s.heap.get? b = some o → h'.get? b = some o) → az4 prog w A I H [I] es.size (PSe n) St → St 0 h' → s.heap.objs.size ≤ I →
   (∀b∈H,b=a∨s.heap.objs.size<=b)->Q (.ref I) { s with heap:=h',drawn:=d' }):P6 (R4 prog w) A (au9 (.ref a)) Q E s:=by
 have x:a<s.heap.objs.size:=P2 p.get;refine ar6 p.typeIs PySem.F.slot_set_iter (U3 PySem.F.slot_set_iter p.typeIs pZ ?_ (PySem.F.args_set_iter_1 _));unfold Q8.«frozenset.__iter__»;refine o0 (m:=Q8.Frozenset.slot0 "__iter__" ⟨[.ref a],[]⟩) (M9 ?_);unfold Q8.Frozenset.sizeOf;refine o0 (o0 (ak9 p.get p.data p.fit (M9 ?_)));refine o0 ?_;unfold setDrawn;refine o0 (p.state ?_);dsimp only;refine o0 (oX (M9 ?_));show P6 _ _ (if(!byT w&&(!t.plain&&decide (es.size > 1)))=true then _ else _) _ _ _
 split
 ·rename_i u;refine o0 (Ku es.size (Q0 es.size) s _ (by simp) λf d C=>?_);have O:f.length=es.size:=by rw[C.length_eq,Z5]
  have J:=ak0 p.room;refine o0 ?_;simp only[newTuple];refine S3 ?_ (by show(f.map _).toArray.size<=N7;simp;lia);have N:(s.heap.push (tpO f)).get? s.heap.objs.size=some (tpO f):=N6 _ rfl;have l:fQ w (s.heap.push (tpO f)) a o es ep t:=p.kept (M7 _ p.get);refine o0 (D0 (s:={ s with heap:=s.heap.push (tpO f),drawn:=d }) l ?_);refine o0 ?_;unfold newFields;refine S3 ?_;refine M9 ⟨_,rfl,"set_iterator",_,⟨_,N6 _ rfl,rfl⟩,bj.lookup,?_⟩;refine h _ _ d (f.map λj=>es.getD j ac4).toArray [(s.heap.push (tpO f)).objs.size,a,s.heap.objs.size] _ ?_ (λb o e=>M7 _ (M7 _ e))
   (IS B (o:=o) (t:=t) (ep:=ep) (ps:=f) (by rw[W1];exact P8 (X7 x)) (by rw[W1];exact P8 (ab9 _)) C) ⟨N6 _ rfl,M7 _ N,l.kept (M7 _ l.get)⟩ (by rw[W1];lia) λb c=>?_
  ·have:=C.map λj=>es.getD j ac4;rw[DG]at this;simpa using this
  ·rw[W1]at c;simp only[O9,ac3,or_false]at c;rcases c with rfl|rfl|rfl
   ·exact .inr (ar1 _)
   ·exact .inl rfl
   ·exact .inr (N2 _)
 ·rename_i u;refine o0 (M9 ?_);refine o0 (D0 p ?_);refine o0 ?_;unfold newFields;refine S3 ?_;refine M9 ⟨_,rfl,"set_iterator",_,⟨_,N6 _ rfl,rfl⟩,bj.lookup,?_⟩;have l:∀G,fQ w (s.heap.push G) a o es ep t:=λG=>p.kept (M7 _ p.get);have g:∀b∈[s.heap.objs.size,a],b=a∨s.heap.objs.size<=b:=λb c=>by
   simp only[O9,ac3,or_false]at c;rcases c with rfl|rfl
   ·exact .inr (N2 _)
   ·exact .inl rfl
  cases c:byT w with
  |true =>
   exact h _ _ s.drawn _ [s.heap.objs.size,a] _ (nu (w.params.setOrder a ep) es) (λb o e=>M7 _ e) (He B (o:=o) (t:=t) (ep:=ep) (P8 x) c) ⟨⟨0,N6 _ rfl⟩,l _⟩ (N2 _) g
  |false =>
   have q:(!t.plain&&decide (es.size > 1))=false:=by
    rw[c]at u;simpa using u
   have L:t.place.size=es.size:=by
    have:=p.fit;simp[R1.fits]at this;lia
   have up:Ri t.place:=by
    rcases p.go with z|z
    ·intro i j M P;have:=z (by lia);rw[this]at q;simp at q
     lia
    ·exact z
   exact h _ _ s.drawn es [s.heap.objs.size,a] _ (.refl _) (λb o e=>M7 _ e) (IZ B (o:=o) (t:=t) (ep:=ep) (P8 x) c q up L) ⟨O3 _,N6 _ rfl,l _⟩ (N2 _) g
end
section
variable{prog:Q7}{w:U9}{A:S0}{E:M0->N1->Prop}{s:N1}
theorem Lr{r:O1}{Q:Bool->N1->Prop}(f:s.TypeIs (.ref r) "set")(h:Q false s):P6 (R4 prog w) A (Q8.List.listLengthHint (.ref r)) Q E s:=by
 unfold Q8.List.listLengthHint;refine o0 (an1 f PySem.F.slot_set_len.lookup ?_);generalize c:("set.__len__":String)=e
 wp_delta
 rw[show splitId e=some ("set","__len__")from by subst c;decide +kernel];subst c;refine o0 (ao8 (T:="set") (b:=true) f (by rw[isSubtype_type];kernel_rfl) ?_);refine wpAny_ite_split (λa=>absurd a (by decide)) (λ_=>?_);refine wpAny_ite_split (λ_=>?_) (λa=>absurd (by decide +kernel) a);refine o0 (as3 f ?_);exact M9 h
noncomputable abbrev F5(a:Array M0)(c:Nat):Obj:={ cls:=.type "list",data:=.seq a c }
theorem B9{a:O1}{o:Obj}{es:Array (Int×M0)}{ep:Nat}{t:R1}{Q:List M0->N1->Prop}(hh:A.handled=none)(p:fQ w s.heap a o es ep t)
  (h:∀s' (m:Array (Int×M0)),m.toList.Perm es.toList->(∀b o,s.heap.get? b=some o->s'.heap.get? b=some o)->s'.gens=s.gens->s'.os=s.os->Q (m.toList.map (·.2)) s') :
  P6 (R4 prog w) A (collect (.ref a)) Q E s:=by
 have al:a<s.heap.objs.size:=P2 p.get;have hn:=ak0 p.room;unfold collect;refine o0 (wpAny_runValue (ab8 PySem.F.entry_proto_collect ?_));rw[Z7 PySem.F.plain_proto_collect _];show P6 _ A.in1 (newList [] >>= λl=>again (.builtin "list.__iadd__" ⟨[l,.ref a],[]⟩)) _ _ s;refine o0 (S3 ?_);refine M9 ⟨ak7 PySem.F.plain_list_iadd _,ab8 PySem.F.entry_list_iadd ?_⟩;rw[Z7 PySem.F.plain_list_iadd _];generalize L:s.heap.push { cls:=.type "list",data:=.seq ([]:List M0).toArray }=B;have k1:∀b o,s.heap.get? b=some o->B.get? b=some o:=λb o e=>by rw[<-L];exact M7 _ e
 have hS:B.get? s.heap.objs.size=some (F5 #[] 0):=by rw[<-L];exact N6 _ rfl
 have a3:B.objs.size=s.heap.objs.size+1:=by rw[<-L];exact W1 _ _
 have Z:fQ w B a o es ep t:=p.kept (k1 _ _ p.get);show P6 _ A.in1 (Q8.List.listExtendWith (.ref s.heap.objs.size) (.ref a) (.ref s.heap.objs.size)) _ _ { s with heap:=B };unfold Q8.List.listExtendWith;refine o0 (as3 (T:="set") (Z.typeIs (s:={ s with heap:=B })) ?_);have O:s.heap.objs.size≠a:=ap2 al;have h1:Q8.List.listSameRef (.ref s.heap.objs.size) (.ref a)=false:=by simp[Q8.List.listSameRef,O]
 have H:(aa0 "set"==aa0 "list")=false:=by decide
 have h3:(aa0 "set"==aa0 "tuple")=false:=by decide
 simp only[h1,H,h3,Bool.or_false,N9,if_false];have a1:A.in1.handled=none:=hh;refine o0 (KJ (s:={ s with heap:=B }) a1 Z λI z N m fp St hp k2 W st hI a4=>?_);have S:s.heap.objs.size∉fp:=λn=>by
  rcases a4 _ n with e|e
  ·exact O e
  ·have e':B.objs.size<=s.heap.objs.size:=e
   lia
 have a5:m.size=es.size:=by have:=hp.length_eq;simpa using this
 have T2:aq3 { s with heap:=z,drawn:=N } (.ref a) "set":=(Z.kept (k2 _ _ Z.get)).typeIs (s:={ s with heap:=z,drawn:=N });refine o0 (W5 (Lr T2 ?_));have C:∀s' (f:Array M0) M,Moved (s.heap.objs.size::[I]) (λa b=>b=a) { s with heap:=z,drawn:=N } s'->s'.heap.get? s.heap.objs.size=some (F5 f M)->ItemsOf (PSe m) f es.size ->
   P6 (R4 prog w) A (do match (<-load s.heap.objs.size).data with|.seq xs _=>al5 xs.toList|_=>aw1 "internal:collect") Q E s':=by
  intro s' f M n G j;refine o0 (az3 G (M9 ?_));have U:f.toList=m.toList.map (·.2):=by
   apply an7;intro i;rcases U6 i es.size with hi|hi
   ·have:f[i]?=some (f[i]'(by rw[j.1];exact hi)):=R9 _;obtain⟨e,e1,e2⟩:=j.2 i _ this;rw[W7,this,e2,Q6,W7,e1];rfl
   ·rw[S9 (by simp[j.1];exact hi),S9 (by simp;lia)]
  rw[U];refine h s' m hp (λb o e=>n.heap b o ?_ (k2 b o (k1 b o e))) n.gens n.os;have u:=P2 e;have Y:B.objs.size<=I:=hI;rw[a3]at Y;simp only[O9,ac3,or_false,not_or];exact⟨P8 u,P8 (O4 (X7 u) Y)⟩
 have P:∀(R:aA0->N1->Prop) (H:Q9) (c:Nat),St 0 H->(∀b o,b≠s.heap.objs.size->z.get? b=some o->H.get? b=some o)->H.get? s.heap.objs.size=some (F5 #[] c) ->
   (∀s' (f:Array M0) M,Moved (s.heap.objs.size::[I]) (λa b=>b=a) { s with heap:=z,drawn:=N } s'->s'.heap.get? s.heap.objs.size=some (F5 f M)->ItemsOf (PSe m) f es.size->R (.ok (.ret (.ref s.heap.objs.size))) s') ->
   am8 (R4 prog w) A (.builtin "list.extend.loop" ⟨[.ref s.heap.objs.size,.ref I,.ref s.heap.objs.size],[]⟩) R { s with heap:=H,drawn:=N }:=by
  intro R H c a2 k3 x hR;refine codeAny_extend_loopS W.toS hn _ S _ es.size 0 _ #[] c rfl (O3 _) a2 x (ItemsOf.nil _) λs' f M n G j=>hR s' f M ⟨λb o u e=>n.heap b o u (k3 b o (λq=>u (by simp[q])) e),n.gens,n.drawn,n.os,n.toks⟩ G j
 have J:=k2 _ _ hS;refine wpAny_ite_split (λ_=>?_) (λ_=>M9 ⟨ak7 PySem.F.plain_extend_loop _,?_⟩)
 ·refine o0 (ap3 ?_);refine o0 ?_;show P6 _ _ (updateSeq s.heap.objs.size (·.push .none) >>= λ_=>updateSeq s.heap.objs.size (·.pop)) _ _ _;refine o0 (wpAny_updateSeq J rfl ?_);have x:=W6 (aj5 (·.push X1)) J rfl;refine wpAny_updateSeq x rfl ?_;have a0:=W6 (aj5 (·.pop)) x rfl;have X:∀b o,b≠s.heap.objs.size->z.get? b=some o->((z.update s.heap.objs.size (aj5 (·.push X1))).update s.heap.objs.size (aj5 (·.pop))).get? b=some o :=
   λb o u e=>(am2 _ _ (aa3 u)).trans ((am2 _ _ (aa3 u)).trans e)
  refine M9 ⟨ak7 PySem.F.plain_extend_loop _,?_⟩;exact P _ _ _ (W.frame 0 z _ st λb u o e=>X b o (λq=>S (q▸u)) e) X a0 C
 ·exact P _ z 0 st (λb o _ e=>e) J C
end
end L2
namespace L2
open PySem PySem.Spec PyProof.Rows PySem.Calls
section
variable{prog:Q7}{w:U9}{A:S0}{E:M0->N1->Prop}{s:N1}
theorem Bz{es a:Array (Int×M0)}(el:ElT prog w es.toList)(f:a.toList.Perm es.toList){i:Nat}(c:i<a.toList.length):
  ∃t,(a.toList.map (·.2))[i]?=some (.str ((a.toList.map λe=>txt e.2).getD i ac4) t):=by
 obtain⟨x,t,e⟩:=el _ (f.mem_iff.mp (V0 c));refine⟨t,?_⟩;simp only[S5,Q6,N0 c,ah3,e];rfl
theorem FK{a:O1}{xs:List Str}{Q:M0->N1->Prop}(hh:A.handled=none)(hS:iL prog w s.heap a xs)(a0:xs.length<64)
  (k:∀ (n:N1) (h':Q9) (x:O1) (P:List M0) (c:Nat),(∀ b o,s.heap.get? b = some o → n.heap.get? b = some o) → n.gens = s.gens → n.os = s.os → n.heap.objs.size ≤ x → (∀ b o,n.heap.get? b = some o → h'.get? b = some o) → h'.get? x = some (aq9 "list" P.toArray c) →
   P.length=(aT xs).length->(∀i,(h:i<(aT xs).length)->∃t,P[i]?=some (.str (aT xs)[i] t))->Q (.ref x) { n with heap:=h' }) :
  P6 (R4 prog w) A (call (.builtin "sorted") [.ref a]) Q E s:=by
 obtain⟨o,Y,ep,t,p,pm⟩:=hS;refine call_function_entry kind_sorted plain_sorted entry_sorted (args_sorted1 _) ?_;unfold Q8.«sorted»;refine o0 (m:=checkCount "sorted" 1 1 _) (M9 ?_);refine o0 (B9 (A:=A.in1) hh p.b λn L hp a2 eg eo=>?_);generalize G:L.toList.map (·.2)=l;have bp:l.length=xs.length:=by rw[<-G,s0,hp.length_eq,<-pm.length_eq,s0]
 generalize H:L.toList.map (λe=>txt e.2)=u;have N:u.length=l.length:=by rw[<-H,<-G];simp
 have a1:u.Perm xs:=by rw[<-H];exact(lP hp).trans pm
 have at_:∀i,i<l.length->∃t,l[i]?=some (.str (u.getD i ac4) t):=λi h=>by
  rw[<-G,<-H];exact Bz p.el hp (by rw[<-G,s0]at h;exact h)
 have hz:l.length<64:=by rw[bp];exact a0
 have R:l.length<=N7:=by rw[O7];lia
 refine o0 (wpAny_newList ?_ R);have new:(n.heap.push (aq9 "list" l.toArray 0)).get? n.heap.objs.size=some (aq9 "list" l.toArray 0):=N6 _ rfl;have Z:∀b o,n.heap.get? b=some o->(n.heap.push (aq9 "list" l.toArray 0)).get? b=some o:=λb o e=>M7 _ e;show P6 _ _ _ _ _ { n with heap:=n.heap.push (aq9 "list" l.toArray 0) };refine o0 (W5 (U3 slot_list_sort ⟨_,new,rfl⟩ entry_list_sort ?_ (args_list_sort _)));refine C1 (O:=KI) (κ:=oneType') (key:=λi=>u.getD i ac4) new hz (λt Q' two ht q=>?_) (λi j t C h J ht q=>?_) λf c h' B hr hs hx=>?_
 ·exact PySem.W.kas_kind (T:=.type "str") two (λv hv=>by
   obtain⟨i,h⟩:=af4.mp hv;obtain⟨t,g⟩:=at_ i (N4.mp h).1;rw[g]at h;cases h;exact PySem.W.Looks.of_pure rfl) rfl rfl q
 ·obtain⟨t1,g⟩:=at_ i h;obtain⟨u1,g'⟩:=at_ j J;show P6 _ _ (keyLt' _ _ _) _ _ _;rw[j7 g,j7 g'];exact PySem.W.kas_lt_str q
 ·refine⟨_,rfl,M9 ⟨_,rfl,?_⟩⟩;have U:∀i∈f.toList,i<l.length:=λi h=>R0.mp (B.mem_iff.mp h);have Y:(f.toList.map λi=>u.getD i ac4)=aT xs:=by
   have S:f.toList.Perm (Q0 u.length):=by rw[N];exact B
   have hm:=S.map λi=>u.getD i ac4;rw[qx]at hm;refine qN (hm.trans a1) ?_;rw[ae8];intro i j h J X;have sz:f.size=l.length:=B.size;rw[s0,O8]at h J;have:=hr i j (T8 X) (by lia);have e1:kp_ f i=f.toList[i]'(by simpa using h):=by simp[kp_,ac6,h]
   have M:kp_ f j=f.toList[j]'(by simpa using J):=by simp[kp_,ac6,J]
   have g:leS (u.getD (kp_ f i) ac4) (u.getD (kp_ f j) ac4)=true:=by
    have z:ltS (u.getD (kp_ f j) ac4) (u.getD (kp_ f i) ac4)=false:=this;simp only[leS,z,ao7]
   rw[e1,M]at g;simpa using g
  have ln:(aT xs).length=l.length:=by rw[<-Y,s0,O8];exact B.size
  refine k n h' n.heap.objs.size (jy l f) c a2 eg eo (N2 _) (λb o e=>hs b o (P8 (P2 e)) (Z b o e)) hx ((ny B).trans ln.symm) λi h=>?_;have I:i<f.toList.length:=by rw[O8];rw[show f.size=l.length from B.size];lia
  obtain⟨t1,g⟩:=at_ _ (U _ (V0 I));refine⟨t1,?_⟩;have M:(aT xs)[i]?=some (u.getD f.toList[i] ac4):=by rw[<-Y,Q6,N0 I];rfl
  have e3:(aT xs)[i]=u.getD f.toList[i] ac4:=by rw[N0 h]at M;exact T4 M
  rw[e3,jy,Q6,N0 I,ah3,j7 g]
end
theorem wM:∀(xs c:List Str),c.Nodup->(xs.foldl ic c).Nodup
 |[],_,h=>h
 |x::xs,c,h=>by
  rw[aa6];refine wM xs _ ?_;unfold ic;split
  ·exact h
  ·rename_i g;rw[ac7];exact⟨h,by simp,λa f b e=>by rw[N8]at e;subst e;intro q;subst q;exact g f⟩
theorem xp{l c:List Str}(h:l.Nodup)(h':c.Nodup)(e:∀x,x∈l↔x∈c):l.Perm c:=by
 rw[List.perm_iff_count];intro a;rw[h.count,h'.count];simp only[e a]
theorem kJ{l a:List Str}(h:l.Perm a):aT l=aT a:=qN ((br l).trans h) (vZ l)
section
variable{X:Cx}{y:List (O1×Obj)}{s:N1}{σ:St}{H:Hp}{M:DH}
theorem Inv.with{s':N1}(I:Inv X y σ H s)(k:∀b u,s.heap.get? b=some u->s'.heap.get? b=some u)(g:s'.gens=s.gens)(o:s'.os=s.os):Inv X y σ H s':=by
 have a:Inv X y σ H { s with heap:=s'.heap,toks:=s'.toks }:=I.kept k;exact⟨a.ok,o.trans a.os,by rw[g];exact a.bare,a.base,a.loc,a.cell,a.free,a.freeC,a.pin,a.hok,a.len⟩
theorem IT{a:R6}{C:TEd}{R:D->DH->Prop}{Q:M0->N1->Prop}{p j:Pos}(G:X.calm=true)(hg:Gl X "set")(N:X.mg "set"=none)(ha:PEd X a C)(he:O5 [a] X.env=(false,af8 a X.env)::O5 [] X.env)
  (hpl:(ad7 j (O5 [] X.env)).any (·.1)=false) (I:Inv X y σ H s) (h:up X.K C σ H (λv f=>∃(x:D) (M1:DH),R x M1/\HR X.K M1 f/\ba X.K M1 f (rdM M1 x) v/\Ext M H M1 f))
  (J:∀x M1,R x M1->∃xs:List Str,rdM M1 x=.lst (xs.map D.str)/\xs.length<63)
  (k:∀(c:O1) s' x M1 f xs,Inv X y σ f s'->R x M1->rdM M1 x=.lst (xs.map D.str)->HR X.K M1 f->Ext M H M1 f->iL X.prog X.w s'.heap c (dg xs)->gx X y f c->Q (.ref c) s') :
  P6 (R4 X.prog X.w) X.A (af8 (.Call (.Name "set" p) [a] [] j) X.env) Q X.xe s:=by
 refine ad1 (gn I hg N (u:=.type "set") (by kernel_rfl) ?_ (by decide) (by decide));refine X4 ?_ he hpl;rw[he];show P6 _ _ (aA3 ((false,af8 a X.env)::ad7 j (O5 [] X.env))) _ _ s;refine af9 (thn (ha y s σ H _ I h) λu s1 ⟨v,f,n,L,x,M1,z,q,w,U⟩=>?_);refine ag7 ?_;obtain⟨xs,B,hl⟩:=J x M1 z;rw[B]at w;obtain⟨l,vs,rfl,sq,A⟩:=w;cases L;obtain⟨o,m,P,hz⟩:=n.list (SqL.of sq);have E:xs.length=o.length:=by rw[<-m.length,<-A.length,s0]
 have S:xs.length+1<ai5:=by have e:ai5=4096:=rfl;rw[e];lia
 refine sY (n.ok.hd G) P.isList (by simp[E]) (λi T=>?_) S λY Z O kp=>?_
 ·obtain⟨t,g⟩:=D6 A m T;exact⟨t,by simpa using g⟩
 ·exact k _ _ x M1 f xs (n.kept kp) z B q U O (n.fpOk (N2 _) (n.hok.fresh (N2 _)))
theorem BV:∀{ns:List Str}{a:List M0},a.length=ns.length->(∀i,(c:i<ns.length)->∃t,a[i]?=some (.str ns[i] t))->aH (ns.map V.str) a
 |[],a,h,_=>by
  have:a=[]:=ag2.mp h;subst this;exact .nil
 |n::ns,[],h,_=>by simp at h
 |n::ns,u::a,h,q=>by
  obtain⟨t,g⟩:=q 0 (by simp);have e:u=.str n t:=by simpa using g
  subst e;exact .cons ⟨t,rfl⟩ (BV (by simpa using h) λi c=>q (i+1) (Nat.succ_lt_succ c))
theorem w9{K:u8}:∀{ns:List Str},aw K M H (ns.map D.str) (ns.map V.str)
 |[]=>rfl
 |n::ns=>⟨_,_,rfl,rfl,w9⟩
end
end L2
namespace L2
open PySem PySem.Spec PyProof.Rows
section
variable{X:Cx}{o i:R6}{z G:TEd}{y:Pos}
end
section
variable{P:Q7}{w:U9}{K:u8}{z:Str->Option M0}{base:Q9}{f:O1}{y:P5}
theorem Fun.okR{x c:Str}{st:af0}{f:O1}{y:P5}{N ps:List Str}{k n:Nat}{S:SpD}(F:Fun K x c st f y)(hn:ps.length=n)(m:ax N ps (aj st))
  (g:∀ (e:M0) (A:S0) (a:List Env) (s:N1) (H:Hp) (E:XK),cQ k (A.deeper (ay0 c (aj st) s.heap.objs.size f e)) →
   ∃t:TSd,QSs (wO CX0 P w K z base N c (aj st) f e A a s H E).nox (eA st) t/\∀ds M R (G:Prop),S ds M R->(t { nx:=λ_ h=>R .non h,rt:=R } (k9 N ds) M->G)->G):aV P w K z base CX0 (k+1) f y ps (spD K n S):=by
 refine F.okD hn m λe A a s H E o=>?_;obtain⟨t,i,l⟩:=g e A a s H E o;exact⟨t,FN i,λds M R _ j=>l ds M R _ j id⟩
theorem shr{p:Prop}(h:∀q:Prop,(p->q)->q):p:=h p id
theorem nn{M:DH}{p q:O1}{u:HD}(a:M q=none)(c:M p=some u):q≠p:=λe=>by rw[e,c]at a;cases a
end
end L2
namespace L2
open PySem PyProof.Rows
end L2
namespace L2
open PySem PySem.SetTable
theorem mW{a:Type}(xs:Array a)(p:Nat)(x:a):(insertAt xs p x).toList=xs.toList.take p++x::xs.toList.drop p:=by
 unfold insertAt;rw[Array.toList_append,ar8,Array.toList_extract,Array.toList_extract,List.extract_eq_take_drop,List.extract_eq_take_drop];rw[ao6,Nat.sub_zero,ae0 (l:=xs.toList.drop p) (by simp)];simp
theorem kj{xs:Array Nat}{i d:Nat}:xs.getD i d=xs.toList[i]?.getD d:=by
 rw[W7]
 by_cases h:i<xs.size
 ·simp[ac6,h]
 ·simp[ac6,h]
theorem wU{xs:Array Nat}{p x:Nat}(f:p<=xs.size)(i:Nat):(insertAt xs p x).getD i 0=if i<p then xs.getD i 0 else if i=p then x else xs.getD (i-1) 0:=by
 have e:(xs.toList.take p).length=p:=by simp;lia
 rw[kj,mW,ao3,e]
 by_cases a:i<p
 ·rw[if_pos a,if_pos a,ag0 a,kj]
 ·rw[if_neg a,if_neg a]
  by_cases b:i=p
  ·rw[if_pos b,b];simp
  ·rw[if_neg b];obtain⟨m,c⟩:∃m,i-p=m+1:=⟨i-p-1,by lia⟩;rw[c,ab4,aq5,kj];congr 2;lia
theorem jM{a:Type}(xs:Array a)(p:Nat)(x:a)(c:p<=xs.size):(insertAt xs p x).size=xs.size+1:=by
 rw[<-O8,mW];simp;lia
theorem zb{xs:Array Nat}{p x:Nat}(c:p<=xs.size){j:Nat}(h:Occ xs j):Occ (insertAt xs p x) j:=by
 obtain⟨i,f,e⟩:=h
 by_cases a:i<p
 ·exact⟨i,by rw[jM _ _ _ c];exact U7 (by assumption),by rw[wU c,if_pos a];exact e⟩
 ·exact⟨i+1,by rw[jM _ _ _ c];lia,by rw[wU c,if_neg (by lia),if_neg (by lia)];exact e⟩
theorem TB.put{t:R1}{hs:List Int}(T:TB t hs){h:Int}{n:Nat}(N:¬ Occ t.place (pth t.mask h n).j)(Q:∀m,m<n->Occ t.place (pth t.mask h m).j)(E:t.place.size+1<=t.mask):
  ∃p,p<=hs.length/\(t.put (pth t.mask h n).j).2=p/\TB (t.put (pth t.mask h n).j).1 (hs.take p++h::hs.drop p)/\(t.put (pth t.mask h n).j).1.led=t.led/\(t.put (pth t.mask h n).j).1.plain=t.plain/\(t.put (pth t.mask h n).j).1.mask=t.mask/\(t.put (pth t.mask h n).j).1.place.size=t.place.size+1:=by
 generalize G:(pth t.mask h n).j=j at *
 have A:j<=t.mask:=by rw[<-G];exact xF n
 obtain⟨o,I,L⟩:=qw T.up j;have sz:=T.sz;have J:has t.dummies j=false:=by rw[T.dm];rfl
 have e:t.put j=({ t with place:=insertAt t.place (below t.place j) j,dummies:=t.dummies },below t.place j):=by unfold R1.put;rw[J];rfl
 rw[e];dsimp only;generalize U:below t.place j=p at *
 have C:∀i,p<=i->i<t.place.size->j<t.place.getD i 0:=λi B z=>by
  have:=L i B z;rcases U6 j (t.place.getD i 0)with q|q
  ·exact q
  ·exact absurd ⟨i,z,by lia⟩ N
 have l:=jM t.place p j o;refine⟨p,by lia,rfl,⟨?_,?_,?_,T.dm,T.pw,by rw[l];exact E,?_⟩,rfl,rfl,rfl,l⟩
 ·show(insertAt t.place p j).size=_;rw[l,O6,S2,O2,al6];lia
 ·intro i k hik hk;have M:k<t.place.size+1:=by rw[<-l];exact hk
  show(insertAt t.place p j).getD i 0<(insertAt t.place p j).getD k 0;rw[wU o,wU o]
  by_cases c:i<p
  ·rw[if_pos c]
   by_cases H:k<p
   ·rw[if_pos H];exact T.up i k hik (by exact O4 (by assumption) (by assumption))
   ·rw[if_neg H]
    by_cases f:k=p
    ·rw[if_pos f];exact I i c
    ·rw[if_neg f];exact T.up i (k-1) (by lia) (by lia)
  ·rw[if_neg c,if_neg (show ¬ k<p by lia),if_neg (show ¬ k=p by lia)]
   by_cases f:i=p
   ·rw[if_pos f];exact C _ (by lia) (by lia)
   ·rw[if_neg f];exact T.up (i-1) (k-1) (by lia) (by lia)
 ·intro i O;have R:i<t.place.size+1:=by rw[<-l];exact O
  show(insertAt t.place p j).getD i 0<=t.mask;rw[wU o]
  by_cases c:i<p
  ·rw[if_pos c];exact T.le i (by exact O4 (by assumption) (by assumption))
  ·rw[if_neg c]
   by_cases f:i=p
   ·rw[if_pos f];exact A
   ·rw[if_neg f];exact T.le _ (by lia)
 ·intro i g s;have P:(hs.take p).length=p:=by simp;lia
  have w:∀x,hs[x]?=some g->(insertAt t.place p j).getD i 0=t.place.getD x 0->∃n,(pth t.mask g n).j=(insertAt t.place p j).getD i 0/\∀m,m<n->Occ (insertAt t.place p j) (pth t.mask g m).j:=λx B z=>by
   obtain⟨S,a,b⟩:=T.pr x g B;exact⟨S,by rw[a,z],λm u=>zb o (b m u)⟩
  rw[ao3,P]at s
  by_cases c:i<p
  ·rw[if_pos c,ag0 c]at s;exact w i s (by rw[wU o,if_pos c])
  ·rw[if_neg c]at s
   by_cases f:i=p
   ·rw[f,ax7,al0]at s;cases s;exact⟨n,by show _=(insertAt t.place p j).getD i 0;rw[wU o,if_neg c,if_pos f];exact G,λm u=>zb o (Q m u)⟩
   ·obtain⟨m,u⟩:∃m,i-p=m+1:=⟨i-p-1,by lia⟩;rw[u,ab4,aq5]at s;exact w _ s (by rw[wU o,if_neg c,if_neg f];congr 1;lia)
variable{mask:Nat}{h:Int}
abbrev Ow:=Array (Option Nat)
def ocO(ow:Ow)(j:Nat):Prop:=ow.getD j (some 0)≠none
theorem yW{ow:Ow}(hs:ow.size=mask+1){M:Nat}(o:ow.getD (rs mask h M).1 (some 0)=none):∀F m n,m<=M->M-m<F->pth mask h n=atR mask (rs mask h m)->(∀l,l<n->ocO ow (pth mask h l).j) ->
  ∃j,layClean.free mask ow F (rs mask h m).1 (rs mask h m).2=some (pth mask h j).j/\ow.getD (pth mask h j).j (some 0)=none/\∀l,l<j->ocO ow (pth mask h l).j
 |0,m,n,w,B,_,_=>by lia
 |F+1,m,n,w,B,e,u=>by
  have lt:=GQ (mask:=mask) (h:=h) m;have len:runEnd mask (rs mask h m).1+1-(rs mask h m).1=runEnd mask (rs mask h m).1-(rs mask h m).1+1:=by
   have:(rs mask h m).1<=runEnd mask (rs mask h m).1:=by unfold runEnd;split<;>lia
   lia
  have i:∀q,q<=runEnd mask (rs mask h m).1-(rs mask h m).1->(pth mask h (n+q)).j=(rs mask h m).1+q:=λq g=>by rw[vc e q g]
  unfold layClean.free;rw[len];cases c:(Q0 (runEnd mask (rs mask h m).1-(rs mask h m).1+1)).find? λk=>(ow.getD ((rs mask h m).1+k) (some 0)).isNone with
  |some k =>
   dsimp only;have E:=R0.mp (List.mem_of_find?_eq_some c);have C:=List.find?_some c;refine⟨n+k,by rw[i k (by lia)],by rw[i k (by lia)];simpa using C,λl A=>?_⟩;rcases U6 l n with a|a
   ·exact u l a
   ·obtain⟨q,rfl⟩:∃q,l=n+q:=⟨l-n,by lia⟩;unfold ocO;rw[i q (by lia)];intro z;obtain⟨p,bs,s,x⟩:=(List.find?_eq_some_iff_append.mp c).2;have:q∈p:=by
     have g:q∈Q0 (runEnd mask (rs mask h m).1-(rs mask h m).1+1):=R0.mpr (by lia);have f:(p++k::bs).Pairwise (·<·):=by rw[<-s];exact am4
     rw[s]at g;rcases P0.mp g with r|r
     ·exact r
     ·rw[List.pairwise_append]at f;rcases O9.mp r with r|r
      ·lia
      ·have:=(aq6.mp f.2.1).1 q r;lia
    have:=x q this;rw[z]at this;simp at this
  |none =>
   dsimp only;have all:=List.find?_eq_none.mp c;have G:m≠M:=λz=>by
    subst z;have:=all 0 (R0.mpr (by lia));rw[ax5,o]at this;simp at this
   show ∃j,layClean.free mask ow F (rs mask h (m+1)).1 (rs mask h (m+1)).2=_/\_;refine yW hs o F (m+1) (n+(runEnd mask (rs mask h m).1-(rs mask h m).1)+1) (by lia) (by lia) ?_ λl A=>?_
   ·show pA mask (pth mask h (n+_))=_;rw[vc e _ (N2 _)];unfold pA;rw[if_neg (by simp)];rfl
   ·rcases U6 l n with a|a
    ·exact u l a
    ·obtain⟨q,rfl⟩:∃q,l=n+q:=⟨l-n,by lia⟩;unfold ocO;rw[i q (by lia)];intro z;have:=all q (R0.mpr (by lia));rw[z]at this;simp at this
noncomputable def lv(mask:Nat)(ow:Ow):List (Nat×Nat):=(Q0 (mask+1)).filterMap λj=>(ow.getD j none).map (j,·)
theorem yE{ow:Ow}{j:Nat}(c:j<ow.size)(a b:Option Nat):ow.getD j a=ow.getD j b:=by simp[ac6,c]
theorem Hs{ow:Ow}(hs:ow.size=mask+1){s k:Nat}(a:s<=mask)(hn:ow.getD s none=none):(lv mask (ow.setIfInBounds s (some k))).Perm ((s,k)::lv mask ow):=by
 unfold lv;have c:Q0 (mask+1)=Q0 s++s::(List.range' (s+1) (mask-s)):=by
  rw[List.range_eq_range',List.range_eq_range',show mask+1=s+(1+(mask-s))by lia,<-List.range'_append_1,<-List.range'_append_1];simp[Nat.add_comm]
 have same:∀l:List Nat,s∉l->(l.filterMap λj=>((ow.setIfInBounds s (some k)).getD j none).map (j,·))=l.filterMap λj=>(ow.getD j none).map (j,·):=λl a=>by
  induction l with
  |nil=>rfl
  |cons j l ih =>
   have this:s≠j:=λz=>a (z▸.head _);rw[W9,W9,ih λz=>a (.tail _ z)];simp only[X8,ag3,if_neg this]
 rw[c,List.filterMap_append,List.filterMap_append,W9,W9,hn,same _ (by simp),same _ (λz=>by obtain⟨x,_,z⟩:=List.mem_range'.mp z;lia)];have:(ow.setIfInBounds s (some k)).getD s none=some k:=by simp[X8,show s<ow.size by lia]
 rw[this];simp only[ah3,Option.map_none];exact al7
structure LC(mask:Nat) (hs:List Int) (ow:Ow) (k:Nat):Prop where
 sz:ow.size=mask+1
 perm:((lv mask ow).map (·.2)).Perm (Q0 k)
 pr:∀j i h,ow.getD j none=some i->hs[i]?=some h->∃n,(pth mask h n).j=j/\∀m,m<n->ocO ow (pth mask h m).j
theorem Iy{ow:Ow}(hs:ow.size=mask+1){j i:Nat}(e:ow.getD j none=some i):(j,i)∈lv mask ow:=by
 have a:j<ow.size:=by
  rcases U6 j ow.size with q|q
  ·exact q
  ·simp[ac6,show ¬ j<ow.size by lia]at e
 exact ai2.mpr ⟨j,R0.mpr (by lia),by rw[e];rfl⟩
theorem ED{ow:Ow}(hs:ow.size=mask+1)(a:(lv mask ow).length<=mask):∃j,j<=mask/\ow.getD j none=none:=by
 refine X0 λc=>?_;have all:∀j∈Q0 (mask+1),∃i,ow.getD j none=some i:=λj g=>by
  cases q:ow.getD j none with
  |none=>exact absurd ⟨j,by have:=R0.mp g;lia,q⟩ c
  |some i=>exact⟨i,rfl⟩
 have:∀l:List Nat,(∀j∈l,∃i,ow.getD j none=some i)->(l.filterMap λj=>(ow.getD j none).map (j,·)).length=l.length:=λl=>by
  induction l with
  |nil=>exact λ_=>rfl
  |cons j l ih =>
   intro f;obtain⟨i,e⟩:=f j (.head _);rw[W9,e];simp only[ah3,O2];rw[ih λx h=>f x (.tail _ h)]
 have q:=this _ all;rw[Z5]at q;unfold lv at a
 lia
noncomputable abbrev lcF(mask:Nat)(a:Option (Ow×Nat))(h:Int):Option (Ow×Nat):=do
 let(owner,k) <-a
 let j <-layClean.free mask owner (turns mask) (bits h % (mask+1)) (bits h)
 al5 (owner.setIfInBounds j (some k),k+1)
theorem Gh{e:Nat}(I:mask+1=2 ^ e){hs:List Int}(C:hs.length<=mask):∀(f done:List Int) (ow:Ow),hs=done++f->LC mask hs ow done.length->∃u,f.foldl (lcF mask) (some (ow,done.length))=some (u,hs.length)/\LC mask hs u hs.length
 |[],done,ow,p,L=>⟨ow,by rw[p];simp,by rw[p];simpa[p]using L⟩
 |h::f,done,ow,p,L=>by
  have T:(lv mask ow).length=done.length:=by have:=L.perm.length_eq;simpa using this
  have lt:done.length<hs.length:=by rw[p];simp
  obtain⟨j,s,N⟩:=ED L.sz (by lia);obtain⟨m,_,A,_,J,_⟩:=zH (mask:=mask) (h:=h) I s;obtain⟨x,P,R,Q⟩:=yW (mask:=mask) (h:=h) (ow:=ow) L.sz (M:=m) (by rw[J,yE (by rw[L.sz];lia) (some 0) none];exact N) (turns mask) 0 0 (O3 _) (by unfold turns;lia) rfl (λl S=>by lia);have O:=xF (mask:=mask) (h:=h) x;have st:lcF mask (some (ow,done.length)) h=some (ow.setIfInBounds (pth mask h x).j (some done.length),done.length+1):=by
   show(layClean.free mask ow (turns mask) (bits h % (mask+1)) (bits h) >>= λj=>al5 (ow.setIfInBounds j (some done.length),done.length+1))=_;have:layClean.free mask ow (turns mask) (bits h % (mask+1)) (bits h)=some (pth mask h x).j:=P;rw[this];rfl
  rw[aa6,st];generalize E:(pth mask h x).j=o at *
  have G:ow.getD o none=none:=by rw[<-R];exact yE (by rw[L.sz];lia) _ _
  have w:∀j,ocO ow j->ocO (ow.setIfInBounds o (some done.length)) j:=λj s z=>by
   unfold ocO at s;simp only[X8,ag3]at z s
   split at z
   ·split at z<;>simp at z
   ·exact s z
  have:=Gh I C f (done++[h]) (ow.setIfInBounds o (some done.length)) (by rw[p];simp) ⟨by rw[Array.size_setIfInBounds];exact L.sz,?_,?_⟩
  ·rw[O6,af3]at this;exact this
  ·rw[O6,af3,aq0];refine((Hs L.sz O G).map _).trans ?_;rw[N5];exact(av6.cons _ L.perm).trans (List.perm_append_singleton _ _).symm
  ·intro j i g q H
   by_cases c:o=j
   ·have:i=done.length:=by
     simp only[X8,ag3,if_pos c]at q
     split at q
     ·simpa using q.symm
     ·simp at q
    subst this;have:g=h:=by rw[p,ad9 (N2 _),ax7,al0]at H;exact(T4 H).symm
    subst this;exact⟨x,by rw[E];exact c,λm A=>w _ (Q m A)⟩
   ·have B:ow.getD j none=some i:=by
     simp only[X8,ag3,if_neg c]at q ⊢;exact q
    obtain⟨n,a,b⟩:=L.pr j i g B H;exact⟨n,a,λm A=>w _ (b m A)⟩
theorem wV(n:Nat):∀F k,n<2 ^ (k+F)->∃e,k<=e/\sizeAbove.go n F (2 ^ k)=2 ^ e/\n<2 ^ e/\(e=k∨2 ^ e<=2*n)
 |0,k,h=>⟨k,N2 _,rfl,h,.inl rfl⟩
 |F+1,k,h=>by
  unfold sizeAbove.go
  by_cases c:2 ^ k<=n
  ·rw[if_pos c,show 2 ^ k*2=2 ^ (k+1)from(ai6 ..).symm];obtain⟨e,i,g,f,a⟩:=wV n F (k+1) (by rw[show k+1+F=k+(F+1)by lia];exact h);refine⟨e,by exact T8 (by assumption),g,f,.inr ?_⟩;rcases a with a|a
   ·rw[a,ai6];lia
   ·exact a
  ·rw[if_neg c];exact⟨k,N2 _,rfl,by lia,.inl rfl⟩
theorem vL{n:Nat}(h:n<2 ^ 60):∃e,3<=e/\sizeAbove n=2 ^ e/\n<2 ^ e/\(2 ^ e<=8∨2 ^ e<=2*n):=by
 obtain⟨e,c,g,a,f⟩:=wV n 64 3 (Nat.lt_trans h (by decide));exact⟨e,c,g,a,f.imp (λz=>by rw[z];decide) id⟩
variable{mask:Nat}
theorem JH(ow:Ow):((lv mask ow).map (·.1)).Pairwise (·<·):=by
 unfold lv;rw[List.map_filterMap,List.pairwise_filterMap];refine am4.imp λ{a b} f x c y e=>?_;cases g:ow.getD a none with
 |none=>rw[g]at c;cases c
 |some i =>
  cases h:ow.getD b none with
  |none=>rw[h]at e;cases e
  |some k =>
   rw[g]at c;rw[h]at e;cases c;cases e;exact f
theorem GS{ow:Ow}{j i:Nat}(h:(j,i)∈lv mask ow):j<=mask/\ow.getD j none=some i:=by
 obtain⟨a,c,e⟩:=ai2.mp h;have:=R0.mp c;cases q:ow.getD a none with
 |none=>rw[q]at e;cases e
 |some k=>rw[q]at e;cases e;exact⟨by lia,q⟩
theorem Fm{t:R1}{hs:List Int}{wanted:Nat}(R:hs.length<=wanted)(I:wanted<2 ^ 60)(T:0<wanted):∃t' o,t.relaid hs.toArray wanted=some (t',o)/\t'.led=t.led/\t'.plain=t.plain/\t'.mask+1=sizeAbove wanted/\o.toList.Perm (Q0 hs.length)/\t'.place.size=hs.length/\TB t' (o.toList.map λk=>hs.getD k 0):=by
 obtain⟨e,N,S,el,_⟩:=vL I;have P:0<2 ^ e:=Nat.two_pow_pos e;generalize B:sizeAbove wanted-1=mask;have G:mask+1=2 ^ e:=by lia
 have J:LC mask hs (au6 (mask+1) none) 0:=by
  have z:∀j,(au6 (mask+1) (none:Option Nat)).getD j none=none:=λj=>by
   rw[X8,Array.getElem?_replicate];split<;>rfl
  refine⟨by simp,?_,λj i h q _=>by rw[z]at q;cases q⟩;have:lv mask (au6 (mask+1) none)=[]:=by
   unfold lv;rw[List.filterMap_eq_nil_iff];intro j _;rw[z];rfl
  rw[this];exact .refl _
 obtain⟨g,f,L⟩:=Gh G (hs:=hs) (by lia) hs [] _ rfl J;have x:layClean mask hs.toArray=some g:=by
  unfold layClean;rw[<-Array.foldl_toList];show(hs.foldl (lcF mask) (some (au6 (mask+1) none,0))).map (·.1)=_;rw[show(0:Nat)=([]:List Int).length from rfl,f];rfl
 have M:t.relaid hs.toArray wanted=some ({ mask,place:=((lv mask g).map (·.1)).toArray,dummies:=#[],finger:=t.finger,led:=t.led,moves:=t.movedTo mask,plain:=t.plain },((lv mask g).map (·.2)).toArray):=by
  unfold relaid laid;rw[B,x];rfl
 have H:(lv mask g).length=hs.length:=by have:=L.perm.length_eq;simpa using this
 have u:∀i,((lv mask g).map (·.1)).toArray.getD i 0=((lv mask g)[i]?.map (·.1)).getD 0:=λi=>by rw[kj];simp
 have p:((lv mask g).map (·.1)).toArray.size=hs.length:=by simp[H]
 have C:∀j,j<=mask->ocO g j->Occ ((lv mask g).map (·.1)).toArray j:=λj E q=>by
  cases c:g.getD j none with
  |none=>exact absurd (by rw[yE (by rw[L.sz];lia) (some 0) none];exact c) q
  |some i =>
   obtain⟨l,x⟩:=af4.mp (Iy L.sz c);exact⟨l,by rw[p,<-H];exact(N4.mp x).1,by rw[u,x];rfl⟩
 refine⟨_,_,M,rfl,rfl,by show mask+1=_;lia,by simpa using L.perm,p,⟨by simp,?_,?_,rfl,⟨e,N,G⟩,by show((lv mask g).map (·.1)).toArray.size<=mask;lia,?_⟩⟩
 ·intro i j A E;rw[p]at E;have:=ae8.mp (JH (mask:=mask) g) i j (by simp;lia) (by simp;lia) A;show((lv mask g).map (·.1)).toArray.getD i 0<((lv mask g).map (·.1)).toArray.getD j 0;rw[u,u,N0 (by lia),N0 (by lia)];simpa using this
 ·intro i s;rw[p]at s;show((lv mask g).map (·.1)).toArray.getD i 0<=mask;rw[u,N0 (by lia)];exact(GS (V0 (by lia))).1
 ·intro i h s;show ∃n,(pth mask h n).j=((lv mask g).map (·.1)).toArray.getD i 0/\∀m,m<n->Occ ((lv mask g).map (·.1)).toArray (pth mask h m).j;simp only[Q6]at s;cases c:(lv mask g)[i]? with
  |none=>rw[c]at s;cases s
  |some Q =>
   obtain⟨j,k⟩:=Q;rw[c]at s;have mem:=P3 c;have w:k<hs.length:=R0.mp (L.perm.mem_iff.mp (P4.mpr ⟨_,mem,rfl⟩));have O:hs[k]?=some h:=by
    have:hs.getD k 0=h:=by simpa using s
    rw[N0 w,<-this];simp[w]
   obtain⟨n,a,b⟩:=L.pr j k h (GS mem).2 O;exact⟨n,by rw[u,c];exact a,λm B=>C _ (xF m) (b m B)⟩
end L2
namespace L2
open PySem PySem.SetTable PySem.SeqAt
structure TK(prog:Q7) (w:U9) (G:Type) where
 is:Q9->G->M0->Prop
 hash:G->Int
 room:S0->Prop
 pyHash:∀{A:S0} {E:M0->N1->Prop} {s:N1} {x:G} {v:M0} {Q:Int->N1->Prop},room A->is s.heap x v->(∀t,s.toks<=t->Q (hash x) { s with toks:=t })->P6 (R4 prog w) A (PySem.pyHash v) Q E s
 eqB:∀{A:S0} {s:N1} {x y:G} {v u:M0},room A->is s.heap x v->is s.heap y u->∃b:Bool,(b=true↔x=y)/\EqAt A s v u b
 quiet:∀{A:S0} {E:M0->N1->Prop} {s:N1} {x:G} {v:M0} {Q:Bool->N1->Prop},room A->is s.heap x v->Q true s->P6 (R4 prog w) A (eqIsQuiet 8 v) Q E s
 noCls:∀{A:S0} {E:M0->N1->Prop} {s:N1} {x:G} {v:M0} {Q:Bool->N1->Prop},room A->is s.heap x v->Q false s->P6 (R4 prog w) A (ofAClassStatement 8 v) Q E s
 byV:∀{A:S0} {E:M0->N1->Prop} {s:N1} {x:G} {v:M0} {Q:Bool->N1->Prop},room A->is s.heap x v->(∀b,Q b s)->P6 (R4 prog w) A (hashByValue 8 v) Q E s
 ref:∀{h:Q9} {x:G} {v:M0},is h x v->∃a,v=.ref a
variable{prog:Q7}{w:U9}{G:Type}{κ:TK prog w G}{A:S0}{E:M0->N1->Prop}{s:N1}
structure Els(κ:TK prog w G) (h:Q9) (es:Array (Int×M0)) (zs:List G):Prop where
 len:es.size=zs.length
 at_:∀(i:Nat) z,zs[i]?=some z->∃v,es[i]?=some (κ.hash z,v)/\κ.is h z v
noncomputable def eU(es:Array (Int×M0)):List Int:=es.toList.map (·.1)
theorem Els.of{h:Q9}{es:Array (Int×M0)}{a:List G}(L:Els κ h es a){i:Nat}{e:Int×M0}(g:es[i]?=some e):∃z,a[i]?=some z/\e.1=κ.hash z/\κ.is h z e.2:=by
 have c:i<a.length:=by rw[<-L.len];exact(ah6.mp g).1
 obtain⟨v,f,q⟩:=L.at_ i a[i] (N0 c);rw[g]at f;cases f;exact⟨_,N0 c,rfl,q⟩
theorem Lf{x:G}{v:M0}(hr:κ.room A)(m:κ.is s.heap x v){Q:Bool->N1->Prop}(h:Q false s):∀(l:List M0),(∀u∈l,∃y,κ.is s.heap y u)->P6 (R4 prog w) A (searchCouldBeSeen v l) Q E s:=by
 intro l n;unfold searchCouldBeSeen;refine o0 ?_;refine ao9 _ (λe b i=>i=s/\b=(none,())/\∀u∈e,∃y,κ.is s.heap y u) _ ?_ ?_ _ _ ⟨rfl,rfl,n⟩
 ·rintro u e b i ⟨rfl,rfl,g⟩;obtain⟨y,j⟩:=g u (.head _);obtain⟨a,rfl⟩:=κ.ref m;obtain⟨c,rfl⟩:=κ.ref j;have f:∀u∈e,∃y,κ.is i.heap y u:=λu o=>g u (.tail _ o);dsimp only
  split
  ·exact M9 ⟨rfl,rfl,f⟩
  ·refine o0 (κ.quiet hr m ?_);simp only[al1,N9,if_false];refine o0 (κ.quiet hr j ?_);simp only[al1,N9,if_false];refine o0 (κ.noCls hr m ?_);simp only[N9,if_false];refine o0 (κ.noCls hr j ?_);simp only[N9,if_false];exact M9 ⟨rfl,rfl,f⟩
 ·rintro b i ⟨rfl,rfl,_⟩;exact M9 h
theorem Hx{a:O1}{o:Obj}{es:Array (Int×M0)}{ep:Nat}{t:R1}{B:List G}{x:G}{v:M0}{n0:Nat}(hr:κ.room A)(hx:κ.is s.heap x v)(ho:s.heap.get? a=some o)(hd:o.data=.set es ep t)(L:Els κ s.heap es B)(T:TB t (eU es))
  (f0:¬ Occ t.place (pth t.mask (κ.hash x) n0).j) (f1:∀m,m<n0->Occ t.place (pth t.mask (κ.hash x) m).j) {Q:SetFound->N1->Prop} (hy:x∈B->∀i,Q (.there i) s) (hn:x∉B->Q (.free (pth t.mask (κ.hash x) n0).j false) s) :
  ∀F n h,h.getD (t.probeStart (κ.hash x))=pth t.mask (κ.hash x) n->n<=n0->n0-n<F->n0<10*turns t.mask->(∀l,l<n->∀i,i<t.place.size->t.place.getD i 0=(pth t.mask (κ.hash x) l).j->B[i]?≠some x)->P6 (R4 prog w) A (aw5 a v (κ.hash x) true F h) Q E s:=by
 have j:(eU es).length=es.size:=by simp[eU]
 have fit:t.fits es.size=true:=by
  unfold R1.fits fill;rw[T.dm,T.sz,j];have:=T.few;rw[T.sz,j]at this;simpa using this
 have gw:t.gaveWay=false:=by
  obtain⟨k,k3,R⟩:=T.pw;unfold gaveWay;obtain⟨m,rfl⟩:∃m,k=m+1:=⟨k-1,by lia⟩;rw[ai6]at R;have:t.mask % 2=1:=by lia
  rw[this];rfl
 have I:∀{i k},i<t.place.size->k<t.place.size->t.place.getD i 0=t.place.getD k 0->i=k:=λ{i k} J R e=>by
  rcases ar9 i k with q|q|q
  ·have:=T.up i k q R;lia
  ·exact q
  ·have:=T.up k i q J;lia
 intro F
 induction F with
 |zero=>intro n h _ _ h3;lia
 |succ F ih =>
  intro n h e h2 h3 h4 h5;unfold aw5;refine o0 (ag8 ho hd fit ?_);dsimp only;rw[gw];simp only[N9,if_false];unfold R1.probe;rw[e];obtain⟨C,O⟩:∃C:Nat->Int,C=λi=>(es[i]?.map (·.1)).getD 0:=⟨_,rfl⟩;obtain⟨m,m1,m2,m3,m4⟩:=wA T f0 f1 (ha:=C) (10*turns t.mask) n h2 (by lia);have a4:∀(i:Nat) z,B[i]?=some z->C i=κ.hash z:=λi z P=>by
   obtain⟨u,g,_⟩:=L.at_ i z P;rw[O];simp[g]
  have skip:∀l,l<m->∀i,i<t.place.size->t.place.getD i 0=(pth t.mask (κ.hash x) l).j->B[i]?≠some x:=λl hl i J X P=>by
   rcases U6 l n with q|q
   ·exact h5 l q i J X P
   ·obtain⟨k,Y,k2,k3⟩:=m3 l q hl;obtain rfl:=I J Y (X.trans k2.symm);exact k3 (a4 _ _ P)
  rcases m4 with⟨rfl,em⟩|⟨a3,i,i1,i2,i3,em⟩
  ·have N:∀f:Nat->Int,f=C->probe.go t f (κ.hash x) (10*turns t.mask) (pth t.mask (κ.hash x) n)=probe.go t C (κ.hash x) (10*turns t.mask) (pth t.mask (κ.hash x) n):=λf hf=>by rw[hf]
   rw[N _ ?_,em]
   rotate_left
   ·rw[O];rfl
   dsimp only;refine M9 (hn λP=>?_);obtain⟨i,J⟩:=af4.mp P;have S:i<t.place.size:=by rw[T.sz,j,L.len];exact(N4.mp J).1
   obtain⟨u,g,_⟩:=L.at_ i x J;obtain⟨nn,a1,a2⟩:=T.pr i (κ.hash x) (by rw[eU,Q6,W7,g];rfl);have lt:nn<m:=by
    rcases ar9 nn m with q|q|q
    ·exact q
    ·subst q;exact absurd ⟨i,S,a1.symm⟩ f0
    ·exact absurd (a2 m q) f0
   exact skip nn lt i S a1.symm J
  ·have N:∀f:Nat->Int,f=C->probe.go t f (κ.hash x) (10*turns t.mask) (pth t.mask (κ.hash x) n)=probe.go t C (κ.hash x) (10*turns t.mask) (pth t.mask (κ.hash x) n):=λf hf=>by rw[hf]
   rw[N _ ?_,em]
   rotate_left
   ·rw[O];rfl
   dsimp only;have iz:i<B.length:=by rw[<-L.len,<-j,<-T.sz];exact i1
   obtain⟨u,gu,Z⟩:=L.at_ i B[i] (N0 iz);have H:P6 (R4 prog w) A (do
     let some (_,y):=es[i]?|aw1 "internal:set-entry"
     let p <-at7 [y] (eqBool y v)
     let(es',_,t') <-setState a
     if true&&p then return .there none
     let some same:=t'.sameMemory t.moves t.mask|aw1 "set.changed-during-lookup:is-the-new-block-at-the-old-address"
     let M <-match (if same then t'.slot (pth t.mask (κ.hash x) m).j else .empty)with
      |.live U=>match es'[U]? with
       |some (_,y')=>do al5 (if <-isSame y' y then some U else none)
       |none=>al5 none
      |_=>al5 none
     match M with
     |none=>rule "set.search.anew";aw5 a v (κ.hash x) true F none
     |some U=>if p then return .there (some U)else aw5 a v (κ.hash x) true F (some (pth t.mask (κ.hash x) (m+1)))) Q E s:=by
    rw[gu];dsimp only;obtain⟨b,hb,eq⟩:=κ.eqB hr Z hx;refine o0 (W5 (eq prog w _ _ ?_));refine o0 (ag8 ho hd fit ?_);dsimp only;cases b with
    |true =>
     have:B[i]=x:=hb.mp rfl;exact M9 (hy (this▸V0 iz) _)
    |false =>
     have ne:B[i]≠x:=λz=>by have:=hb.mpr z;cases this
     simp only[Bool.and_false,N9,if_false];rw[show t.sameMemory t.moves t.mask=some true by simp[sameMemory]];dsimp only;rw[tF T.up i1 i2];simp only[if_true];rw[gu];dsimp only;obtain⟨c,rfl⟩:=κ.ref Z;refine o0 (wpAny_isSame_ref_self (o0 (M9 ?_)));simp only[if_true];refine ih (m+1) _ rfl a3 (by lia) h4 λl hl k Y k2=>?_;rcases U6 l m with q|q
     ·exact skip l q k Y k2
     ·obtain rfl:l=m:=by lia
      obtain rfl:=I Y i1 (k2.trans i2.symm);rw[N0 iz];intro z;exact ne (T4 z)
   by_cases led:t.led=true
   ·rw[led];simp only[al1,N9,if_false];exact H
   ·rw[show t.led=false by simpa using led];simp only[ao7,if_true];refine o0 (Lf hr hx ?_ _ λu Z=>?_)
    ·simp only[N9,if_false];exact H
    ·obtain⟨e,X,rfl⟩:=P4.mp Z;have a0:e∈es:=(Array.mem_filter.mp (Array.mem_def.mpr X)).1;obtain⟨k,R,ek⟩:=Array.mem_iff_getElem.mp a0;obtain⟨z,_,_,q⟩:=L.of (i:=k) (e:=e) (by rw[R9 R,ek]);exact⟨z,q⟩
variable{prog:Q7}{w:U9}{G:Type}{κ:TK prog w G}{A:S0}{E:M0->N1->Prop}{s:N1}
structure Mi(κ:TK prog w G) (h:Q9) (a:O1) (o:Obj) (es:Array (Int×M0)) (ep:Nat) (t:R1) (zs:List G):Prop where
 get:h.get? a=some o
 ex:o.ExactSet
 data:o.data=.set es ep t
 el:Els κ h es zs
 nd:zs.Nodup
 tb:TB t (eU es)
 led:t.led=!w.params.followText "set-order"
 roomy:es.size*5<t.mask*3
 small:t.mask<=7∨t.mask<=8*es.size
def nE(κ:TK prog w G)(h:Q9)(a:O1)(xs:List G):Prop:=∃o e f t c,Mi κ h a o e f t c/\c.Perm xs
theorem Els.keep{h h':Q9}{es:Array (Int×M0)}{a:List G}(L:Els κ h es a)(k:∀z v,κ.is h z v->κ.is h' z v):Els κ h' es a:=⟨L.len,λi z c=>by obtain⟨v,g,q⟩:=L.at_ i z c;exact⟨v,g,k z v q⟩⟩
theorem nE.mono{h h':Q9}{a:O1}{xs:List G}(S:nE κ h a xs)(k:∀o,h.get? a=some o->h'.get? a=some o)(g:∀z v,κ.is h z v->κ.is h' z v):nE κ h' a xs:=by
 obtain⟨o,e,c,t,f,q,p⟩:=S;exact⟨o,e,c,t,f,⟨k _ q.get,q.ex,q.data,q.el.keep g,q.nd,q.tb,q.led,q.roomy,q.small⟩,p⟩
theorem zS{h:Q9}{es:Array (Int×M0)}{e:List G}{x:G}{v:M0}{p:Nat}(L:Els κ h es e)(l:κ.is h x v)(n:p<=e.length):Els κ h (insertAt es p (κ.hash x,v)) (e.take p++x::e.drop p):=by
 have lt:(es.toList.take p).length=p:=by rw[S2,O8,L.len];lia
 have f:(e.take p).length=p:=by rw[S2];lia
 refine⟨by rw[jM _ _ _ (by rw[L.len];exact n),O6,O2,f,al6,L.len];lia,λi z a=>?_⟩;have o:(insertAt es p (κ.hash x,v))[i]?=(es.toList.take p++(κ.hash x,v)::es.toList.drop p)[i]?:=by rw[<-mW,W7]
 rw[o];rw[ao3,f]at a;rw[ao3,lt]
 by_cases c:i<p
 ·rw[if_pos c,ag0 c]at a;rw[if_pos c,ag0 c,W7];exact L.at_ i z a
 ·rw[if_neg c]at a ⊢
  by_cases j:i=p
  ·rw[j,ax7,al0]at a ⊢;cases a;exact⟨v,rfl,l⟩
  ·obtain⟨m,g⟩:∃m,i-p=m+1:=⟨i-p-1,by lia⟩;rw[g,ab4,aq5]at a ⊢;rw[W7];exact L.at_ _ z a
theorem TB.plain{t:R1}{hs:List Int}(T:TB t hs)(b:Bool):TB { t with plain:=b } hs:=⟨T.sz,T.up,T.le,T.dm,T.pw,T.few,T.pr⟩
theorem TB.fit{t:R1}{es:Array (Int×M0)}(T:TB t (eU es)):t.fits es.size=true:=by
 have a:(eU es).length=es.size:=by simp[eU]
 unfold R1.fits fill;rw[T.dm,T.sz,a];have:=T.few;rw[T.sz,a]at this;simpa using this
theorem z6{h:Q9}{a:O1}{o:Obj}{es:Array (Int×M0)}{ep:Nat}{t:R1}(f:h.get? a=some o)(e:o.data=.set es ep t)(c:Array (Int×M0))(t':R1):
  (h.update a (ap4 c t')).get? a=some { o with data:=.set c (ep+1) t' }:=by
 have:=W6 (ap4 c t') f (by rw[aA7 c t' e];rfl);rw[aA7 c t' e]at this;exact this
theorem xu{es:Array (Int×M0)}:∀{l:List Nat},(∀k∈l,k<es.size)->(l.filterMap λk=>es[k]?)=l.map λk=>es.getD k (0,.none)
 |[],_=>rfl
 |k::l,h=>by
  have a:=h k (.head _);rw[W9,R9 a,N5,xu λj c=>h j (.tail _ c)];simp[ac6,a]
theorem vj{l:List G}{k:Nat}(h:k<l.length)(d:G):l[k]?=some (l.getD k d):=by rw[S5,N0 h];rfl
theorem qj(l:List G)(d:G):(Q0 l.length).map (λk=>l.getD k d)=l:=by
 refine an7 λi=>?_;rw[Q6];rcases U6 i l.length with q|q
 ·rw[ap0 q,vj q d];rfl
 ·rw[S9 (by rw[Z5];exact q),S9 q];rfl
theorem LY{a:O1}{xs:List G}{x:G}{v:M0}{Q:Bool->N1->Prop}(hr:κ.room A)(X:κ.is s.heap x v)(hS:nE κ s.heap a xs)(a8:xs.length<1000)(kp:∀h' z v,S4 a s.heap h'->κ.is s.heap z v->κ.is h' z v)
  (h:∀b h',S4 a s.heap h'->(x∈xs->nE κ h' a xs)->(x∉xs->nE κ h' a (xs++[x]))->Q b { s with heap:=h' }):P6 (R4 prog w) A (ax4 a v (κ.hash x)) Q E s:=by
 obtain⟨o,f,ep,t,m,q,Y⟩:=hS;have L:(eU f).length=f.size:=by simp[eU]
 have lz:f.size=xs.length:=by rw[q.el.len,Y.length_eq]
 obtain⟨n0,n1,f0,f1⟩:=q.tb.free (κ.hash x);have hm:t.mask<=8000:=by have:=q.small;lia
 obtain⟨r,rfl⟩:=κ.ref X;have a5:s={ s with heap:=s.heap }:=by cases s;rfl
 unfold ax4 setAddHashedIn;refine W5 (o0 (ag8 q.get q.data q.tb.fit ?_));dsimp only;rw[show byScan (.ref r) f=false by unfold byScan;rfl];simp only[N9,if_false];unfold setSearch;refine o0 (Hx hr X q.get q.data q.el q.tb f0 f1 (λP i=>?_) (λP=>?_) 100000 0 none rfl (O3 _) (by lia) (by unfold turns;lia) (λl hl=>by lia))
 ·refine M9 ?_;rw[a5];exact h _ s.heap (S4.refl a s.heap) (λ_=>⟨o,f,ep,t,m,q,Y⟩) λhn=>absurd (Y.mem_iff.mp P) hn
 ·have hn:x∉xs:=λz=>P (Y.mem_iff.mpr z);have fl:t.place.size+1<=t.mask:=by
   have:=q.roomy;have:=q.tb.sz;obtain⟨k,k3,M⟩:=q.tb.pw;have:2 ^ 3<=2 ^ k:=W3 (by decide) k3
   lia
  obtain⟨p,hp,e2,Z,l1,_,m1,z1⟩:=q.tb.put f0 f1 fl;rw[L]at hp;dsimp only;refine o0 (ag8 q.get q.data q.tb.fit ?_);dsimp only;generalize ht:t.put (pth t.mask (κ.hash x) n0).j=tp at *
  obtain⟨t1,j⟩:=tp;dsimp only at e2 Z l1 m1 z1 ⊢;subst e2;have pz:j<=m.length:=by rw[<-q.el.len];exact hp
  have a4:eU (insertAt f j (κ.hash x,.ref r))=(eU f).take j++κ.hash x::(eU f).drop j:=by unfold eU;rw[mW];simp[at6,aw6]
  have N:(insertAt f j (κ.hash x,.ref r)).size=f.size+1:=jM _ _ _ hp;have S:(m.take j++x::m.drop j).Nodup:=by
   rw[al7.nodup_iff,ac8,Z1];exact⟨P,q.nd⟩
  have R:(m.take j++x::m.drop j).Perm (xs++[x]):=by
   refine al7.trans ?_;rw[ac8];exact(av6.cons _ Y).trans (List.perm_append_singleton _ _).symm
  have go:∀B:R1,TB B (eU (insertAt f j (κ.hash x,.ref r)))->B.led=t.led->B.mask=t.mask->B.place.size=t.place.size+1->P6 (R4 prog w) A (do
     storeSet a (insertAt f j (κ.hash x,.ref r)) B
     if !false&&B.tooFull then setRelay a (grown (f.size+1))
     return true) Q E s:=by
   intro B T2 ld mk a6;refine o0 (ar7 q.get q.data ?_ (ak0 (by unfold ai5;lia)));have H:=z6 q.get q.data (insertAt f j (κ.hash x,.ref r)) B;have J:=U8 s.heap a (ap4 (insertAt f j (κ.hash x,.ref r)) B);generalize a9:s.heap.update a (ap4 (insertAt f j (κ.hash x,.ref r)) B)=h1 at *
   have C:Els κ h1 (insertAt f j (κ.hash x,.ref r)) (m.take j++x::m.drop j):=(zS q.el X pz).keep λz v P=>kp _ z v J P;have tf:B.tooFull=decide ((f.size+1)*5>=t.mask*3):=by
    unfold tooFull fill;rw[T2.dm,a6,q.tb.sz,L,mk];simp
   by_cases c:(f.size+1)*5>=t.mask*3
   ·rw[tf,decide_eq_true c];simp only[ao7,Bool.and_true,if_true];refine o0 ?_;unfold setRelay;refine o0 (ag8 (s:={ s with heap:=h1 }) H rfl T2.fit ?_);dsimp only;have gr:grown (f.size+1)=(f.size+1)*4:=by unfold grown;rw[if_neg (by lia)]
    rw[gr];obtain⟨e,e3,ee,el,eb⟩:=vL (n:=(f.size+1)*4) (by lia);obtain⟨t3,g,er,a3,_,T,O,sz3,T3⟩:=Fm (t:=B) (hs:=eU (insertAt f j (κ.hash x,.ref r))) (wanted:=(f.size+1)*4) (by simp only[eU,s0,O8];rw[N];lia) (by lia) (by lia);have ls:(eU (insertAt f j (κ.hash x,.ref r))).length=f.size+1:=by simp[eU,N]
    rw[ls]at O sz3;rw[if_neg (by rw[ee,O7];lia)];have ea:(insertAt f j (κ.hash x,.ref r)).map (·.1)=(eU (insertAt f j (κ.hash x,.ref r))).toArray:=by apply Array.toList_inj.mp;simp[eU]
    rw[ea,er];have inr:∀k∈g.toList,k<(insertAt f j (κ.hash x,.ref r)).size:=λk M=>by rw[N];exact R0.mp (O.mem_iff.mp M)
    have eo:(g.filterMap λk=>(insertAt f j (κ.hash x,.ref r))[k]?).toList=g.toList.map λk=>(insertAt f j (κ.hash x,.ref r)).getD k (0,.none):=by
     rw[Array.toList_filterMap,xu inr]
    generalize a1:(g.filterMap λk=>(insertAt f j (κ.hash x,.ref r))[k]?)=I at *
    have z2:I.size=f.size+1:=by rw[<-O8,eo,s0,O.length_eq,Z5]
    refine o0 ?_;show P6 _ _ (do
     let U:=g.filterMap λk=>(insertAt f j (κ.hash x,.ref r))[k]?
     if U.size != (insertAt f j (κ.hash x,.ref r)).size then aw1 "internal:set-table-lost-an-element"
     al5 (U,t3)) _ _ _
    dsimp only;rw[a1,if_neg (by rw[z2,N];simp)];refine M9 ?_;dsimp only;refine ar7 H rfl ?_ (ak0 (by unfold ai5;lia));have a2:=z6 (h:=h1) H rfl I t3;refine M9 (h _ _ (J.trans (U8 _ a _)) (λz=>absurd z hn) λ_=>⟨_,I,_,t3,g.toList.map λk=>(m.take j++x::m.drop j).getD k x,⟨a2,q.ex,rfl,?_,?_,?_,?_,?_,?_⟩,?_⟩)
    ·refine⟨by rw[z2,s0,O.length_eq,Z5],λi z u=>?_⟩;rw[Q6]at u;cases c2:g.toList[i]? with
     |none=>rw[c2]at u;cases u
     |some k =>
      rw[c2]at u;have M:=inr k (P3 c2);have a0:k<(m.take j++x::m.drop j).length:=by rw[<-C.len];exact M
      obtain⟨v2,g2,q2⟩:=C.at_ k z (by rw[vj a0 x];exact u);refine⟨v2,?_,kp _ z v2 (J.trans (U8 _ a _)) ?_⟩
      ·rw[<-W7,eo,Q6,c2];simp[X8,g2]
      ·obtain⟨v3,g3,q3⟩:=(zS q.el X pz).at_ k z (by rw[vj a0 x];exact u);rw[g2]at g3;cases g3;exact q3
    ·refine((O.map λk=>(m.take j++x::m.drop j).getD k x).nodup_iff).mpr ?_;rw[<-N,C.len,qj];exact S
    ·have:eU I=g.toList.map λk=>(eU (insertAt f j (κ.hash x,.ref r))).getD k 0:=by
      unfold eU;rw[eo,P9];refine R5 λk M=>?_;have M:=inr k M;simp[ac6,M,List.getD]
     rw[this];exact T3
    ·rw[a3,ld];exact q.led
    ·have:=T;rw[ee]at this;rw[z2];lia
    ·right;have:=T;rw[ee]at this;rw[z2];rcases eb with eb|eb<;>lia
    ·refine(O.map _).trans ?_;rw[<-N,C.len,qj];exact R
   ·rw[tf,decide_eq_false c];simp only[ao7,Bool.and_false,N9,if_false];refine M9 (h _ _ J (λz=>absurd z hn) λ_=>⟨_,_,_,B,_,⟨H,q.ex,rfl,C,S,T2,by rw[ld];exact q.led,by rw[N,mk];lia,?_⟩,R⟩);rw[mk,N];have:=q.small;lia
  rw[<-a4]at Z
  by_cases pl:t1.plain=true
  ·rw[if_pos pl];refine o0 (κ.byV hr X λb=>?_);cases b with
   |true=>simp only[if_true];exact go t1 Z l1 m1 z1
   |false=>simp only[N9,if_false];exact go _ (Z.plain false) l1 m1 z1
  ·rw[if_neg pl];refine o0 (M9 ?_);simp only[if_true];exact go t1 Z l1 m1 z1
end L2
namespace L2
open PySem PySem.Spec PyProof.Rows PySem.SeqAt
inductive KD where
 |int (i:Int)|str (x:Str)|tup (ks:List KD)
 deriving Inhabited
def KAt(h:Q9):Nat->KD->M0->Prop
 |_,.int i,v=>∃t,v=.int i t
 |_,.str x,v=>∃t,v=.str x t
 |0,.tup _,_=>False
 |n+1,.tup e,v=>∃(a:O1) (c:Array M0),v=.ref a/\aw8 h a c/\c.size=e.length/\∀(i:Nat) d u,e[i]?=some d->c[i]?=some u->KAt h n d u
noncomputable def hK(w:U9):Nat->KD->Int
 |_,.int i=>hashInt i
 |_,.str x=>hashStr w x
 |0,.tup _=>0
 |n+1,.tup a=>reduceHash (Z6 (a.map (hK w n)))
theorem za{h:Q9}{n:Nat}{i:Int}{v:M0}:KAt h n (.int i) v↔∃t,v=.int i t:=by cases n<;>exact .rfl
theorem zi{h:Q9}{n:Nat}{i:Str}{v:M0}:KAt h n (.str i) v↔∃t,v=.str i t:=by cases n<;>exact .rfl
theorem By{h h':Q9}{a:O1}{c:Array M0}(t:aw8 h a c)(k:∀o,o.cls=.type "tuple"->h.get? a=some o->h'.get? a=some o):aw8 h' a c :=
 let⟨o,g,e,f⟩:=t
 ⟨o,k _ e g,e,f⟩
theorem KAt.upT{h h':Q9}(k:∀b xs,aw8 h b xs->aw8 h' b xs):∀{n:Nat}{d:KD}{v:M0},KAt h n d v->KAt h' n d v:=by
 intro n
 induction n with
 |zero=>intro d v q;cases d<;>exact q
 |succ n ih =>
  intro d v q;cases d with
  |int _=>exact q
  |str _=>exact q
  |tup j =>
   obtain⟨a,c,e,t,z,r⟩:=q;exact⟨a,c,e,k a _ t,z,λi d u f g=>ih (r i d u f g)⟩
theorem KAt.up{h h':Q9}(k:∀b o,o.cls=.type "tuple"->h.get? b=some o->h'.get? b=some o){n:Nat}{d:KD}{v:M0}(q:KAt h n d v):KAt h' n d v:=q.upT λb a t=>By t (k b)
theorem KAt.same{h:Q9}:∀(n:Nat) {d e:KD}{v:M0},KAt h n d v->KAt h n e v->d=e:=by
 intro n
 induction n with
 |zero =>
  intro d e v h1 h2;cases d with
  |int i=>cases e with
   |int j=>obtain⟨_,rfl⟩:=h1;obtain⟨_,z⟩:=h2;cases z;rfl
   |str j=>obtain⟨_,rfl⟩:=h1;obtain⟨_,z⟩:=h2;cases z
   |tup _=>exact h2.elim
  |str i=>cases e with
   |int j=>obtain⟨_,rfl⟩:=h1;obtain⟨_,z⟩:=h2;cases z
   |str j=>obtain⟨_,rfl⟩:=h1;obtain⟨_,z⟩:=h2;cases z;rfl
   |tup _=>exact h2.elim
  |tup _=>exact h1.elim
 |succ n ih =>
  intro d e v h1 h2;cases d with
  |int i=>cases e with
   |int j=>obtain⟨_,rfl⟩:=h1;obtain⟨_,z⟩:=h2;cases z;rfl
   |str j=>obtain⟨_,rfl⟩:=h1;obtain⟨_,z⟩:=h2;cases z
   |tup _=>obtain⟨_,rfl⟩:=h1;obtain⟨_,_,z,_⟩:=h2;cases z
  |str i=>cases e with
   |int j=>obtain⟨_,rfl⟩:=h1;obtain⟨_,z⟩:=h2;cases z
   |str j=>obtain⟨_,rfl⟩:=h1;obtain⟨_,z⟩:=h2;cases z;rfl
   |tup _=>obtain⟨_,rfl⟩:=h1;obtain⟨_,_,z,_⟩:=h2;cases z
  |tup s=>cases e with
   |int j=>obtain⟨_,rfl⟩:=h2;obtain⟨_,_,z,_⟩:=h1;cases z
   |str j=>obtain⟨_,rfl⟩:=h2;obtain⟨_,_,z,_⟩:=h1;cases z
   |tup x =>
    obtain⟨G,g,E,⟨o,A,L,c,u⟩,z,r⟩:=h1;obtain⟨H,m,B,⟨I,a,w,M,f⟩,J,C⟩:=h2;subst E;cases B;rw[A]at a;cases a;rw[u]at f;cases f;congr 1;refine an7 λi=>?_;rcases U6 i s.length with q|q
    ·have p:i<x.length:=by lia
     rw[N0 q,N0 p];have l:i<g.size:=by lia
     exact congrArg some (ih (r i _ _ (N0 q) (R9 l)) (C i _ _ (N0 p) (R9 l)))
    ·rw[S9 q,S9 (by lia)]
noncomputable def drK:Nat->KD->Nat
 |_,.int _=>1
 |_,.str _=>1
 |0,.tup _=>0
 |n+1,.tup a=>(a.map (drK n)).sum+1
section
variable{prog:Q7}{w:U9}{A:S0}{E:M0->N1->Prop}{s:N1}
theorem KAt.eq:∀(n:Nat) {A:S0}{d e:KD}{v u:M0},A.units+n<af7->KAt s.heap n d v->KAt s.heap n e u->∃b:Bool,(b=true↔d=e)/\EqAt A s v u b:=by
 intro n
 induction n with
 |zero =>
  intro A d e v u hu q1 q2;cases d with
  |tup _=>exact q1.elim
  |int i=>obtain⟨t,rfl⟩:=q1;cases e with
   |tup _=>exact q2.elim
   |int j=>obtain⟨g,rfl⟩:=q2;exact⟨i==j,by simp,EqAt.int_int _ _ _ _⟩
   |str j=>obtain⟨g,rfl⟩:=q2;exact⟨false,by simp,EqAt.int_str _ _ _ _⟩
  |str i=>obtain⟨t,rfl⟩:=q1;cases e with
   |tup _=>exact q2.elim
   |int j=>obtain⟨g,rfl⟩:=q2;exact⟨false,by simp,EqAt.str_int _ _ _ _⟩
   |str j=>obtain⟨g,rfl⟩:=q2;exact⟨i==j,by simp,EqAt.str_str _ _ _ _⟩
 |succ n ih =>
  intro A d e v u hu q1 q2;cases d with
  |int i=>obtain⟨t,rfl⟩:=q1;cases e with
   |int j=>obtain⟨g,rfl⟩:=q2;exact⟨i==j,by simp,EqAt.int_int _ _ _ _⟩
   |str j=>obtain⟨g,rfl⟩:=q2;exact⟨false,by simp,EqAt.int_str _ _ _ _⟩
   |tup _=>obtain⟨a,c,rfl,t,_⟩:=q2;exact⟨false,by simp,EqAt.int_tuple _ _ t (by lia)⟩
  |str i=>obtain⟨t,rfl⟩:=q1;cases e with
   |int j=>obtain⟨g,rfl⟩:=q2;exact⟨false,by simp,EqAt.str_int _ _ _ _⟩
   |str j=>obtain⟨g,rfl⟩:=q2;exact⟨i==j,by simp,EqAt.str_str _ _ _ _⟩
   |tup _=>obtain⟨a,c,rfl,t,_⟩:=q2;exact⟨false,by simp,EqAt.str_tuple _ _ t (by lia)⟩
  |tup p =>
   obtain⟨a,c,rfl,o,L,J⟩:=id q1;cases e with
   |int j=>obtain⟨g,rfl⟩:=q2;exact⟨false,by simp,EqAt.tuple_int _ _ o (by lia)⟩
   |str j=>obtain⟨g,rfl⟩:=q2;exact⟨false,by simp,EqAt.tuple_str _ _ o (by lia)⟩
   |tup C =>
    obtain⟨b,f,rfl,E,M,I⟩:=id q2
    by_cases w:a=b
    ·subst w;exact⟨true,by simp[KAt.same (n+1) q1 q2],EqAt.same _⟩
    ·have item:∀j,∃b:Bool,∀(l:j<c.size) (m:j<f.size),(b=true↔p[j]?=C[j]?)/\EqAt A.in1 s c[j] f[j] b:=λj=>by
      by_cases l:j<c.size
      ·by_cases m:j<f.size
       ·obtain⟨b,G,B⟩:=ih (A:=A.in1) (show A.units+1+n<af7 by lia) (J j _ _ (N0 (by lia)) (R9 l)) (I j _ _ (N0 (by lia)) (R9 m));exact⟨b,λ_ _=>⟨by rw[N0 (by lia),N0 (by lia),G];simp,B⟩⟩
       ·exact⟨true,λ_ h=>absurd h m⟩
      ·exact⟨true,λh=>absurd h l⟩
     have H:=RcAt.tuples (A:=A) (s:=s) (e:=λj=>(item j).choose) o E (by lia) λj l m=>((item j).choose_spec l m).2;refine⟨_,?_,EqAt.of_refs w H⟩;rw[V2,Z3,beq_iff_eq];constructor
     ·rintro⟨l,m⟩;congr 1;refine an7 λi=>?_;rcases U6 i p.length with q|q
      ·exact((item i).choose_spec (by lia) (by lia)).1.mp (l i (R0.mpr (by lia)))
      ·rw[S9 q,S9 (by lia)]
     ·intro z;cases z;refine⟨λi x=>?_,by lia⟩;have x:=R0.mp x;exact((item i).choose_spec (by lia) (by lia)).1.mpr rfl
theorem KAt.hash:∀(n:Nat) {A:S0}{s:N1}{E:M0->N1->Prop}{d:KD}{v:M0}{Q:Int->N1->Prop},A.units+n<af7->KAt s.heap n d v->Q (hK w n d) { s with toks:=s.toks+drK n d }->P6 (R4 prog w) A (pyHash v) Q E s:=by
 intro n
 induction n with
 |zero =>
  intro A s E d v Q hu q h;cases d with
  |int i=>obtain⟨t,rfl⟩:=q;exact wpAny_pyHash_int h
  |str i=>obtain⟨t,rfl⟩:=q;exact wpAny_pyHash_str h
  |tup _=>exact q.elim
 |succ n ih =>
  intro A s E d v Q hu q h;cases d with
  |int i=>obtain⟨t,rfl⟩:=q;exact wpAny_pyHash_int h
  |str i=>obtain⟨t,rfl⟩:=q;exact wpAny_pyHash_str h
  |tup e =>
   obtain⟨a,f,rfl,M,z,r⟩:=q;obtain⟨o,I,L,c,J⟩:=M;have u:s.TypeIs (.ref a) "tuple":=⟨o,I,L⟩;have G:A.units<af7:=by lia
   unfold pyHash pyHashByItsType;refine o0 (wpAny_cRoomFor_or (.inr G) ?_);refine o0 (an1 u ao2.lookup ?_);show P6 _ _ (if(some (M0.builtin "tuple.__hash__")==some X1)=true then _ else _) Q E s;rw[if_neg (by rw[beq_builtin_none];exact V9)];refine o0 (an1 u ao2.lookup ?_);show P6 _ _ (callSpecialIfBoundUnlessNone? (.ref a) "__hash__" _ >>= _) Q E s;refine o0 (wpAny_callSpecialIfBoundUnlessNone?_slot u ao2 (U3 ao2 u F.entry_tuple_hash ?_ (F.args_tuple_hash_1 _)));show P6 _ _ (ah5 (.ref a) >>= _) _ _ s;refine o0 (wpAny_tupleItemsOf I J ?_);refine o0 ?_;rw[<-aq7];refine ao9 _ (λj (b:Array Int) C=>∃m,m<=e.length/\j=f.toList.drop m/\b.toList=(e.take m).map (hK w n)/\C={ s with toks:=s.toks+((e.take m).map (drK n)).sum }) _ ?_ ?_ _ _ ⟨0,O3 _,rfl,rfl,rfl⟩
   ·rintro x j b C ⟨m,N,l,B,rfl⟩;have lt:m<f.size:=by
     rcases U6 m f.size with q|q
     ·exact q
     ·rw[Z8 (by rw[O8];exact q)]at l;cases l
    rw[T5 (by rw[O8];exact lt)]at l;obtain⟨rfl,rfl⟩:=aq2.inj l;have H:e[m]?=some (e[m]'(by lia)):=N0 _;refine o0 (ih (show A.in1.units+n<af7 by show A.units+1+n<af7;lia) (r m _ _ H (by rw[R9 lt];simp)) ?_);refine M9 ⟨m+1,by lia,rfl,?_,?_⟩
    ·rw[ar8,B,S1,H,P7];rfl
    ·rw[S1,H,P7,aa7,<-aw4];simp
   ·rintro b C ⟨m,N,l,B,rfl⟩;have:m=e.length:=by
     rcases U6 m f.size with q|q
     ·rw[T5 (by rw[O8];exact q)]at l;cases l
     ·lia
    subst this;rw[S6]at B ⊢;show P6 _ _ (retInt (Z6 b.toList)) _ _ _;rw[B];refine wpAny_ret_mkInt ?_;show P6 _ _ (if(decide (-(2:Int) ^ 63<=Z6 (e.map (hK w n)))&&decide (Z6 (e.map (hK w n))<2 ^ 63))=true then _ else _) Q E _;have p:Q (reduceHash (Z6 (e.map (hK w n)))) { s with toks:=s.toks+((e.map (drK n)).sum+1) }:=h;rw[<-aw4]at p;unfold reduceHash at p
    by_cases g:(decide (-(2:Int) ^ 63<=Z6 (e.map (hK w n)))&&decide (Z6 (e.map (hK w n))<2 ^ 63))=true
    ·rw[if_pos g];rw[if_pos g]at p;exact M9 p
    ·rw[if_neg g];rw[if_neg g]at p;exact o0 (ap3 (M9 p))
end
section
variable{prog:Q7}{w:U9}{A:S0}{E:M0->N1->Prop}{s:N1}
theorem xN{a:O1}{e:Array M0}{Q:Option (Array M0)->N1->Prop}(t:aw8 s.heap a e)(h:Q (some e) s):P6 (R4 prog w) A (ax2 (.ref a)) Q E s:=by
 obtain⟨o,g,i,c,f⟩:=t;unfold ax2;refine o0 (az3 g ?_);rw[f];exact M9 h
theorem KAt.item{h:Q9}{n:Nat}{ks:List KD}{a:Array M0}(z:a.size=ks.length)(r:∀(i:Nat) d u,ks[i]?=some d->a[i]?=some u->KAt h n d u){x:M0}(e:x∈a.toList):∃k,KAt h n k x:=by
 obtain⟨i,c⟩:=af4.mp e;rw[W7]at c;have lt:=(ah6.mp c).1;exact⟨_,r i _ _ (N0 (by lia)) c⟩
theorem KAt.quiet:∀(f n:Nat) {k:KD}{v:M0}{Q:Bool->N1->Prop},n<=f->KAt s.heap n k v->Q true s->P6 (R4 prog w) A (eqIsQuiet f v) Q E s:=by
 intro f
 induction f with
 |zero =>
  intro n k v Q hn q h;obtain rfl:n=0:=by lia
  cases k with
  |int i=>obtain⟨t,rfl⟩:=q;exact M9 h
  |str i=>obtain⟨t,rfl⟩:=q;exact M9 h
  |tup _=>exact q.elim
 |succ f ih =>
  intro n k v Q hn q h;cases k with
  |int i=>obtain⟨t,rfl⟩:=za.mp q;exact M9 h
  |str i=>obtain⟨t,rfl⟩:=zi.mp q;exact M9 h
  |tup G =>
   cases n with
   |zero=>exact q.elim
   |succ n =>
    obtain⟨a,e,rfl,l,z,r⟩:=q;have j:s.TypeIs (.ref a) "tuple":=by obtain⟨o,p,u,_⟩:=l;exact⟨o,p,u⟩
    unfold eqIsQuiet;refine o0 (an1 j F.slot_tuple_eq.lookup ?_);show P6 _ _ (isInstance (.ref a) (.type "tuple") >>= _) _ _ s;refine o0 (ao8 j isSubtype_tuple_tuple ?_);simp only[al1,N9,if_false];refine o0 (xN l ?_);refine o0 ?_;show P6 _ _ (forIn e _ _) _ _ s;rw[<-aq7];refine ao9 _ (λc b g=>g=s/\b=(none,())/\∀x∈c,x∈e.toList) _ ?_ ?_ _ _ ⟨rfl,rfl,λ_ z=>z⟩
    ·rintro x c b g ⟨rfl,rfl,m⟩;obtain⟨k,B⟩:=KAt.item z r (m x (.head _));refine o0 (ih n (by lia) B ?_);simp only[al1,N9,if_false];exact M9 ⟨rfl,rfl,λy C=>m y (.tail _ C)⟩
    ·rintro b g ⟨rfl,rfl,_⟩;exact M9 h
theorem KAt.noCls:∀(f n:Nat) {k:KD}{v:M0}{Q:Bool->N1->Prop},n<=f->KAt s.heap n k v->Q false s->P6 (R4 prog w) A (ofAClassStatement f v) Q E s:=by
 intro f
 induction f with
 |zero =>
  intro n k v Q hn q h;obtain rfl:n=0:=by lia
  cases k with
  |int i=>obtain⟨t,rfl⟩:=q;exact M9 h
  |str i=>obtain⟨t,rfl⟩:=q;exact M9 h
  |tup _=>exact q.elim
 |succ f ih =>
  intro n k v Q hn q h;cases k with
  |int i=>obtain⟨t,rfl⟩:=za.mp q;exact M9 h
  |str i=>obtain⟨t,rfl⟩:=zi.mp q;exact M9 h
  |tup G =>
   cases n with
   |zero=>exact q.elim
   |succ n =>
    obtain⟨a,e,rfl,j,z,r⟩:=q;have u:s.TypeIs (.ref a) "tuple":=by obtain⟨o,m,p,_⟩:=j;exact⟨o,m,p⟩
    unfold ofAClassStatement;refine o0 (as3 u ?_);dsimp only;rw[if_pos (by rfl)];refine o0 (M9 ?_);simp only[al1,N9,if_false];refine o0 (xN j ?_);dsimp only;refine o0 ?_;rw[<-aq7];refine ao9 _ (λc b g=>g=s/\b=(none,())/\∀x∈c,x∈e.toList) _ ?_ ?_ _ _ ⟨rfl,rfl,λ_ z=>z⟩
    ·rintro x c b g ⟨rfl,rfl,l⟩;obtain⟨k,B⟩:=KAt.item z r (l x (.head _));refine o0 (ih n (by lia) B ?_);simp only[N9,if_false];exact M9 ⟨rfl,rfl,λy C=>l y (.tail _ C)⟩
    ·rintro b g ⟨rfl,rfl,_⟩;exact M9 h
theorem KAt.byV:∀(f n:Nat) {k:KD}{v:M0}{Q:Bool->N1->Prop},KAt s.heap n k v->(∀b,Q b s)->P6 (R4 prog w) A (hashByValue f v) Q E s:=by
 intro f
 induction f with
 |zero =>
  intro n k v Q q h;cases k with
  |int i=>obtain⟨t,rfl⟩:=za.mp q;exact M9 (h _)
  |str i=>obtain⟨t,rfl⟩:=zi.mp q;exact M9 (h _)
  |tup _=>cases n with
   |zero=>exact q.elim
   |succ n=>obtain⟨a,e,rfl,_⟩:=q;exact M9 (h _)
 |succ f ih =>
  intro n k v Q q h;cases k with
  |int i=>obtain⟨t,rfl⟩:=za.mp q;exact M9 (h _)
  |str i=>obtain⟨t,rfl⟩:=zi.mp q;exact M9 (h _)
  |tup G =>
   cases n with
   |zero=>exact q.elim
   |succ n =>
    obtain⟨a,e,rfl,j,z,r⟩:=q;have u:s.TypeIs (.ref a) "tuple":=by obtain⟨o,m,p,_⟩:=j;exact⟨o,m,p⟩
    unfold hashByValue;refine o0 (an1 u ao2.lookup ?_);dsimp only;refine o0 (xN j ?_);refine o0 ?_;show P6 _ _ (forIn e _ _) _ _ s;rw[<-aq7];refine ao9 _ (λc b g=>g=s/\b=(none,())/\∀x∈c,x∈e.toList) _ ?_ ?_ _ _ ⟨rfl,rfl,λ_ z=>z⟩
    ·rintro x c b g ⟨rfl,rfl,l⟩;obtain⟨k,B⟩:=KAt.item z r (l x (.head _));refine o0 (ih n B λb=>?_);cases b with
     |true =>
      simp only[al1,N9,if_false];exact M9 ⟨rfl,rfl,λy C=>l y (.tail _ C)⟩
     |false =>
      simp only[ao7,if_true];exact M9 (M9 (h _))
    ·rintro b g ⟨rfl,rfl,_⟩;exact M9 (h _)
end
def ve(h0 h:Q9):Prop:=∀b o,h0.get? b=some o->h.get? b=some o
theorem KAt.kept{h0 h:Q9}{n:Nat}{d:KD}{v:M0}(q:KAt h0 n d v)(k:ve h0 h):KAt h n d v:=q.up λb o _ e=>k b o e
noncomputable def tK(prog:Q7)(w:U9)(n:Nat)(hn:n<=8)(h0:Q9)(V:M0->Prop):TK prog w (List KD) where
 is h ks v:=ve h0 h/\KAt h0 n (.tup ks) v/\V v
 hash ks:=hK w n (.tup ks)
 room A:=A.units+n<af7
 pyHash hr c h:=KAt.hash n hr (c.2.1.kept c.1) (h _ (Nat.le_add_right _ _))
 eqB hr c hy:=by
  obtain⟨b,f,g⟩:=KAt.eq n hr (c.2.1.kept c.1) (hy.2.1.kept hy.1);exact⟨b,by rw[f];simp,g⟩
 quiet _ c h:=KAt.quiet 8 n hn (c.2.1.kept c.1) h
 noCls _ c h:=KAt.noCls 8 n hn (c.2.1.kept c.1) h
 byV _ c h:=KAt.byV 8 n (c.2.1.kept c.1) h
 ref {h x v} c:=by
  obtain⟨_,c,_⟩:=c;cases n with
  |zero=>exact c.elim
  |succ n=>obtain⟨a,_,e,_⟩:=c;exact⟨a,e⟩
end L2
namespace L2
open PySem PySem.Spec PyProof.Rows
open Classical in
def lQ{a:Type}(xs:List a)(x:a):List a:=if x∈xs then xs else xs++[x]
def kq{a:Type}(xs:List a):List a:=xs.foldl lQ []
section
variable{y:Type}
theorem As(xs:List y)(x:y):(lQ xs x).length<=xs.length+1:=by unfold lQ;split<;>simp
theorem tR:∀(xs a:List y),(xs.foldl lQ a).length<=a.length+xs.length
 |[],_=>N2 _
 |x::xs,a=>by
  have:=tR xs (lQ a x);have:=As a x;simp only[aa6,O2];lia
theorem vO(xs:List y):(kq xs).length<=xs.length:=by have:=tR xs [];simpa[kq]using this
theorem A4(xs:List y)(i:Nat)(h:i<xs.length):kq (xs.take (i+1))=lQ (kq (xs.take i)) xs[i]:=by
 rw[List.take_succ_eq_append_getElem h,kq,ao1];rfl
end
section
variable{prog:Q7}{w:U9}{A:S0}{R:aA0->N1->Prop}{I:O1}{H y:List O1}{G:Array az0->Array az0->Prop}{P:Nat->M0->Prop}{St:Nat->N1->Prop}
theorem LK{V:M0->Prop}{n:Nat}{hn:n<=8}{h0:Q9}{xs:List (List KD)}(W:WalksS prog w A.in1 I H y G xs.length P St)(S:O1)(M:S∉H)
  (l:∀b∈S::y,h0.get? b=none) (hu:A.in1.units+n<af7) (U:∀i v (h:i<xs.length),P i v->KAt h0 n (.tup xs[i]) v/\V v) (C:xs.length<1000) :
  ∀(k i:Nat) (s:N1),xs.length-i=k->i<=xs.length->St i s->ve h0 s.heap->nE (tK prog w n hn h0 V) s.heap S (kq (xs.take i)) ->
   (∀s',Moved (S::y) G s s'->ve h0 s'.heap->nE (tK prog w n hn h0 V) s'.heap S (kq xs)->R (.ok (.ret .none)) s') ->
   am8 (R4 prog w) A (.builtin "set.update.loop" ⟨[.ref S,.ref I],[]⟩) R s:=by
 have J:S∉y:=λh=>M (W.sub _ h);have f:∀b∈y,b∈S::y:=λb C=>S7 _ C;intro k
 induction k with
 |zero =>
  intro i s hk hi m hK X Y;have Z:i=xs.length:=by lia
  subst Z;refine ab8 ak8 ?_;rw[Z7 ad5 _];show P6 _ A.in1 (as1 (.ref I) >>= _) _ _ s;refine o0 (W.done s _ _ m λs' p=>?_);show P6 _ A.in1 (ret X1) _ _ s';rw[S6]at X;have a:ve h0 s'.heap:=λb o e=>p.heap b o (λq=>by rw[l b (f b q)]at e;cases e) (hK b o e);exact M9 (Y s' (p.mono f) a (X.mono (λo e=>p.heap S _ J e) λz v q=>⟨a,q.2⟩))
 |succ k ih =>
  intro i s hk hi m hK X Y;have g:i<xs.length:=by lia
  refine ab8 ak8 ?_;rw[Z7 ad5 _];show P6 _ A.in1 (as1 (.ref I) >>= _) _ _ s;refine o0 (W.item i s _ _ g m λv s' hP N p=>?_);have hx:=U i v g hP;have a:ve h0 s'.heap:=λb o e=>p.heap b o (λq=>by rw[l b (f b q)]at e;cases e) (hK b o e);have a2:nE (tK prog w n hn h0 V) s'.heap S (kq (xs.take i)):=X.mono (λo e=>p.heap S _ J e) λz v q=>⟨a,q.2⟩;show P6 _ A.in1 (at7 [v] (setAdd S v) >>= _) _ _ s';refine o0 (W5 ?_);unfold setAdd;refine W5 ?_;refine o0 ((tK prog w n hn h0 V).pyHash (x:=xs[i]) hu ⟨a,hx⟩ λtk T=>?_);have B:(kq (xs.take i)).length<1000:=by have:=vO (xs.take i);rw[S2]at this;lia
  have Q:∀j,S4 S s'.heap j->ve h0 j:=λj sb b o e=>by
   rw[sb.2 b λz=>by rw[z,l S (.head _)]at e;cases e];exact a b o e
  refine LY (s:={ s' with toks:=tk }) (κ:=tK prog w n hn h0 V) hu ⟨a,hx⟩ a2 B (λj z v sb q=>⟨Q j sb,q.2⟩) λb j u y1 y2=>?_;have a0:nE (tK prog w n hn h0 V) j S (kq (xs.take (i+1))):=by
   rw[A4 xs i g];unfold lQ
   split
   ·rename_i c;exact y1 c
   ·rename_i c;exact y2 c
  refine M9 ⟨ak7 ad5 _,ih (i+1) _ (by lia) g (W.frame _ s' _ _ N T λb C o e=>?_) (Q j u) a0 λa1 E O L=>?_⟩
  ·rw[u.2 b (λh:b=S=>M (by rw[<-h];exact C))];exact e
  ·refine Y a1 (Moved.trans W.gtrans ((p.mono f).then_heap T λb o C e=>?_) E) O L;rw[u.2 b (λh:b=S=>C (by rw[h];exact V8))];exact e
end
section
variable{prog:Q7}{w:U9}{A:S0}{E:M0->N1->Prop}{s:N1}
theorem Hq{V:M0->Prop}{n:Nat}{hn:n<=8}{h0 h:Q9}{a:O1}(g:h.get? a=some (gZ w)):nE (tK prog w n hn h0 V) h a [] :=
 ⟨_,#[],0,_,[],⟨g,⟨rfl,rfl,rfl⟩,rfl,⟨rfl,λi z f=>by simp at f⟩,.nil,⟨rfl,λi j _ e=>by simp[as0]at e,λi c=>by simp[as0]at c,rfl,⟨3,by decide,rfl⟩,by simp[as0],λi h q=>by simp[eU]at q⟩,rfl,by simp[as0],.inl (by simp[as0])⟩,.refl _⟩
end
end L2
namespace L2
open PySem PySem.Spec PyProof.Rows PySem.SeqAt
open Classical in
mutual
def ltK:KD->KD->Bool
 |.int i,.int j=>decide (i<j)
 |.int _,.str _=>true
 |.int _,.tup _=>true
 |.str _,.int _=>false
 |.str a,.str b=>ltS a b
 |.str _,.tup _=>true
 |.tup _,.int _=>false
 |.tup _,.str _=>false
 |.tup a,.tup b=>jn a b
def jn:List KD->List KD->Bool
 |[],[]=>false
 |[],_::_=>true
 |_::_,[]=>false
 |a::c,b::bs=>if a=b then jn c bs else ltK a b
end
mutual
theorem FG:∀a:KD,ltK a a=false
 |.int i=>by simp[ltK]
 |.str a=>by simp only[ltK];exact vB a
 |.tup a=>by simp only[ltK];exact wC a
theorem wC:∀a:List KD,jn a a=false
 |[]=>by simp[jn]
 |a::c=>by simp only[jn,if_true];exact wC c
end
mutual
theorem EA:∀a b:KD,ltK a b=false->ltK b a=false->a=b
 |.int i,.int j,c,e=>by simp[ltK]at c e;congr 1;lia
 |.int _,.str _,c,_=>by simp[ltK]at c
 |.int _,.tup _,c,_=>by simp[ltK]at c
 |.str _,.int _,_,c=>by simp[ltK]at c
 |.str a,.str b,c,e=>by simp only[ltK]at c e;rw[ph c e]
 |.str _,.tup _,c,_=>by simp[ltK]at c
 |.tup _,.int _,_,c=>by simp[ltK]at c
 |.tup _,.str _,_,c=>by simp[ltK]at c
 |.tup a,.tup b,c,e=>by simp only[ltK]at c e;rw[vF a b c e]
theorem vF:∀a b:List KD,jn a b=false->jn b a=false->a=b
 |[],[],_,_=>rfl
 |[],_::_,e,_=>by simp[jn]at e
 |_::_,[],_,e=>by simp[jn]at e
 |a::g,b::bs,e,f=>by
  simp only[jn]at e f
  by_cases c:a=b
  ·subst c;rw[if_pos rfl]at e f;rw[vF g bs e f]
  ·rw[if_neg c]at e;rw[if_neg λz=>c z.symm]at f;exact absurd (EA a b e f) c
end
mutual
theorem Iv:∀a b c:KD,ltK a b=true->ltK b c=true->ltK a c=true
 |.int i,.int j,.int k,f,e=>by simp[ltK]at f e ⊢;lia
 |.int _,.str _,.int _,_,e=>by simp[ltK]at e
 |.int _,.tup _,.int _,_,e=>by simp[ltK]at e
 |.int _,_,.str _,_,_=>by simp[ltK]
 |.int _,_,.tup _,_,_=>by simp[ltK]
 |.str _,.int _,_,f,_=>by simp[ltK]at f
 |.str a,.str b,.str c,f,e=>by simp only[ltK]at f e ⊢;exact j8 f e
 |.str _,.str _,.int _,_,e=>by simp[ltK]at e
 |.str _,.tup _,.int _,_,e=>by simp[ltK]at e
 |.str _,.tup _,.str _,_,e=>by simp[ltK]at e
 |.str _,_,.tup _,_,_=>by simp[ltK]
 |.tup _,.int _,_,f,_=>by simp[ltK]at f
 |.tup _,.str _,_,f,_=>by simp[ltK]at f
 |.tup _,.tup _,.int _,_,e=>by simp[ltK]at e
 |.tup _,.tup _,.str _,_,e=>by simp[ltK]at e
 |.tup a,.tup b,.tup c,f,e=>by simp only[ltK]at f e ⊢;exact y0 a b c f e
theorem y0:∀a b c:List KD,jn a b=true->jn b c=true->jn a c=true
 |_,[],[],_,e=>by simp[jn]at e
 |_,_::_,[],_,e=>by simp[jn]at e
 |[],_,_::_,_,_=>by simp[jn]
 |_::_,[],_::_,f,_=>by simp[jn]at f
 |a::l,b::bs,c::m,f,e=>by
  simp only[jn]at f e ⊢
  by_cases i:a=b
  ·subst i;rw[if_pos rfl]at f
   by_cases g:a=c
   ·rw[if_pos g]at e ⊢;exact y0 l bs m f e
   ·rw[if_neg g]at e ⊢;exact e
  ·rw[if_neg i]at f
   by_cases g:b=c
   ·subst g;rw[if_neg i];exact f
   ·rw[if_neg g]at e;have h:=Iv a b c f e
    by_cases j:a=c
    ·subst j;rw[FG]at h;cases h
    ·rw[if_neg j];exact h
end
mutual
def Cm:KD->KD->Prop
 |.int _,.int _=>True
 |.str _,.str _=>True
 |.tup a,.tup b=>Cms a b
 |_,_=>False
def Cms:List KD->List KD->Prop
 |a::c,b::bs=>Cm a b/\Cms c bs
 |_,_=>True
end
end L2
namespace L2
open PySem PySem.W PySem.Calls PyProof.Rows PySem.SeqAt
end L2
namespace L2
open PySem PySem.Spec PyProof.Rows PySem.Calls PySem.SeqAt
mutual
noncomputable def kd:KD->D
 |.int i=>.int i
 |.str x=>.str x
 |.tup a=>.tup (kds a)
noncomputable def kds:List KD->List D
 |[]=>[]
 |k::a=>kd k::kds a
end
theorem pj:∀ks,kds ks=ks.map kd
 |[]=>by simp[kds]
 |k::ks=>by simp[kds,pj ks]
mutual
theorem HF:∀{a b:KD},kd a=kd b->a=b
 |.int _,.int _,h=>by simp[kd]at h;rw[h]
 |.int _,.str _,h=>by simp[kd]at h
 |.int _,.tup _,h=>by simp[kd]at h
 |.str _,.int _,h=>by simp[kd]at h
 |.str _,.str _,h=>by simp[kd]at h;rw[h]
 |.str _,.tup _,h=>by simp[kd]at h
 |.tup _,.int _,h=>by simp[kd]at h
 |.tup _,.str _,h=>by simp[kd]at h
 |.tup a,.tup b,h=>by simp only[kd,D.tup.injEq]at h;rw[zA h]
theorem zA:∀{a b:List KD},kds a=kds b->a=b
 |[],[],_=>rfl
 |[],_::_,h=>by simp[kds]at h
 |_::_,[],h=>by simp[kds]at h
 |a::c,b::bs,h=>by
  simp only[kds,af5]at h;rw[HF h.1,zA h.2]
end
noncomputable def Bq(ks:List KD):D:=.tup (kds ks)
def dpK:Nat->KD->Prop
 |_,.int _=>True
 |_,.str _=>True
 |0,.tup _=>False
 |n+1,.tup a=>∀k∈a,dpK n k
section
variable{X:Cx}{y:List (O1×Obj)}{s:N1}{σ:St}{H:Hp}{M:DH}{K:u8}
theorem FU(I:Inv X y σ H s):∀(n:Nat) {k:KD}{v:V}{u:M0},dpK n k->Rep X.K M H (kd k) v->aQ v u->KAt s.heap n k u:=by
 intro n
 induction n with
 |zero =>
  intro k v u hd r q;cases k with
  |int i=>simp only[kd,Rep]at r;subst r;exact q
  |str i=>simp only[kd,Rep]at r;subst r;exact q
  |tup _=>exact hd.elim
 |succ n ih =>
  intro k v u hd r q;cases k with
  |int i=>simp only[kd,Rep]at r;subst r;exact q
  |str i=>simp only[kd,Rep]at r;subst r;exact q
  |tup p =>
   simp only[kd,Rep]at r;obtain⟨a,w,rfl,t,f⟩:=r;cases q;obtain⟨c,h,m,x⟩:=I.tuple t.sq;refine⟨a,c.toArray,rfl,m,?_,λi d u e j=>?_⟩
   ·rw[O0,<-h.length,<-f.length,pj,s0]
   ·obtain⟨v,g,r⟩:=f.get (i:=i) (d:=kd d) (by rw[pj,Q6,e];rfl);obtain⟨z,o,l⟩:=h.get g;rw[List.getElem?_toArray,o]at j;cases j;exact ih (hd d (P3 e)) r l
theorem Bw(I:Inv X y σ H s){n:Nat}{ks:List (List KD)}{e:List V}{a:List M0}(j:∀k∈ks,dpK n (.tup k))(h:aw X.K M H (ks.map Bq) e)(l:aH e a){i:Nat}{k:List KD}{u:M0}(c:ks[i]?=some k)(f:a[i]?=some u):KAt s.heap n (.tup k) u:=by
 obtain⟨v,g,r⟩:=h.get (i:=i) (d:=Bq k) (by rw[Q6,c];rfl);obtain⟨p,o,m⟩:=l.get g;rw[o]at f;cases f;exact FU I n (k:=.tup k) (j k (P3 c)) (by simp only[kd];exact r) m
theorem evD{a:R6}{l:TEd}{h:DE}{R:D->DH->Prop}{Q:M0->N1->Prop}(ha:PEd X a l)(I:Inv X y σ H s)(o:SR X.K M H σ h)(hr:HR X.K M H)(q:l h M R)
  (k:∀u f v c x M1,Inv X y σ c f->aQ v u->R x M1->HR X.K M1 c->Rep X.K M1 c x v->Ext M H M1 c->Q u f):P6 (R4 X.prog X.w) X.A (af8 a X.env) Q X.xe s :=
 thn (ha y s σ H (λv c=>∃x M1,R x M1/\HR X.K M1 c/\Rep X.K M1 c x v/\Ext M H M1 c) I ⟨h,M,R,o,hr,q,λx M1 v c j i e g=>⟨x,M1,j,e,g,i⟩⟩) λu f ⟨v,c,n,m,x,M1,j,e,g,i⟩=>k u f v c x M1 n m j e g i
end
end L2
namespace L2
open PySem PySem.Spec PyProof.Rows PySem.Calls PySem.SeqAt PySem.W
open Classical in
instance decKs:DecidableEq (List KD):=λ_ _=>propDecidable _
end L2
namespace L2
open PySem PySem.Spec PyProof.Rows PySem.Calls PySem.SeqAt
end L2
namespace L2
open PySem PySem.Spec PyProof.Rows
end L2
namespace L2
open PySem PySem.Spec PyProof.Rows PySem.Calls PySem.SeqAt
end L2
namespace L2
open PySem PySem.Spec PyProof.Rows
section
variable{prog:Q7}{w:U9}{A:S0}{E:M0->N1->Prop}{s:N1}
theorem yw{n:Nat}{hn8:n<=8}{l:O1}{items:Array M0}{xs:List (List KD)}{Q:M0->N1->Prop}
  (hh:A.handled=none) (hu:A.units+n+8<af7) (hl:s.heap.IsTuple l items) (hn:items.size=xs.length) (hi:∀(i:Nat) k u,xs[i]?=some k->items[i]?=some u->KAt s.heap n (.tup k) u) (p:xs.length<1000)
  (h:∀(h':Q9) (M:Nat),nE (tK prog w n hn8 s.heap (·∈items)) h' s.heap.objs.size (kq xs)->ve s.heap h'->Q (.ref s.heap.objs.size) { s with heap:=h',toks:=M }) :
  P6 (R4 prog w) A (call (.type "set") [.ref l]) Q E s:=by
 obtain⟨c,tl,a4⟩:=T9.mro;have Z:=T9.made;have a5:=T9.sub;refine az6 (au2 ?_);show P6 _ _ (callAny (.type "set") _) _ _ _;refine M9 ⟨aA9.quiet_builtin _ (by decide +kernel),ab8 PySem.F.entry_type_call ?_⟩;rw[S0.under_plain (weight_type_call_type "set" [.ref l] []) rfl];have h1:=T9.notType;have h2:=T9.canCreate;have b0:=PySem.F.typeCall_set_1 (.ref l)
 repeat (any_goals (first|assumption|wp_step))
 refine ai3 (vK (.ref l) (E:=E) (Q₁:=λobj j=>obj=.ref s.heap.objs.size/\j={ s with heap:=s.heap.push (gZ w) }) ⟨rfl,rfl⟩) λr j S=>?_;cases r with
 |error e=>exact S
 |ok fl =>
  cases fl with
  |ret obj =>
   obtain⟨rfl,rfl⟩:=S;have hS:(s.heap.push (gZ w)).get? s.heap.objs.size=some (gZ w):=N6 _ rfl;have hT:aq3 { s with heap:=s.heap.push (gZ w) } (.ref s.heap.objs.size) "set":=⟨_,hS,rfl⟩;have a':=T9.init.lookup;have a9:=T9.init.bind (.ref s.heap.objs.size)
   repeat (any_goals (first|assumption|wp_step))
   refine ai3 (codeAny_call_builtin (R:=wants (λr g=>r=.none/\∃h' M,g={ s with heap:=h',toks:=M } /\
     nE (tK prog w n hn8 s.heap (·∈items)) h' s.heap.objs.size (kq xs)/\ve s.heap h') E) T9.init.plain PySem.F.entry_set_init (check_set_init_1 hT ?_)) λH g a=>?_
   ·obtain⟨ol,J,L,nl,I⟩:=hl;obtain⟨a3,m,T,f⟩:=ol;simp only at L I;subst L;subst I;have C:(s.heap.push (gZ w)).get? l=some { cls:=.type "tuple",dict:=m,data:=.seq items nl,slots:=f }:=M7 _ J;have a2:=PySem.F.sub_tuple_set;have a8:=PySem.F.sub_tuple_frozenset;have b1:(aa0 "tuple"==aa0 "dict")=false:=by decide
    have z:(s.heap.push (gZ w)).IsTuple l items:=⟨_,C,rfl,nl,rfl⟩;unfold Q8.«set.__init__» noKeywords Q8.Frozenset.updateFrom;generalize P:au9=PI
    wp_walk
    subst P;refine aq1 z ?_;refine o0 (wpAny_runValue ?_);have G:l<s.heap.objs.size:=P2 J;have Y:A.in1.in1.in1.handled=none:=by simp[hh]
    have B:l≠(s.heap.push (gZ w)).objs.size:=by
     rw[W1];exact P8 (X7 G)
    have X:s.heap.objs.size∉[(s.heap.push (gZ w)).objs.size,l]:=by
     rw[W1];simp only[O9,N8,ac3,or_false,not_or];exact⟨P8 (ab9 _),ap2 G⟩
    have W:=(az4.tuple (prog:=prog) (w:=w) Y _ l B items).toS;rw[hn]at W;have frs:∀b,s.heap.objs.size<=b->s.heap.get? b=none:=λb p=>Q9.get?_none_of_le p;refine LK (V:=(·∈items)) (n:=n) (hn:=hn8) (h0:=s.heap) (xs:=xs) W s.heap.objs.size X (λb p=>?_) (show A.units+1+1+1+n<af7 by lia) (λi v N hv=>⟨hi i _ _ (N0 N) hv,Array.mem_of_getElem? hv⟩) p (xs.length-0) 0 _ (by lia) (O3 _) ?St0 ?hK0 ?hS0 ?hR
    case St0=>exact⟨⟨_,N6 _ rfl,rfl,rfl⟩,(z.push _)⟩
    ·rcases O9.mp p with rfl|p
     ·exact frs _ (N2 _)
     ·rw[N8.mp p,W1];exact frs _ (ar1 _)
    case hK0=>exact λb o e=>M7 _ (M7 _ e)
    case hS0=>exact Hq (M7 _ hS)
    case hR =>
     intro s' hm a1 q;obtain⟨h',g',d',O,U⟩:=s';have eg:g'=s.gens:=hm.gens;have ed:d'=s.drawn:=hm.drawn;have eo:U=s.os:=hm.os;subst eg;subst ed;subst eo;show P6 _ _ _ _ _ _;refine M9 ?_;show P6 _ _ (ret X1) _ _ _;exact M9 ⟨rfl,h',O,rfl,q,a1⟩
   ·cases H with
    |error e=>exact a
    |ok x =>
     cases x with
     |ret r =>
      obtain⟨rfl,h',M,rfl,q,a0⟩:=a
      repeat (any_goals (first|assumption|wp_step))
      exact h _ _ q a0
     |_=>exact a.elim
  |_=>exact S.elim
end
section
open PySem.Calls PySem.SeqAt
variable{X:Cx}{y:List (O1×Obj)}{s:N1}{σ:St}{H:Hp}{M:DH}{K:u8}
end
end L2
namespace L2
open PySem PySem.Spec PyProof.Rows PySem.Calls PySem.SeqAt
section
variable{X:Cx}{y:List (O1×Obj)}{s:N1}{σ:St}{H:Hp}{M:DH}{K:u8}
def dLS(e:TEd):TEd:=λf M Q=>e f M λx M1=>(∃a:List (List KD),rdM M1 x=.tup (a.map Bq)/\(∀k∈a,dpK 8 (.tup k))/\a.length<1000/\Q (.int ((kq a).length:Nat)) M1)∨(∃c:List Str,rdM M1 x=.lst (c.map .str)/\c.length<1000/\Q (.int ((dg c).length:Nat)) M1)
theorem Mg{a:R6}{ta:TEd}{p0 p1 P E:Pos}(hc:X.calm=true)(hu:X.A.units+64<af7)(a0:Gl X "len")(a1:X.mg "len"=none)(hg:Gl X "set")(hm:X.mg "set"=none)(ha:QEd X a ta)
  (B:O5 [.Call (.Name "set" p1) [a] [] E] X.env=(false,af8 (.Call (.Name "set" p1) [a] [] E) X.env)::O5 [] X.env:=by rfl)
  (J:O5 [a] X.env=(false,af8 a X.env)::O5 [] X.env:=by rfl)
  (a4:(ad7 P (O5 [] X.env)).any (·.1)=false:=by rfl) (T:(ad7 E (O5 [] X.env)).any (·.1)=false:=by rfl) :
  QEd X (.Call (.Name "len" p0) [.Call (.Name "set" p1) [a] [] E] [] P) (dLS ta):=by
 simp only[QEd.eq]at *
 intro y s σ H Q I ⟨Δ,M,R,sr,hr,q,k⟩;refine ad1 (gn I a0 a1 (u:=.builtin "len") (by kernel_rfl) ?_ (by decide) (by decide));refine PyProof.Rows.callWith_builtin1 ?_ B a4;rw[B];show P6 _ _ (aA3 ((false,af8 _ X.env)::ad7 P (O5 [] X.env))) _ _ s;refine af9 ?_;refine ad1 (gn I hg hm (u:=.type "set") (by kernel_rfl) ?_ (by decide) (by decide));refine X4 ?_ J T;rw[J];show P6 _ _ (aA3 ((false,af8 a X.env)::ad7 E (O5 [] X.env))) _ _ s;refine af9 (evD ha I sr hr q λu A v N x M1 w r1 hx m Y e1=>?_);have L:=Y.rd m;refine ag7 ?_;rcases hx with⟨O,ex,a2,hl,q2⟩|⟨j,ex,hl,q2⟩
 ·rw[ex]at L;obtain⟨l,vs,rfl,sq,G⟩:=L;cases r1;obtain⟨h,c,pl,hz⟩:=w.tuple sq;have hn:O.length=h.length:=by rw[<-c.length,<-G.length,s0]
  have a5:∀(i:Nat) k u,O[i]?=some k->h[i]?=some u->KAt A.heap 8 (.tup k) u:=λi k u h1 U=>Bw w a2 G c h1 U;refine yw (n:=8) (hn8:=N2 _) (w.ok.hd hc) (by lia) pl (by simp[hn]) (λi k u h1 U=>a5 i k u h1 (by simpa using U)) hl λC z hS kp=>?_;refine ag7 ?_;obtain⟨o,S,ep,t,zs,f,pm⟩:=hS;have p:S.size=(kq O).length:=by rw[f.el.len,pm.length_eq]
  have Z:Inv X y σ N { A with heap:=C,toks:=z }:=w.kept kp;have a3:=vO O;refine call_len_set (s:={ A with heap:=C,toks:=z }) f.get f.ex f.data f.tb.fit (by lia) ?_;rw[p];exact⟨.int _,N,Z.tok _,⟨_,rfl⟩,k _ _ _ _ q2 e1 m (by simp only[Rep])⟩
 ·rw[ex]at L;obtain⟨l,vs,rfl,sq,G⟩:=L;cases r1;obtain⟨h,c,pl,hz⟩:=w.list (SqL.of sq);have hn:j.length=h.length:=by rw[<-c.length,<-G.length,s0]
  refine sY (xs:=j) (w.ok.hd hc) pl.isList (by simp[hn]) (λi hi=>?_) (by unfold ai5;lia) λC z hS kp=>?_
  ·obtain⟨v,g,r⟩:=G.get (i:=i) (d:=.str j[i]) (by rw[Q6,N0 hi];rfl);obtain⟨u,g',r'⟩:=c.get g;simp only[Rep]at r;subst r;obtain⟨t,rfl⟩:=r';exact⟨t,by simpa using g'⟩
  refine ag7 ?_;obtain⟨o,S,ep,t,f,pm⟩:=hS;have p:S.size=(dg j).length:=by
   have:=pm.length_eq;rw[s0,O8]at this;exact this
  have Z:Inv X y σ N { A with heap:=C,toks:=z }:=w.kept kp;have a3:(dg j).length<=j.length:=by have:=ng j [];simpa[dg]using this
  refine call_len_set (s:={ A with heap:=C,toks:=z }) f.get f.ex f.data f.fit (by lia) ?_;rw[p];exact⟨.int _,N,Z.tok _,⟨_,rfl⟩,k _ _ _ _ q2 e1 m (by simp only[Rep])⟩
end
end L2
namespace L2
open PySem PySem.Spec PyProof.Rows PySem.Builtin PySem.Builtin.Str StrLaws
end L2
namespace L2
open PySem PySem.Spec PyProof.Rows
open AutoSeq1 (wpAny_loadPart')
end L2
namespace L2
open PySem PySem.Spec PySem.Calls PyProof.Rows PySem.W PySem.Builtin PySem.Builtin.ObjectAttr PySem.Builtin.Getset_descriptor
end L2
namespace L2
open PySem PySem.Spec PyProof.Rows
noncomputable def Mp(j:Nat)(E:fZ):fZ where
 nx:=λc M=>∃a,LeM a M/\E.nx (c.set j none) a
 bk:=λc M=>∃a,LeM a M/\E.bk (c.set j none) a
 ct:=λc M=>∃a,LeM a M/\E.ct (c.set j none) a
 rt:=λd M=>∃a,LeM a M/\E.rt d a
end L2
namespace L2
open PySem PySem.Spec PySem.Calls PyProof.Rows
end L2
namespace L2
open PySem PySem.Spec PyProof.Rows
end L2
namespace L2
open PySem PySem.Spec PyProof.Rows PySem.Calls PySem.SeqAt
end L2
namespace L2
open PySem PySem.Spec PyProof.Rows PySem.Calls PySem.SeqAt PySem.W
end L2
namespace L2
open PySem PySem.Spec PyProof.Rows PySem.Calls
theorem zN(xs:List Str):(dg xs).Nodup:=wM xs [] .nil
theorem A8{xs a:List Str}(h:∀x,x∈xs↔x∈a):aT (dg xs)=aT (dg a):=kJ (xp (zN _) (zN _) λx=>by rw[mH,mH];exact h x)
section
variable{X:Cx}
def dST(c:TEd):TEd:=λe M Q=>c e M λx M1=>∃a:List Str,rdM M1 x=.lst (a.map D.str)/\a.length<63/\Q (.lst ((aT (dg a)).map D.str)) M1
theorem Jf{a:R6}{Z:TEd}{p0 T l g:Pos}(hc:X.calm=true)(A:Gl X "sorted")(E:X.mg "sorted"=none)(hg:Gl X "set")(hm:X.mg "set"=none)(ha:QEd X a Z)
  (j:O5 [.Call (.Name "set" T) [a] [] g] X.env=(false,af8 (.Call (.Name "set" T) [a] [] g) X.env)::O5 [] X.env:=by rfl)
  (G:O5 [a] X.env=(false,af8 a X.env)::O5 [] X.env:=by rfl)
  (J:(ad7 l (O5 [] X.env)).any (·.1)=false:=by rfl) (C:(ad7 g (O5 [] X.env)).any (·.1)=false:=by rfl) :
  QEd X (.Call (.Name "sorted" p0) [.Call (.Name "set" T) [a] [] g] [] l) (dST Z):=by
 simp only[QEd.eq]at *
 intro af s σ H Q I ⟨Δ,M,R,sr,hr,q,k⟩;refine ad1 (gn I A E (u:=.builtin "sorted") (by kernel_rfl) ?_ (by decide) (by decide));refine PyProof.Rows.callWith_builtin1 ?_ j J;rw[j];show P6 _ _ (aA3 ((false,af8 _ X.env)::ad7 l (O5 [] X.env))) _ _ s;refine af9 ?_;refine IT (M:=M) hc hg hm ha G C I ⟨Δ,M,_,sr,hr,q,λx M1 v H1 g N e rv=>⟨x,M1,g,e,rv.rd e,N⟩⟩ (λx M1 ⟨L,n,hl,_⟩=>⟨L,n,hl⟩) λc s1 x M1 H1 f U ⟨L,n,hl,q2⟩ O e N hS fc=>?_;have p:f=L:=by
  have:=O.symm.trans n;simp only[D.lst.injEq]at this;exact(List.map_inj_right (λa b h=>by simpa using h)).mp this
 subst p;refine ag7 ?_;have bp:(dg f).length<64:=by
  have:=mr f
  lia
 refine FK (U.ok.hd hc) hS bp λY h' z us cc P eg eo i m gz B S=>?_;have I3:Inv X af σ H1 Y:=U.with P eg eo
 have I4:=I3.laid (t':=Y.toks) (o:=.lst ((aT (dg f)).map V.str)) m i (show cu X.prog X.w _ h' z (.lst _)from⟨by
  rw[s0,(br _).length_eq,O7];lia,us,cc,BV B S,gz⟩)
 refine⟨.ref z,_,I4,rfl,gN e (I3.hok.fresh i) w9 λw H' a b c=>?_⟩;exact k _ _ _ _ q2 (N.trans a) b c
end
section
variable{X:Cx}{y:am0}{z:List (Str×O1)}{ms:List Bool}{ar:List Str}{I t0 Y t1 i1 t2 i2:R6}{f0 f1 f2:List R6}{pos:Pos}{w0 w1 w2:TId}{g0 g1 g2:GD}{L tc1 G:TTd}{te:TEd}
theorem B6{i:Nat}{x:Str}{e f:Pos}(hN:X.N.Nodup)(N:X.N[i]?=some x)(hx:X.env.scope.names.lookup x=some .local)
  (Z:ai1 (.ListComp I [⟨t0,Y,f0,0⟩,⟨t1,i1,f1,0⟩,⟨t2,i2,f2,0⟩] y pos) (some (.Name x f)) e.line X.env=al5 true) (S:eP X y z ms ar) (eD:X.calm=true) (hi:QId X t0 Y w0) (T:PGa X y z ar t0 g0) (l:∀C s H a,QIf (aL X y z (X.N++ar) C s H a) f0 L)
  (R:∀C s H a,QId (aL X y z (X.N++ar) C s H a) t1 i1 w1) (U:PGa X y z ar t1 g1) (j:∀C s H a,QIf (aL X y z (X.N++ar) C s H a) f1 tc1)
  (Q:∀C s H a,QId (aL X y z (X.N++ar) C s H a) t2 i2 w2) (A:PGa X y z ar t2 g2) (g:∀C s H a,QIf (aL X y z (X.N++ar) C s H a) f2 G) (he:∀C s H a,QEd (aL X y z (X.N++ar) C s H a) I te)
  (hs:∀x,T0 Y X.env x=al5 x:=by intro _;rfl) (O:∀C x,T0 i1 (aw0 y z C X.env) x=al5 x:=by intro _ _;rfl) (P:∀C x,T0 i2 (aw0 y z C X.env) x=al5 x:=by intro _ _;rfl) :
  QSd X (.Assign [.Name x f] (.ListComp I [⟨t0,Y,f0,0⟩,⟨t1,i1,f1,0⟩,⟨t2,i2,f2,0⟩] y pos) e) (mR i (ER ms ar.length w0 g0 L w1 g1 tc1 w2 g2 G te)):=by
 simp only[QEd.eq,QSd.eq,QId.eq,QIf.eq]at *
 obtain⟨a3,a1,a2⟩:=T;obtain⟨w,J,n⟩:=U;obtain⟨a0,o,m⟩:=A;refine(kh (tc:=upT X.K L) (p:=Y.pos) (B:=rK (upI X.K w1) w (upT X.K tc1) (rK (upI X.K w2) a0 (upT X.K G) (mJ (up X.K te)))) hN N hx Z S eD hi a1 l (λ_ _ _ _ _ c=>?_) hs).conv λD σ H hh=>?_
 ·exact mw (wi:=upI X.K w1) (tc:=upT X.K tc1) c (mw (wi:=upI X.K w2) (tc:=upT X.K G) c (o8 (te:=up X.K te) (k:=2) (p:=i2.pos) c (he _ _ _ _) λ_ _ _=>rfl) (λ_ _ _=>rfl) (P _) (Q _ _ _ _) (o _ _ _ _) (g _ _ _ _) (k:=1) (p:=i1.pos) λ_ _ _=>rfl) (λ_ _ _=>rfl) (O _) (R _ _ _ _) (J _ _ _ _) (j _ _ _ _) λ_ _ _=>rfl
 ·obtain⟨Δ,M,E,sr,hr,q,k⟩:=hh;unfold mR ER at q;exact qQ a2 (λh=>me n (λh=>me m uq h) h) σ H _ ⟨Δ,M,_,sr,hr,q,λd M1 v H1 q1 e1 u rv=>k.nx _ M1 _ H1 q1 e1 u ((sr.ext e1).set i rv)⟩
end
end L2
namespace My
open PySem PySem.Spec PyProof.Rows L2
noncomputable def top(i:Nat):af0:=PySem.Challenge.pw_wordwishes_k58_kinds_learnt.main.body.getD i (.Pass ⟨0,0,0,0⟩)
abbrev iX:af0:=top 3
abbrev eZ:af0:=top 4
abbrev cL:af0:=top 5
abbrev gQ:af0:=top 6
abbrev eB:af0:=top 7
abbrev jx:af0:=top 10
abbrev jG:af0:=top 11
abbrev fj:af0:=top 12
abbrev dS:af0:=top 13
abbrev jW:af0:=top 14
abbrev jL:af0:=top 17
abbrev jv:af0:=top 18
abbrev iU:af0:=top 19
abbrev gk:af0:=top 20
abbrev lg:af0:=top 21
abbrev fS:af0:=top 30
abbrev jz:af0:=top 31
abbrev dY:af0:=top 32
abbrev iA:af0:=top 33
abbrev cH:af0:=top 34
abbrev gj:af0:=top 35
abbrev ft:af0:=top 36
abbrev iW:af0:=top 37
abbrev iP:af0:=top 38
abbrev cw:af0:=top 39
abbrev dv:af0:=top 40
abbrev fV:af0:=top 43
abbrev c7:af0:=top 44
abbrev eh:af0:=top 45
abbrev fJ:af0:=top 46
abbrev eW:af0:=top 47
abbrev fF:af0:=top 48
abbrev cO:af0:=top 49
abbrev iD:af0:=top 52
abbrev gq:af0:=top 53
abbrev cG:af0:=top 54
abbrev fb:af0:=top 55
abbrev dW:af0:=top 56
abbrev pJ:af0:=top 58
abbrev eY:af0:=top 60
abbrev dU:af0:=top 62
abbrev lC:af0:=top 63
abbrev bc:af0:=top 66
abbrev dF:af0:=top 67
abbrev gc:af0:=top 68
abbrev pO:af0:=top 70
abbrev rC:af0:=top 71
abbrev qM:af0:=top 72
abbrev iw:af0:=top 73
abbrev fL:af0:=top 74
abbrev nM:af0:=top 75
abbrev gG:af0:=top 76
abbrev nL:af0:=top 77
abbrev gC:af0:=top 78
abbrev jU:af0:=top 79
abbrev lA:af0:=top 80
abbrev cJ:af0:=top 81
abbrev lS:af0:=top 82
abbrev jO:af0:=top 83
abbrev dA:af0:=top 84
abbrev il:af0:=top 85
abbrev kf:af0:=top 86
abbrev oZ:af0:=top 87
abbrev Cw:af0:=top 88
abbrev nT:af0:=KC (top 51) 0
noncomputable abbrev uN:List Str:=["thing"]
theorem kS:ax uN ["thing"] (aj iX):=fsc
noncomputable abbrev oR:List Str:=["thing","many"]
theorem ir:ax oR ["thing","many"] (aj eZ):=fsc
noncomputable abbrev du:List Str:=["thing"]
theorem gp:ax du ["thing"] (aj cL):=fsc
noncomputable abbrev sh:List Str:=["one","other"]
theorem jT:ax sh ["one","other"] (aj gQ):=fsc
noncomputable abbrev dZ:List Str:=["parts","length","told","place"]
theorem jE:ax dZ ["parts","length"] (aj eB):=fsc
noncomputable abbrev vJ:List Str:=["thing"]
theorem mT:ax vJ ["thing"] (aj jx):=fsc
noncomputable abbrev vP:List Str:=["thing"]
theorem mf:ax vP ["thing"] (aj jG):=fsc
noncomputable abbrev iF:List Str:=["thing"]
theorem kC:ax iF ["thing"] (aj fj):=fsc
noncomputable abbrev nr:List Str:=["pairs","mark","reached","at","low","high"]
theorem gB:ax nr ["pairs","mark"] (aj dS):=fsc
noncomputable abbrev v7:List Str:=["order","one","other"]
theorem lN:ax v7 ["order","one","other"] (aj jW):=fsc
noncomputable abbrev wG:List Str:=["thing"]
theorem mv:ax wG ["thing"] (aj jL):=fsc
noncomputable abbrev vC:List Str:=["thing"]
theorem lZ:ax vC ["thing"] (aj jv):=fsc
noncomputable abbrev lh:List Str:=["thing"]
theorem nX:ax lh ["thing"] (aj iU):=fsc
noncomputable abbrev pB:List Str:=["order","turn","one","other"]
theorem jb:ax pB ["order","turn","one","other"] (aj gk):=fsc
noncomputable abbrev yf:List Str:=["order","one","other"]
theorem nY:ax yf ["order","one","other"] (aj lg):=fsc
noncomputable abbrev qI:List Str:=["things"]
theorem jf:ax qI ["things"] (aj fS):=fsc
noncomputable abbrev wt:List Str:=["thing"]
theorem mI:ax wt ["thing"] (aj jz):=fsc
noncomputable abbrev gP:List Str:=["thing"]
theorem jY:ax gP ["thing"] (aj dY):=fsc
noncomputable abbrev vA:List Str:=["thing"]
theorem kO:ax vA ["thing"] (aj iA):=fsc
noncomputable abbrev bY:List Str:=["thing"]
theorem ie:ax bY ["thing"] (aj cH):=fsc
noncomputable abbrev qf:List Str:=["thing"]
theorem jj:ax qf ["thing"] (aj gj):=fsc
noncomputable abbrev fA:List Str:=["lexicon"]
theorem kX:ax fA ["lexicon"] (aj ft):=fsc
noncomputable abbrev ut:List Str:=["lexicon","thing"]
theorem kL:ax ut ["lexicon","thing"] (aj iW):=fsc
noncomputable abbrev u6:List Str:=["lexicon","word"]
theorem kU:ax u6 ["lexicon","word"] (aj iP):=fsc
noncomputable abbrev iG:List Str:=["lexicon","words","word"]
theorem di:ax iG ["lexicon","words"] (aj cw):=fsc
noncomputable abbrev bw:List Str:=["lexicon","order","goal","entries","in_order","in_kinds"]
theorem kG:ax bw ["lexicon"] (aj dv):=fsc
noncomputable abbrev qP:List Str:=["lexicon"]
theorem i7:ax qP ["lexicon"] (aj fV):=fsc
noncomputable abbrev ko:List Str:=["lexicon","words","kinds","number","word"]
theorem eG:ax ko ["lexicon","words"] (aj c7):=fsc
noncomputable abbrev cj:List Str:=["kinds"]
theorem jC:ax cj ["kinds"] (aj eh):=fsc
noncomputable abbrev qy:List Str:=["kinds"]
theorem iY:ax qy ["kinds"] (aj fJ):=fsc
noncomputable abbrev oW:List Str:=["kinds","place","number","kind","at","row"]
theorem ik:ax oW ["kinds","place"] (aj eW):=fsc
noncomputable abbrev pD:List Str:=["place","number","kind","at"]
theorem iZ:ax pD ["place"] (aj fF):=fsc
noncomputable abbrev dH:List Str:=["kinds","place","number"]
theorem fX:ax dH ["kinds","place"] (aj cO):=fsc
noncomputable abbrev vd:List Str:=["lexicon","words"]
theorem kF:ax vd ["lexicon","words"] (aj iD):=fsc
noncomputable abbrev qA:List Str:=["order","sign","other"]
theorem ji:ax qA ["order","sign","other"] (aj gq):=fsc
noncomputable abbrev bZ:List Str:=["order","chart","place","sign"]
theorem ib:ax bZ ["order","chart","place"] (aj cG):=fsc
noncomputable abbrev oN:List Str:=["chart","place","counts","mate","onward","inner","end","count"]
theorem ij:ax oN ["chart","place"] (aj fb):=fsc
noncomputable abbrev m7:List Str:=["chart"]
theorem gF:ax m7 ["chart"] (aj dW):=fsc
noncomputable abbrev CB:List Str:=["lexicon","words"]
theorem ue:ax CB ["lexicon","words"] (aj pJ):=fsc
noncomputable abbrev oV:List Str:=["lexicon","words"]
theorem iq:ax oV ["lexicon","words"] (aj eY):=fsc
noncomputable abbrev nR:List Str:=["lexicon","entries","changed"]
theorem gE:ax nR ["lexicon","entries"] (aj dU):=fsc
noncomputable abbrev ym:List Str:=["lexicon","word","kinds","entry","entries","at"]
theorem n6:ax ym ["lexicon","word","kinds"] (aj lC):=fsc
noncomputable abbrev bv:List Str:=["lexicon","word","book","row"]
theorem ck:ax bv ["lexicon","word","book"] (aj bc):=fsc
noncomputable abbrev mB:List Str:=["lexicon","book","row"]
theorem fR:ax mB ["lexicon","book"] (aj dF):=fsc
noncomputable abbrev dR:List Str:=["lexicon","word","book","size","signs","many_signs","kinds"]
theorem oz:ax dR ["lexicon","word","book","size"] (aj gc):=fsc
noncomputable abbrev CY:List Str:=["_law_script","_law_place"]
theorem ub:ax CY ["_law_script","_law_place"] (aj pO):=fsc
noncomputable abbrev BU:List Str:=["_law_cell_here","_law_rest","_law_one"]
theorem tu:ax BU ["_law_cell_here"] (aj rC):=fsc
noncomputable abbrev Cf:List Str:=["_law_pool_here","_law_amount","_law_found"]
theorem sR:ax Cf ["_law_pool_here","_law_amount"] (aj qM):=fsc
noncomputable abbrev gg:List Str:=["_law_pool_here","_law_known","_law_letters","_law_word_here","_law_some"]
theorem tN:ax gg ["_law_pool_here","_law_known"] (aj iw):=fsc
noncomputable abbrev rA:List Str:=["_law_pool_here","_law_amount","_law_found","_law_k"]
theorem i6:ax rA ["_law_pool_here","_law_amount"] (aj fL):=fsc
noncomputable abbrev AE:List Str:=["_law_pool_here","_law_marks_here","_law_most","_law_found","_law_k","_law_low"]
theorem rf:ax AE ["_law_pool_here","_law_marks_here","_law_most"] (aj nM):=fsc
noncomputable abbrev j0:List Str:=["_law_order_here","_law_one","_law_other","_law_found","_law_turn"]
theorem mD:ax j0 ["_law_order_here","_law_one","_law_other"] (aj gG):=fsc
noncomputable abbrev AD:List Str:=["_law_pool_here","_law_marks_here","_law_most","_law_signs","_law_turns","_law_found","_law_k","_law_row","_law_j","_law_mark"]
theorem pN:ax AD ["_law_pool_here","_law_marks_here","_law_most","_law_signs","_law_turns"] (aj nL):=fsc
noncomputable abbrev jX:List Str:=["_law_pool_here","_law_marks_here","_law_words","_law_signs","_law_order_here","_law_goal","_law_entries","_law_word_here","_law_kinds_here"]
theorem mM:ax jX ["_law_pool_here","_law_marks_here","_law_words","_law_signs"] (aj gC):=fsc
noncomputable abbrev v9:List Str:=["_law_order_here","_law_one","_law_other"]
theorem mO:ax v9 ["_law_order_here","_law_one","_law_other"] (aj jU):=fsc
noncomputable abbrev yi:List Str:=["_law_order_here","_law_row","_law_amount","_law_good","_law_i","_law_size","_law_k"]
theorem ox:ax yi ["_law_order_here","_law_row"] (aj lA):=fsc
noncomputable abbrev cA:List Str:=["_law_lexicon_here","_law_words","_law_rows_here","_law_word_here","_law_longer","_law_one","_law_kinds_here","_law_kind"]
theorem gX:ax cA ["_law_lexicon_here","_law_words"] (aj cJ):=fsc
noncomputable abbrev pQ:List Str:=["_law_words","_law_length","_law_found","_law_turn","_law_longer","_law_row"]
theorem tV:ax pQ ["_law_words","_law_length"] (aj lS):=fsc
noncomputable abbrev fM:List Str:=["_law_lexicon_here","_law_word_here","_law_kind","_law_order_here","_law_goal","_law_entries"]
theorem sS:ax fM ["_law_lexicon_here","_law_word_here","_law_kind"] (aj jO):=fsc
noncomputable abbrev fG:List Str:=["_law_marks_here","_law_size","_law_signs","_law_mark","_law_found","_law_turn","_law_longer","_law_row"]
theorem jc:ax fG ["_law_marks_here","_law_size"] (aj dA):=fsc
noncomputable abbrev fO:List Str:=["_law_pool_here","_law_lexicon_here","_law_word_here","_law_words","_law_rows_here","_law_hidden","_law_more","_law_good","_law_found","_law_every"]
theorem tW:ax fO ["_law_pool_here","_law_lexicon_here","_law_word_here","_law_words"] (aj il):=fsc
noncomputable abbrev j6:List Str:=["_law_lexicon_here","_law_found","_law_pair","_law_word_here","_law_kinds_here","_law_row"]
theorem qC:ax j6 ["_law_lexicon_here"] (aj kf):=fsc
noncomputable abbrev um:List Str:=["_law_lexicon_here","_law_word_here","_law_book_here","_law_size","_law_amount","_law_found","_law_kind","_law_more"]
theorem xB:ax um ["_law_lexicon_here","_law_word_here","_law_book_here","_law_size"] (aj oZ):=fsc
noncomputable abbrev Kx:List Str:=["_law_script","_law_pool_here","_law_marks_here","_law_words","_law_lexicon_here","_law_word_here","_law_book_here","_law_size","_law_due_here","_law_found"]
theorem DF:ax Kx ["_law_script"] (aj Cw):=fsc
noncomputable abbrev Bm:List Str:=["self","order","kinds","place"]
theorem qE:ax Bm ["self","order","kinds"] (aj nT):=fsc
structure mN(K:u8) (C:O1):Prop where
 c:Cls K C
 n_kinds:eN K C "kinds"
 n_end:eN K C "end"
 n_steps:eN K C "steps"
 n_counts:eN K C "counts"
structure Txt(K:u8) (mg:Str->Option M0):Prop where
 g_START:Cd K mg "START" [.inl (-1),.inl (0),.inl (0)]
 g_TURNS:Cd K mg "TURNS" [.inl (-1),.inl (0),.inl (1)]
 b_isinstance:mg "isinstance"=none
 b_int:mg "int"=none
 b_bool:mg "bool"=none
 b_tuple:mg "tuple"=none
 b_len:mg "len"=none
 b_str:mg "str"=none
 b_all:mg "all"=none
 b_range:mg "range"=none
 b_set:mg "set"=none
 b_sorted:mg "sorted"=none
 b_enumerate:mg "enumerate"=none
 b_max:mg "max"=none
 b_list:mg "list"=none
 b_abs:mg "abs"=none
 b_any:mg "any"=none
 b_reversed:mg "reversed"=none
 g_SMALL_LETTERS:∃t,mg "SMALL_LETTERS"=some (.str "abcdefghijklmnopqrstuvwxyz" t)
 g_MOST_LETTERS:∃t,mg "MOST_LETTERS"=some (.int 8 t)
 g_MOST_PAIRS:∃t,mg "MOST_PAIRS"=some (.int 8 t)
 g_MOST_TURN:∃t,mg "MOST_TURN"=some (.int 99 t)
 g_MOST_ENTRIES:∃t,mg "MOST_ENTRIES"=some (.int 10 t)
 g_MOST_KINDS:∃t,mg "MOST_KINDS"=some (.int 4 t)
 g_MOST_SIGNS:∃t,mg "MOST_SIGNS"=some (.int 5 t)
set_option hygiene false in
local macro_rules|`(tactic| walk_at"")=>do
 let a:=("dST dLS Mp B7 Gd Gf KZ Ga Co Gz Ak yP DV BM DP Dp Gp ER B8 CH Gx CT zC G3 vh mR bN dC Fl Da FO GL Gr dOp dUn rS Kq CI Gm dCB cE fk BX Ge vX Lu Du vW K5 KU KM dIf jg yk yS gK DC Ka J1 Gg yn C7 Cj Il dDT CO FL Ac Gw DL HD.dKr.injEq HD.dT.injEq HD.dK.injEq JS JE Hy Hm Dj uM C5 Gc dLc FM Lp En Hj Ed FP EE EF El Fd II Eb Fv Eh fq JG K7 K4 CU GG K6 CN HY Jv Ht Hz Hh HI HS Hc G2 JA IB Lj Lg Lb Le Io G1 J8 K3 JU D2 B2 DW C9 J0 K9 J5 K1 Ld Lm Ko GR E9 Av Jj aq aF k9 N5 an0 at0 P1 O2 V5 R7 List.set_cons_zero List.set_cons_succ al0 ab4 ar4 exists_eq_left' exists_eq_left D.int.injEq D.bl.injEq D.str.injEq D.ref.injEq D.tup.injEq D.lst.injEq true_and and_true if_true decide_eq_true_eq exists_and_left as6 Nat.reduceAdd Nat.reduceSub Kf GA BQ Ln HD.lst.injEq af5 or_true true_or and_self Int.reduceLT Int.reduceLE Int.reducePow Int.reduceNeg Int.reduceToNat Nat.reducePow Nat.reduceLT Nat.reduceLeDiff Int.reduceAdd Int.reduceMul Int.reduceSub N9 Bool.true_eq_false if_false".splitOn " ").toArray.map fun s=>Lean.mkIdent s.toName
 `(tactic| simp only[↓reduceIte,$[$a:term],*])
section
variable{P:Q7}{w:U9}{K:u8}{I:Str->Option M0}{base:Q9}{f:O1}{Y:P5}
noncomputable def aJ(x:Str×Str):D:=.tup [.str x.1,.str x.2]
theorem lV{a:List Str}{v:Int}(h0:0<=v)(e:v<(a.length:Int)):∃m∈a,atI (a.map D.str) v=some (.str m):=by
 obtain⟨n,rfl⟩:=Z0 h0;have c:n<a.length:=by lia
 exact⟨a[n],V0 c,cf (by simp[c])⟩
theorem cp{M:DH}{p q:O1}{a b:HD}(h:p≠q):ay (ay M p a) q b=ay (ay M q b) p a:=by
 funext c;unfold ay
 by_cases f:c=q
 ·subst f;simp[aa3 h]
 ·by_cases e:c=p
  ·subst e;simp[h]
  ·simp[f,e]
theorem yK{xs:List D}{n:Nat}:L2.cZ xs none (some (n:Int))=xs.take n:=by
 unfold L2.cZ;rw[HT.sIx_none,HT.sIx_nat,ao6,Nat.sub_zero]
 by_cases h:n<=xs.length
 ·rw[ak1 h]
 ·rw[Nat.min_eq_right (by lia),S6,ae0 (by lia)]
theorem pE{xs:List D}{n:Nat}:L2.cZ xs (some (n:Int)) none=xs.drop n:=by
 unfold L2.cZ;rw[HT.sIx_none,HT.sIx_nat]
 by_cases h:n<=xs.length
 ·rw[ak1 h,ae0 (by simp)]
 ·rw[Nat.min_eq_right (by lia),ax7,av2,List.drop_of_length_le (by lia)]
theorem bT{lo:Int}{n:Nat}:(jm lo n).length=n:=by simp[jm]
inductive dI (ord:List (Str×Str)) (a:Str):Str->Prop
 |refl:dI ord a a
 |step {b c:Str}:dI ord a b->(b,c)∈ord->dI ord a c
theorem xh{ord:List (Str×Str)}{a x:Str}{L:List Str}(h0:a∈L)(e:∀y∈ord,y.1∈L->y.2∈L)(h:dI ord a x):x∈L:=by
 induction h with
 |refl=>exact h0
 |step _ c ih=>exact e _ c ih
def gW:SpD:=λc M R=>∃(ord:List (Str×Str)) (a:Str),c=[.tup (ord.map aJ),.str a]/\ord.length<=500 /\
 ∀L:List Str,a∈L->(∀y∈ord,y.1∈L->y.2∈L)->(∀x∈L,dI ord a x)->L.length<=ord.length+1->R (.lst (L.map .str)) M
abbrev tIn:TSd:=Fl (CI (rS (dOp eqF (bN 4) (dOp ixD (bN 2) (bN 3)))) (rS (dOp (inE true) (bN 5) (bN 2)))) (vW (Du (bN 2) (bN 5))) Da
theorem kl{q:O1}{E:fZ}{M:DH}(N:M q=none)(ps:D)(a:Str)(ord:List (Str×Str))(g:ord.length<=500)(i:Nat)(j:List Str)(J:i<j.length):∀(e done:List (Str×Str)) (I G:Option D) (L:List Str),ord=done++e->(∃t,L=j++t)->L.Nodup->(∀x∈L,dI ord a x)->(∀x∈L,x∈a::ord.map (·.2))->(∀y∈done,y.1=j[i]->y.2∈L) ->
  (∀(Z X:Option D) (p:List Str),(∃t,p=j++t)->p.Nodup->(∀x∈p,dI ord a x)->(∀x∈p,x∈a::ord.map (·.2))->(∀y∈ord,y.1=j[i]->y.2∈p)->E.nx [some ps,some (.str a),some (.ref q),some (.int i),Z,X] (ay M q (.lst (p.map .str)))) ->
  cy (oh (iO (bV 4) (iO (bV 5) tP)) 2) tIn E (e.map aJ) [some ps,some (.str a),some (.ref q),some (.int i),I,G] (ay M q (.lst (L.map .str)))
 |[],done,I,G,L,H,n,w,o,s,A,k=>by
  simp only[an0,cy];exact k I G L n w o s (by rw[H,aa4];exact A)
 |(b,c)::e,done,I,G,L,H,⟨t,n⟩,w,o,s,A,k=>by
  have z:i<L.length:=by rw[n];simp;lia
  have S:L[i]=j[i]:=by subst n;simp[J]
  have R:atI (L.map D.str) (i:Int)=some (.str L[i]):=cf (by simp[z]);have bp:L.length<=ord.length+1:=by
   have:=fE L (a::ord.map (·.2)) w s;simpa using this
  simp only[N5,aJ,cy,oh,iO,bV,tP,at2];refine⟨_,rfl,?_⟩;walk_at"";refine⟨_,R,?_⟩;walk_at"";have m:ord=(done++[(b,c)])++e:=by rw[H];simp
  have l:(b,c)∈ord:=by rw[H];simp
  refine fw (λh=>?_) (λh=>?_)
  ·have P:b=j[i]:=by rw[<-S];simpa using h
   refine⟨_,if_pos ⟨rfl,ip⟩,_,rfl,?_⟩;rw[fP]
   by_cases C:c∈L
   ·simp only[C,decide_true,Bool.xor_true,al1,N9,if_false];exact kl N ps a ord g i j J e (done++[(b,c)]) _ _ L m ⟨t,n⟩ w o s (λy B f=>by
     rcases P0.mp B with h|h
     ·exact A y h f
     ·have:y=(b,c):=by simpa using h
      subst this;exact C) k
   ·simp only[C,decide_false,Bool.xor_false,if_true];refine⟨by rw[s0];exact O4 (by lia:L.length<1000) (sz3 1000),?_⟩;have T:L.map D.str++[D.str c]=(L++[c]).map D.str:=by simp
    rw[T];refine kl N ps a ord g i j J e (done++[(b,c)]) _ _ (L++[c]) m ⟨t++[c],by rw[n];simp⟩ ?_ (λx Q=>?_) (λx Q=>?_) (λy B f=>?_) k
    ·rw[ac7];refine⟨w,by simp,λu U v Y=>?_⟩;have:v=c:=by simpa using Y
     subst this;rintro rfl;exact C U
    ·rcases P0.mp Q with h|h
     ·exact o x h
     ·have:x=c:=by simpa using h
      subst this;exact dI.step (o b (by rw[P,<-S];exact V0 z)) l
    ·rcases P0.mp Q with h|h
     ·exact s x h
     ·have:x=c:=by simpa using h
      subst this;exact S7 _ (P4.mpr ⟨_,l,rfl⟩)
    ·rcases P0.mp B with h|h
     ·exact ab5 _ (A y h f)
     ·have:y=(b,c):=by simpa using h
      subst this;simp
  ·exact kl N ps a ord g i j J e (done++[(b,c)]) _ _ L m ⟨t,n⟩ w o s (λy B f=>by
    rcases P0.mp B with O|O
    ·exact A y O f
    ·have:y=(b,c):=by simpa using O
     subst this;exact absurd (by rw[S];simpa using f) h) k
theorem mh(F:Fun K "reached_from" "reached_from" dS f Y)(T:Txt K I):aV P w K I base CX0 1 f Y ["pairs","mark"] (spD K 2 gW):=by
 have l:=gB.nd;refine F.okR rfl gB (λa0 A p s H E hr=>⟨_,(ak (aK (i:=2) l rfl (R8 rfl) (iK (ae (aa 1) ah)))
   (ak (aK (i:=3) l rfl (R8 rfl) am)
   (ak (FY Q5 (bz Hk (aa 3) (aU cM rfl T.b_len (by kernel_rfl) (ae (aa 2) ah)) nbh) (ak (bH Q5 rfl (aM (aa 0)) (kQ rfl (bG (aI (i:=4) l rfl (R8 rfl)) (bG (aI (i:=5) l rfl (R8 rfl)) kE))) (ao (cV (yI (ur (bz (mm hr.units) (aa 4) (aZ a7 (aa 2) (aa 3) (λ_ _=>rfl)) nbh) (vm (bz ma (aa 5) (aa 2) rfl)))) (ao (gb (og (aa 2) (aa 5)))) bW)))
   (ao (JX (i:=3) l rfl (R8 rfl) am Hw))))
   (ao (yD (aa 2)))))),λds M R _ hS bk=>?_⟩)
 obtain⟨ord,a,rfl,ho,k⟩:=hS;refine bk ?_;clear bk;walk_at"";refine⟨sz3 1,λq Z=>?_⟩;refine⟨λm Δ X=>∃(i:Nat) (L:List Str) (z o:Option D),Δ=[some (D.tup (ord.map aJ)),some (D.str a),some (D.ref q),some (D.int i),z,o]/\X=ay M q (.lst (L.map .str))/\i<=L.length/\L.Nodup/\a∈L/\(∀x∈L,dI ord a x)/\(∀x∈L,x∈a::ord.map (·.2))/\(∀y∈ord,∀j,j<i->L[j]?=some y.1->y.2∈L)/\m=ord.length+1-i,
  ⟨_,0,[a],none,none,rfl,rfl,O3 _,by simp,by simp,λx S=>by
   have:x=a:=by simpa using S
   subst this;exact dI.refl,λx S=>by
   have:x=a:=by simpa using S
   subst this;simp,λy _ j n=>absurd n (by lia),rfl⟩,?_⟩
 intro m Δ X hI;refine shr λ_ bk=>?_;obtain⟨i,L,z,o,rfl,rfl,a1,hn,ha,U,hb,hp,rfl⟩:=hI;refine bk ?_;clear bk;have bp:L.length<=ord.length+1:=by
  have:=fE L (a::ord.map (·.2)) hn hb;simpa using this
 walk_at"";rw[s0];refine fw (λh=>?_) (λh=>?_)
 ·have J:i<L.length:=by lia
  intro hz;refine kl Z _ a ord ho i L J ord [] z o L rfl ⟨[],by simp⟩ hn U hb (λy g=>absurd g (by simp)) (λy4 y5 L' B O u C N=>?_);obtain⟨t,rfl⟩:=B;walk_at"";refine⟨ord.length+1-(i+1),by lia,i+1,L++t,y4,y5,?_,rfl,by simp;lia,O,ab5 _ ha,u,C,λy g j n c=>?_,rfl⟩
  ·simp
  ·by_cases Q:j=i
   ·subst Q;refine N y g ?_;rw[V7 J,N0 J]at c;exact(T4 c).symm
   ·rw[V7 (by exact O4 (by assumption) (by assumption))]at c;exact ab5 _ (hp y g j (by lia) c)
 ·rw[ju Z];refine k L ha (λy g G=>?_) U bp;obtain⟨j,n,e⟩:=ad6.mp G;exact hp y g j (by lia) (by rw[N0 n,e])
noncomputable def aD(x:Str×Int):D:=.tup [.str x.1,.int x.2]
theorem va{c:Type}{f:c->D}(e:∀x y,f x=f y->x=y):∀{xs a:List c},xs.map f=a.map f->xs=a
 |[],[],_=>rfl
 |[],_::_,h=>by simp at h
 |_::_,[],h=>by simp at h
 |x::xs,y::a,h=>by
  simp only[N5,af5]at h;rw[e _ _ h.1,va e h.2]
theorem tG:∀x y,aJ x=aJ y->x=y:=λ⟨a,b⟩ ⟨c,d⟩ h=>by simpa[aJ]using h
def zZ(ord:List (Str×Str))(t:Int)(a b:Str):Prop:=if t % 2=0 then dI ord a b else dI ord b a
open Classical in
def rB(ord:List (Str×Str))(a b:Str):Bool:=decide (dI ord a b)
open Classical in
def lB(ord:List (Str×Str))(t:Int)(a b:Str):Bool:=decide (zZ ord t a b)
theorem uH{ord:List (Str×Str)}{a b:Str}:rB ord a b=true↔dI ord a b:=by simp[rB]
theorem D3{ord:List (Str×Str)}{t:Int}{a b:Str}:lB ord t a b=true↔zZ ord t a b:=by simp[lB]
theorem zh{ord:List (Str×Str)}{t:Int}{a b:Str}(h:t % 2=0):lB ord t a b=rB ord a b:=by rw[W0,D3,uH,zZ,if_pos h]
theorem D9{ord:List (Str×Str)}{t:Int}{a b:Str}(h:¬ t % 2=0):lB ord t a b=rB ord b a:=by rw[W0,D3,uH,zZ,if_neg h]
def gI:SpD:=λc M R=>∃(ord:List (Str×Str)) (a b:Str),c=[.tup (ord.map aJ),.str a,.str b]/\ord.length<=500/\R (.bl (rB ord a b)) M
def gy:SpD:=λc M R=>∃(ord:List (Str×Str)) (t:Int) (a b:Str),c=[.tup (ord.map aJ),.int t,.str a,.str b]/\ord.length<=500/\R (.bl (lB ord t a b)) M
def qD:SpD:=λa M R=>∃(ord:List (Str×Str)) (x y:Str×Int),a=[.tup (ord.map aJ),aD x,aD y]/\ord.length<=500/\R (.bl (x.2+1==y.2&&lB ord x.2 x.1 y.1)) M
theorem r8{ord:List (Str×Str)}{a b:Str}{M:DH}{R:D->DH->Prop}:gI [.tup (ord.map aJ),.str a,.str b] M R↔ord.length<=500/\R (.bl (rB ord a b)) M :=
 ⟨λ⟨o,c,d,e,g,i⟩=>by
  simp only[af5,D.tup.injEq,D.str.injEq,and_true]at e;obtain⟨l,f,j⟩:=e;rw[va tG l,f,j];exact⟨g,i⟩,λh=>⟨ord,a,b,rfl,h⟩⟩
theorem nt{ord:List (Str×Str)}{t:Int}{a b:Str}{M:DH}{R:D->DH->Prop}:gy [.tup (ord.map aJ),.int t,.str a,.str b] M R↔ord.length<=500/\R (.bl (lB ord t a b)) M :=
 ⟨λ⟨o,u,c,d,e,i,j⟩=>by
  simp only[af5,D.tup.injEq,D.str.injEq,D.int.injEq,and_true]at e;obtain⟨m,g,f,l⟩:=e;rw[va tG m,g,f,l];exact⟨i,j⟩,λh=>⟨ord,t,a,b,rfl,h⟩⟩
theorem uh(F:Fun K "at_most" "at_most" jW f Y)(T:Txt K I)(g:FnD P w K I base "reached_from" 1 2 gW):aV P w K I base CX0 2 f Y ["order","one","other"] (spD K 3 gI):=by
 have x:=lN.nd;refine F.okR rfl lN (λj A c s H E p=>⟨_,(ao (aN (fW pL (aa 2) (qd g p (ae (aa 0) (ae (aa 1) ah))) rfl))),λq M R _ m bk=>?_⟩);obtain⟨ord,a,b,rfl,l,k⟩:=m;refine bk ?_;clear bk;walk_at"";refine⟨ord,a,rfl,l,λL i n o u=>?_⟩;refine⟨_,if_pos ⟨rfl,ip⟩,?_⟩;rw[fP];have e:(false ^^ decide (b∈L))=rB ord a b:=by
  rw[ae9,W0,uH,decide_eq_true_eq];exact⟨λh=>o b h,λh=>xh i n h⟩
 rw[e];exact k
theorem oE(F:Fun K "mark_leads" "mark_leads" gk f Y)(T:Txt K I)(c:FnD P w K I base "at_most" 2 3 gI):aV P w K I base CX0 3 f Y ["order","turn","one","other"] (spD K 4 gy):=by
 have o:=jb.nd;refine F.okR rfl jb (λl A e s H E i=>⟨_,(ak (cV (bz (mm i.units) (aW mK (aa 1) am) am nbh) (ao (aN (qd c i (ae (aa 0) (ae (aa 2) (ae (aa 3) ah)))))) bW)
   (ao (aN (qd c i (ae (aa 0) (ae (aa 3) (ae (aa 2) ah))))))),λn M R _ m bk=>?_⟩)
 obtain⟨ord,t,a,b,rfl,j,k⟩:=m;refine bk ?_;clear bk;walk_at"";simp only[r8];refine fw (λh=>?_) (λh=>?_)
 ·have g:t % 2=0:=by simpa using h
  rw[zh g]at k;exact⟨j,k⟩
 ·have g:¬ t % 2=0:=by simpa using h
  rw[D9 g]at k;exact⟨j,k⟩
theorem we(F:Fun K "cancel" "cancel" lg f Y)(T:Txt K I)(e:FnD P w K I base "mark_leads" 3 4 gy):aV P w K I base CX0 4 f Y ["order","one","other"] (spD K 3 qD):=by
 have n:=nY.nd;refine F.okR rfl nY (λi A c s H E g=>⟨_,(ao (aN (cg (fW (mm g.units) (aW aP (aZ a7 (aa 1) am (λ_ _=>rfl)) am) (aZ a7 (aa 2) am (λ_ _=>rfl)) nbh) (eE (qd e g (ae (aa 0) (ae (aZ a7 (aa 1) am (λ_ _=>rfl)) (ae (aZ a7 (aa 1) am (λ_ _=>rfl)) (ae (aZ a7 (aa 2) am (λ_ _=>rfl)) ah))))))))),λm M R _ l bk=>?_⟩);obtain⟨ord,⟨a,t⟩,⟨b,u⟩,rfl,j,k⟩:=l;refine bk ?_;clear bk;simp only[aD];walk_at"";simp only[nt];refine fw (λh=>?_) (λh=>?_)
 ·simp only[h,Bool.true_and]at k;exact⟨j,k⟩
 ·simp only[h,Bool.false_and]at k;exact k
abbrev Row:=List (Str×Int)
noncomputable def au(r:Row):D:=.tup (r.map aD)
noncomputable def bq(ks:List Row):D:=.tup (ks.map au)
noncomputable def bI(e:Str×List Row):D:=.tup [.str e.1,bq e.2]
noncomputable def bJ(ord:List (Str×Str))(ai:Str)(ag:List (Str×List Row)):D:=.tup [.tup (ord.map aJ),.str ai,.tup (ag.map bI)]
noncomputable def kin(ag:List (Str×List Row))(w:Str):List Row:=(ag.lookup w).getD []
theorem aY{l:Type}{g:GD}{tc:TTd}{te:TEd}{M:DH}{Q:List D->DH->Prop}(enc:l->D)(b:l->Bool)(y:l->D)(Ok:DE->Prop):∀(xs:List l) (f:DE) (c:List D),
  (∀x∈xs,∀ f,Ok f->∃ a,g (enc x) f=some a/\Ok a/\(∀o:Bool->DH->Prop,o (b x) M->tc a M o)/\(b x=true->∀p:D->DH->Prop,p (y x) M->te a M p))->Ok f ->
  Q (c++(xs.filter b).map y) M->cY g tc te (xs.map enc) f M c Q
 |[],f,c,_,_,q=>by simpa[cY]using q
 |x::xs,f,c,h,m,q=>by
  rw[N5];simp only[cY];obtain⟨a,e,j,s,w⟩:=h x (.head _) f m;refine⟨a,e,s _ ?_⟩;have ih:=λi u=>aY (Q:=Q) enc b y Ok xs a i (λz A=>h z (.tail _ A)) j u;cases n:b x with
  |true =>
   simp only[if_true];refine w n _ (ih _ ?_);rw[List.filter_cons_of_pos n]at q;simpa using q
  |false =>
   simp only[N9,if_false];refine ih _ ?_;rw[List.filter_cons_of_neg (by simp[n])]at q;exact q
theorem eC{c:Type}(f:c->D)(e:∀x,dLe (f x) 59=true){a:List c}:cT (a.map f) 59=true:=by
 rw[mF];intro d g;obtain⟨x,_,rfl⟩:=P4.mp g;exact e x
def bF(x:Str):Prop:=1<=x.length/\x.length<=8/\∀c∈x.cps.toList,c∈gU
theorem hJ{c:Type}(l:List c):Bh (.lst (l.map λ_=>D.bl true))=some (.bl true):=by
 have a:(l.map λ_=>D.bl true).all wb=true:=by rw[an2,Z3];intro _ _;rfl
 have e:(l.map λ_=>D.bl true).all wN=true:=by rw[an2,Z3];intro _ _;rfl
 simp only[Bh,a,e,if_true]
def cb:SpD:=λa M R=>∃x:Str,a=[.str x]/\bF x/\R (.bl true) M
theorem lE(F:Fun K "is_short_word" "is_short_word" cL f Y)(T:Txt K I):aV P w K I base CX0 1 f Y ["thing"] (spD K 1 cb):=by
 have G:=gp.nd;refine F.okR rfl gp (λh A e s H E J=>⟨_,(ao (aN (cg (iu (Tn:="str") (by decide) rfl T.b_isinstance rfl T.b_str (by kernel_rfl) (aa 0)) (cg (oY rV rV am (aU cM rfl T.b_len (by kernel_rfl) (ae (aa 0) ah)) (gf rfl T.g_MOST_LETTERS)) (eE (aU (sV rfl) rfl T.b_all (by kernel_rfl) (ae (eR (ms:=[false]) (ar:=["letter"]) (aE (n0:=0) rfl (show aS (aj cL) du _ _=true from by decide +kernel)) rfl (aM (aa 0)) (aC (i:=1) (show(du++_).Nodup from by decide +kernel) rfl rfl) (λ_ _ _ _=>bh) (λ_ _ _ _=>(fW pL (aa 1) (DT rfl T.g_SMALL_LETTERS) rfl))) ah))))))),λu M R _ j bk=>?_⟩);obtain⟨x,rfl,⟨z,B,m⟩,k⟩:=j;refine bk ?_;clear bk;walk_at"";refine⟨true,rfl,?_⟩;walk_at"";refine⟨_,if_pos (szB _ (by exact N3 (by assumption) (by decide))),true,?_,?_⟩
 ·show some (D.bl (decide ((1:Int)<=(x.length:Int))))=_;rw[decide_eq_true (by lia)]
 rw[if_pos rfl];refine⟨_,rfl,true,?_,?_⟩
 ·rw[decide_eq_true (by lia)]
 rw[if_pos rfl];refine⟨_,if_pos (szB _ (by exact N3 (by assumption) (by decide))),λn=>⟨n,?_⟩⟩;refine aY (λ(c:Nat)=>D.str (tx [c])) (λ_=>true) (λ_=>D.bl true) (λg=>∃x,g=[none,x]) x.cps.toList _ _ (λc l g a=>?_) ⟨none,rfl⟩ ?_
 ·obtain⟨o,rfl⟩:=a;refine⟨_,rfl,⟨_,rfl⟩,λp q=>q,λ_ C q=>?_⟩;walk_at"";simp only[GR,ar4,exists_eq_left',ae9];rw[show(ab6 "abcdefghijklmnopqrstuvwxyz")=abc from rfl,qk,gH,decide_eq_true (m c l)];exact q
 ·rw[P1,U0.mpr (λ_ _=>rfl)];exact⟨_,hJ _,k⟩
def fo:SpD:=λc M R=>∃(ord:List (Str×Str)) (f:Str) (a:List (Str×List Row)),c=[bJ ord f a]/\a.length<=8/\R (.lst (a.map λe=>D.str e.1)) M
theorem sj(F:Fun K "words_of" "words_of" ft f Y)(T:Txt K I):aV P w K I base CX0 1 f Y ["lexicon"] (spD K 1 fo):=by
 have G:=kX.nd;refine F.okR rfl kX (λh A c s H E J=>⟨_,(ao (aN (eR (ms:=[false]) (ar:=["word","kinds"]) (aE (n0:=0) rfl (show aS (aj ft) fA _ _=true from by decide +kernel)) rfl (aM (aZ a7 (aa 0) am (λ_ _=>rfl))) (gS (n:=2) rfl (bC (aC (i:=1) (show(fA++_).Nodup from by decide +kernel) rfl rfl) (bC (aC (i:=2) (show(fA++_).Nodup from by decide +kernel) rfl rfl) gR))) (λ_ _ _ _=>bh) (λ_ _ _ _=>(aa 1))))),λp M R _ j bk=>?_⟩);obtain⟨ord,u,l,rfl,B,k⟩:=j;refine bk ?_;clear bk;simp only[bJ];walk_at"";refine λm=>⟨m,?_⟩;refine aY bI (λ_=>true) (λe=>D.str e.1) (λg=>∃x y,g=[none,x,y]) l _ _ (λe z g a=>?_) ⟨none,none,rfl⟩ ?_
 ·obtain⟨x,y,rfl⟩:=a;refine⟨_,rfl,⟨_,_,rfl⟩,λo q=>q,λ_ C q=>?_⟩;walk_at"";exact q
 ·rw[P1,U0.mpr (λ_ _=>rfl)];exact k
theorem zT{w:Str}{ag:List (Str×List Row)}:((ag.map λe=>D.str e.1).any λd=>eqD d (.str w))=decide (w∈ag.map (·.1)):=by
 rw[W0,as7,ab0,decide_eq_true_eq,P4];constructor
 ·rintro⟨e,a,h⟩;exact⟨e,a,by simpa[eqD]using h⟩
 ·rintro⟨e,a,h⟩;exact⟨e,a,by simp[eqD,h]⟩
theorem sN{ag:List (Str×List Row)}:(ag.map λe=>D.str e.1).all bD=true:=by rw[an2,Z3];intro _ _;rfl
def iI:SpD:=λc M R=>∃(ord:List (Str×Str)) (e:Str) (a:List (Str×List Row)) (w:Str),c=[bJ ord e a,.str w]/\a.length<=8/\bF w/\R (.bl (decide (w∈a.map (·.1)))) M
theorem sk(F:Fun K "has_word" "has_word" iW f Y)(T:Txt K I)(m:FnD P w K I base "is_short_word" 1 1 cb)(j:FnD P w K I base "words_of" 1 1 fo):aV P w K I base CX0 2 f Y ["lexicon","thing"] (spD K 2 iI):=by
 have o:=kL.nd;refine F.okR rfl kL (λe A a s H E c=>⟨_,(ao (aN (cg (qd m c (ae (aa 1) ah)) (eE (fW pL (aa 1) (qd j c (ae (aa 0) ah)) rfl))))),λn M R _ g bk=>?_⟩);obtain⟨ord,i,h,w,rfl,l,ok,k⟩:=g;refine bk ?_;clear bk;walk_at"";refine⟨w,rfl,ok,_,rfl,?_⟩;rw[if_pos rfl];refine⟨ord,i,h,rfl,l,?_⟩;walk_at"";refine⟨_,if_pos ⟨rfl,sN⟩,?_⟩;rw[zT,ae9];exact k
theorem BP{w:Str}:∀{ag:List (Str×List Row)},ag.length<2 ^ 62->w∈ag.map (·.1)->∃j e,ui (ag.map λe=>D.str e.1) (.str w)=some j/\ag[j]?=some e/\e.2=kin ag w:=by
 intro ag n c;have m:cT (ag.map λe=>D.str e.1) 59=true:=eC _ λ_=>rfl;have i:dLe (.str w) 59=true:=rfl;unfold ui;rw[if_pos ⟨i,m,by rw[s0];exact n⟩];clear m i n
 induction ag with
 |nil=>cases c
 |cons e l ih =>
  obtain⟨a,u⟩:=e;rw[N5,List.findIdx?_cons]
  by_cases h:a=w
  ·subst h;exact⟨0,_,by simp[eqD],rfl,by simp[kin]⟩
  ·have f:eqD (.str a) (.str w)=false:=by simp[eqD,h]
   have g:w∈l.map (·.1):=by
    rw[N5]at c;rcases O9.mp c with q|q
    ·exact absurd q.symm h
    ·exact q
   obtain⟨j,e,s,p,o⟩:=ih g;refine⟨j+1,e,?_,by rw[ab4];exact p,?_⟩
   ·simp only[f,N9,if_false];rw[s];rfl
   ·rw[o];unfold kin;rw[V3];have:(w==a)=false:=by simpa using λq:w=a=>h q.symm
    rw[this]
def iS:SpD:=λc M R=>∃(ord:List (Str×Str)) (e:Str) (a:List (Str×List Row)) (w:Str),c=[bJ ord e a,.str w]/\a.length<=8/\w∈a.map (·.1)/\bF w/\R (bq (kin a w)) M
theorem sA(F:Fun K "kinds_of" "kinds_of" iP f Y)(T:Txt K I)(g:FnD P w K I base "has_word" 2 2 iI)(u:FnD P w K I base "words_of" 1 1 fo):aV P w K I base CX0 3 f Y ["lexicon","word"] (spD K 2 iS):=by
 have B:=kU.nd;refine F.okR rfl kU (λp A a s H E h=>⟨_,(ak (cV (qq (dP (qd g h (ae (aa 0) (ae (aa 1) ah))))) (ao zo) bW)
   (ao (aN (aZ a7 (aZ a7 (aZ a7 (aa 0) am (λ_ _=>rfl)) (Cs h.units (qd u h (ae (aa 0) ah)) (aa 1)) (λ_ _=>rfl)) am (λ_ _=>rfl))))),λz M R _ q bk=>?_⟩)
 obtain⟨ord,m,l,w,rfl,c,i,ok,k⟩:=q;refine bk ?_;clear bk;walk_at"";refine⟨ord,m,l,w,rfl,c,ok,_,rfl,?_⟩;simp only[bJ];rw[decide_eq_true i,if_neg (by simp)];walk_at"";refine⟨ord,m,l,rfl,c,⟨_,rfl⟩,_,rfl,?_⟩;obtain⟨j,e,n,x,o⟩:=BP (am5 c (by decide)) i;refine⟨j,n,?_⟩;refine⟨_,cf (by rw[Q6,x];rfl),?_⟩;simp only[bI];walk_at"";rw[o];exact k
def jF:SpD:=λe M R=>∃(ord:List (Str×Str)) (a:Str) (c:List (Str×List Row)),e=[bJ ord a c]/\R (au [(a,1)]) M
theorem oB(F:Fun K "goals_wish" "goals_wish" fV f Y)(T:Txt K I):aV P w K I base CX0 1 f Y ["lexicon"] (spD K 1 jF):=by
 have j:=i7.nd;refine F.okR rfl i7 (λc A a s H E l=>⟨_,(ao (aN (bt (ae (bt (ae (aZ a7 (aa 0) am (λ_ _=>rfl)) (ae am ah))) ah)))),λg M R _ e bk=>?_⟩);obtain⟨ord,i,h,rfl,k⟩:=e;refine bk ?_;clear bk;simp only[bJ];walk_at"";exact⟨sz3 2,sz3 1,k⟩
abbrev KD:=List (Int×List Row)
abbrev Pl:=Int×Int×Int
def plD(p:Pl):D:=rT [.inl p.1,.inl p.2.1,.inl p.2.2]
noncomputable def kdP(kd:KD):List (Key×D):=kd.map λp=>(.inl p.1,.tup (p.2.map au))
noncomputable def kdD(kd:KD):D:=vk (kdP kd)
noncomputable def look(kd:KD)(n:Int):Option (List Row):=(kd.find? λp=>decide (p.1=n)).map (·.2)
theorem yo{n:Int}:∀{kd:KD},bM (kdP kd) (.inl n)=(look kd n).map λrs=>.tup (rs.map au)
 |[]=>rfl
 |p::kd=>by
  by_cases h:p.1=n
  ·have:bM (kdP (p::kd)) (.inl n)=some (.tup (p.2.map au)):=cF (by show am7 p.1=_;rw[h]);rw[this];simp[look,h]
  ·have e:bM (kdP (p::kd)) (.inl n)=bM (kdP kd) (.inl n):=cz (λz=>h (by injection z));rw[e,yo (kd:=kd)];simp[look,h]
theorem xW{M:DH}{kd:KD}:asK M (kdD kd)=some (kdP kd):=BW
theorem HG{p:Pl}:plD p=.box .key [.int p.1,.int p.2.1,.int p.2.2]:=rfl
theorem C6{p:Pl}{P:List D->Prop}:(∃ds,plD p=.box .key ds/\P ds)↔P [.int p.1,.int p.2.1,.int p.2.2] :=
 ⟨λ⟨ds,e,h⟩=>by rw[HG]at e;injection e with _ e;rw[e];exact h,λh=>⟨_,rfl,h⟩⟩
def jH:SpD:=λa M R=>∃p:Pl,a=[plD p]/\R (plD (p.1,p.2.1,p.2.2+1)) M
theorem oP(F:Fun K "next_place" "next_place" fF f Y)(T:Txt K I):aV P w K I base CX0 1 f Y ["place"] (spD K 1 jH):=by
 have c:=iZ.nd;refine F.okR rfl iZ (λe A a s H E j=>⟨_,(ak (zr (CZ (aa 0)) (kQ rfl (bG (aI (i:=1) c rfl (R8 rfl)) (bG (aI (i:=2) c rfl (R8 rfl)) (bG (aI (i:=3) c rfl (R8 rfl)) kE)))))
   (ao (aN (Ae (ae (aa 1) (ae (aa 2) (ae (aW aP (aa 3) am) ah))))))),λh M R _ g bk=>?_⟩)
 obtain⟨p,rfl,k⟩:=g;refine bk ?_;clear bk;walk_at"";simp only[C6,oh,iO,bV,tP,at2];refine⟨_,if_pos rfl,?_⟩;exact⟨_,rfl,_,rfl,_,rfl,_,rfl,by rw[O7];decide,k⟩
theorem mV{kd:KD}{n:Int}{rs:List Row}(h:look kd n=some rs):(n,rs)∈kd:=by
 obtain⟨p,a,e⟩:=Option.map_eq_some_iff.mp h;have c:=List.find?_some a;have f:=List.mem_of_find?_eq_some a;have:p.1=n:=by simpa using c
 rw[<-this,<-e];exact f
def gL:SpD:=λa M R=>∃(kd:KD) (p:Pl),a=[kdD kd,plD p]/\(∀q∈kd,q.2.length<=1000)/\R (.lst ((Q0 ((look kd (p.1+1)).getD []).length).map λ(k:Nat)=>plD (p.1+1,(k:Int),0))) M
theorem lD(F:Fun K "begins_behind" "begins_behind" cO f Y)(T:Txt K I):aV P w K I base CX0 1 f Y ["kinds","place"] (spD K 2 gL):=by
 have n:=fX.nd;refine F.okR rfl fX (λg A a s H E o=>⟨_,(ak (aK (i:=2) n rfl (as5 rfl) (aW aP (aZ a7 (CZ (aa 1)) am (λ_ _=>rfl)) am))
   (ao (aN (eR (ms:=[false,false,true]) (ar:=["kind"]) (aE rfl (show aS (aj cO) dH _ _=true from by decide +kernel)) rfl (b7 rfl T.b_range (ae (aU cM rfl T.b_len (by kernel_rfl) (ae (EW o.units1 (aa 0) (aa 2) (bt ah) ⟨rfl,rfl,rfl,rfl⟩) ah)) ah)) (aC (i:=3) (show(dH++_).Nodup from by decide +kernel) rfl rfl) (λ_ _ _ _=>bh) (λ_ _ _ _=>(Ae (ae (aa 2) (ae (aa 3) (ae am ah))))))))),λz M R _ j bk=>?_⟩)
 obtain⟨kd,p,rfl,m,k⟩:=j;refine bk ?_;clear bk;walk_at"";simp only[C6];refine⟨_,rfl,_,rfl,by rw[xW];rfl,O3 _,_,xW,.inl (p.1+1),rfl,?_⟩;have e:(bM (kdP kd) (.inl (p.1+1))).getD (.tup [])=.tup (((look kd (p.1+1)).getD []).map au):=by
  rw[yo];cases look kd (p.1+1)<;>rfl
 have C:((look kd (p.1+1)).getD []).length<=1000:=by
  cases h:look kd (p.1+1)with
  |none=>exact O3 _
  |some rs=>exact m _ (mV h)
 rw[e];generalize (look kd (p.1+1)).getD []=rs at *
 refine⟨.int (rs.length:Int),by simp[rdM,oT],_,rfl,by lia,by lia,?_,?_⟩
 ·simp only[jm,s0,Z5,U2];rw[O7];exact N3 (by assumption) (by decide)
 ·have l:i4 [false,false,true] 1 [some (kdD kd),some (plD p),some (D.int (p.1+1))]=[none,none,some (D.int (p.1+1)),none]:=rfl;rw[l,jm,U2];refine aY (λ(k:Nat)=>D.int (0+(k:Int))) (λ_=>true) (λk=>plD (p.1+1,(k:Int),0)) (λc=>∃x,c=[none,none,some (D.int (p.1+1)),x]) _ _ _ ?_ ⟨_,rfl⟩ ?_
  ·rintro k hk c ⟨x,rfl⟩;refine⟨_,rfl,⟨_,rfl⟩,λu q=>q,λ_ B q=>?_⟩;simp only[Ga,cE,bN,dC,fk];refine⟨_,rfl,_,rfl,by simp only[O2,V5];rw[O7];decide,?_⟩;rw[an4];exact q
  ·rw[U0.mpr (λ_ _=>rfl),P1];exact k
def jt:SpD:=λa M R=>∃(kd:KD) (m:Int),a=[kdD kd]/\FB (kd.map (·.1))=some m/\R (plD (m,0,1)) M
theorem oC(F:Fun K "last_place" "last_place" fJ f Y)(T:Txt K I):aV P w K I base CX0 1 f Y ["kinds"] (spD K 1 jt):=by
 have j:=iY.nd;refine F.okR rfl iY (λg A a s H E l=>⟨_,(ao (aN (Ae (ae (aU (GX rfl) rfl T.b_max (by kernel_rfl) (ae (cB (EG rfl) rfl T.b_list (by kernel_rfl) (ae (aa 0) ah)) ah)) (ae am (ae am ah)))))),λi M R _ h bk=>?_⟩);obtain⟨kd,m,rfl,c,k⟩:=h;refine bk ?_;clear bk;walk_at"";have e:z5 (rdM M (kdD kd))=some (.lst ((kd.map (·.1)).map D.int)):=by
  show z5 (vk (kdP kd))=_;rw[zC,kdP,P9,P9];rfl
 exact⟨_,e,.int m,by rw[show rdM M (D.lst ((kd.map (·.1)).map D.int))=D.lst ((kd.map (·.1)).map D.int)from rfl,Iu,c];rfl,by rw[O7];decide,k⟩
def eQ:SpD:=λe M R=>∃(kd:KD) (p:Pl) (a:List Row) (c:Row) (i j:Nat),e=[kdD kd,plD p]/\p.2=((i:Int),(j:Int))/\look kd p.1=some a/\a[i]?=some c/\R ((c[j]?).elim .non aD) M
theorem nK(F:Fun K "sign_behind" "sign_behind" eW f Y)(T:Txt K I):aV P w K I base CX0 1 f Y ["kinds","place"] (spD K 2 eQ):=by
 have e:=ik.nd;refine F.okR rfl ik (λq A g s H E C=>⟨_,(ak (zr (CZ (aa 1)) (kQ rfl (bG (aI (i:=2) e rfl (R8 rfl)) (bG (aI (i:=3) e rfl (R8 rfl)) (bG (aI (i:=4) e rfl (R8 rfl)) kE)))))
   (ak (aK (i:=5) e rfl (R8 rfl) (aZ a7 (Jw C.units1 (aa 0) (aa 2) (λ_ _=>rfl)) (aa 3) (λ_ _=>rfl)))
   (ao (aN (Kw (bz Hk (aa 4) (aU cM rfl T.b_len (by kernel_rfl) (ae (aa 5) ah)) nbh) (aZ a7 (aa 5) (aa 4) (λ_ _=>rfl)) Ab))))),λG M R _ u bk=>?_⟩)
 obtain⟨kd,p,c,a,i,j,rfl,n,z,m,k⟩:=u;refine bk ?_;clear bk;walk_at"";simp only[C6,oh,iO,bV,tP,at2];refine⟨_,if_pos rfl,?_⟩;have o:p.2.1=(i:Int):=by rw[n]
 have l:p.2.2=(j:Int):=by rw[n]
 have x:bM (kdP kd) (.inl p.1)=some (.tup (c.map au)):=by rw[yo,z];rfl
 have B:ixD (D.tup (c.map au)) (D.int p.2.1)=some (au a):=by
  rw[o];exact cf (by rw[Q6,m];rfl)
 refine⟨_,rfl,_,rfl,_,xW,.inl p.1,rfl,_,x,_,rfl,_,B,_,rfl,_,rfl,.int (a.length:Int),by simp[rdM,au,oT],?_⟩;refine⟨_,rfl,_,rfl,?_⟩
 by_cases h:j<a.length
 ·rw[if_pos (by rw[l];simp[h])];rw[N0 h]at k;refine⟨_,rfl,_,rfl,aD a[j],?_,k⟩;show atI (a.map aD) p.2.2=_;rw[l];exact cf (by simp[h])
 ·rw[if_neg (by rw[l];simp;lia)];rw[S9 (by lia)]at k;exact k
theorem bQ{l:Type}{g:GD}{B:BKd}{M:DH}(enc:l->D)(i:l->List D)(Ok:DE->Prop):∀(xs:List l) (j:DE) (a:List D) (Q:List D->DE->DH->Prop),
  (∀x∈xs,∀ j,Ok j->∃ c,g (enc x) j=some c/\∀(a:List D) (s:List D->DE->DH->Prop),a.length+(i x).length<=N7->(∀ f,Ok f->s (a++i x) f M)->B c M a s)->Ok j ->
  a.length+(xs.flatMap i).length<=N7->(∀ c,Ok c->Q (a++xs.flatMap i) c M)->jV g yz B (xs.map enc) j M a Q
 |[],j,a,Q,_,ok,_,q=>by
  simp only[an0,jV];have:=q j ok
  rwa [List.flatMap_nil,aa4]at this
 |x::xs,j,a,Q,h,ok,n,q=>by
  rw[ae5,O6]at n;rw[N5];simp only[jV,yz,if_true];obtain⟨c,e,u⟩:=h x (.head _) j ok;refine⟨c,e,u a _ (by lia) λf p=>⟨by rw[O6];lia,?_⟩⟩;refine bQ enc i Ok xs f _ Q (λz n=>h z (.tail _ n)) p (by rw[O6];lia) λm o=>?_;have:=q m o
  rwa [ae5,<-aj7]at this
theorem h7{c e:Type}{f:c->e}:∀l:List c,(l.flatMap λa=>[f a])=l.map f
 |[]=>rfl
 |a::l=>by rw[ae5,h7 l];rfl
theorem qZ{a:Type}{f:a->D}:∀{xs:List a}{n:Nat},pY n (xs.map f)=(xs.zipIdx n).map λq=>D.tup [D.int (q.2:Int),f q.1]
 |[],_=>rfl
 |x::xs,n=>by
  rw[N5,List.zipIdx_cons,N5,<-qZ];rfl
noncomputable def i9(n:Int)(q:Row×Nat):List Pl:=(Q0 (q.1.length+1)).map λ(a:Nat)=>(n,(q.2:Int),(a:Int))
noncomputable def iB(q:Int×List Row):List Pl:=q.2.zipIdx.flatMap (i9 q.1)
noncomputable def av(kd:KD):List Pl:=kd.flatMap iB
def kK:SpD:=λa M R=>∃kd:KD,a=[kdD kd]/\(av kd).length<=1000000/\R (.lst ((av kd).map plD)) M
theorem p6(F:Fun K "places_of" "places_of" eh f Y)(T:Txt K I):aV P w K I base CX0 1 f Y ["kinds"] (spD K 1 kK):=by
 have nd:=jC.nd;refine F.okR rfl jC (λL A o s H E hr=>⟨_,(ao (aN (J9 (ms:=[false]) (ar:=["number","rows","kind","row","at"]) (aE (n0:=0) rfl (show aS (aj eh) cj _ _=true from by decide +kernel)) rfl (GW (aa 0)) (gS (n:=2) rfl (bC (aC (i:=1) (show(cj++_).Nodup from by decide +kernel) rfl rfl) (bC (aC (i:=2) (show(cj++_).Nodup from by decide +kernel) rfl rfl) gR))) (λ_ _ _ _=>bh) (λ_ _ _ _=>(zI rfl T.b_enumerate (ae (aa 2) ah))) (gS (n:=2) rfl (bC (aC (i:=3) (show(cj++_).Nodup from by decide +kernel) rfl rfl) (bC (aC (i:=4) (show(cj++_).Nodup from by decide +kernel) rfl rfl) gR))) (λ_ _ _ _=>bh) (λ_ _ _ _=>(b7 rfl T.b_range (ae (aW aP (aU cM rfl T.b_len (by kernel_rfl) (ae (aa 4) ah)) am) ah))) (aC (i:=5) (show(cj++_).Nodup from by decide +kernel) rfl rfl) (λ_ _ _ _=>bh) (λ_ _ _ _=>(Ae (ae (aa 1) (ae (aa 3) (ae (aa 5) ah)))))))),λds M R _ S bk=>?_⟩);obtain⟨kd,rfl,hz,k⟩:=S;refine bk ?_;clear bk;walk_at"";refine⟨kdP kd,rfl,?_⟩;have X:i4 [false] 5 [some (kdD kd)]=[none,none,none,none,none,none]:=rfl;have J:((kdP kd).map λp=>D.tup [kD p.1,p.2])=kd.map λq=>D.tup [D.int q.1,D.tup (q.2.map au)]:=by
  rw[kdP,P9];rfl
 have C:(kd.flatMap λq=>(iB q).map plD)=(av kd).map plD:=by
  rw[av,ah9]
 rw[X,J];refine bQ _ (λq=>(iB q).map plD) (λg=>∃a b c d e,g=[none,a,b,c,d,e]) kd _ _ _ ?_ ⟨_,_,_,_,_,rfl⟩ (by rw[C,s0,O7];simp;exact N3 (by assumption) (by decide)) (by rintro l -;rw[C,P1];exact k);rintro q hq g ⟨a,b,c,d,e,rfl⟩;refine⟨_,rfl,λO Q2 m k2=>?_⟩;have G:(q.2.zipIdx.flatMap λr=>(i9 q.1 r).map plD)=(iB q).map plD:=by rw[iB,ah9]
 simp only[fI,yn,cE,bN,fk];refine⟨_,rfl,_,rfl,λZ=>?_⟩;rw[qZ];refine bQ _ (λr=>(i9 q.1 r).map plD) (λg=>∃c d e,g=[none,some (D.int q.1),some (D.tup (q.2.map au)),c,d,e]) q.2.zipIdx _ _ _ ?_ ⟨_,_,_,rfl⟩ (by rw[G];exact m) (by rintro l ⟨c,d,e,rfl⟩;rw[G];exact k2 _ ⟨_,_,_,_,_,rfl⟩);rintro r a0 g ⟨c,d,e,rfl⟩;refine⟨_,rfl,λz Q3 h k3=>?_⟩;simp only[fI,yS,cE,bN,fk,dOp,dCB,dC];have u:(i9 q.1 r).length=r.1.length+1:=by simp[i9]
 have j:((Q0 (r.1.length+1)).flatMap λ(a:Nat)=>[plD (q.1,(r.2:Int),(a:Int))])=(i9 q.1 r).map plD:=by
  rw[h7,i9,P9];rfl
 have x:=h;rw[s0,u,O7]at x;refine⟨_,rfl,.int (r.1.length:Int),by simp[lr,rdM,au,oT],.int ((r.1.length:Int)+1),rfl,_,rfl,by lia,by lia,?_⟩;have U:((r.1.length:Int)+1).toNat=r.1.length+1:=by lia
 rw[U,jm];refine bQ (λ(a:Nat)=>D.int (0+(a:Int))) (λa=>[plD (q.1,(r.2:Int),(a:Int))]) (λg=>∃e,g=[none,some (D.int q.1),some (D.tup (q.2.map au)),some (D.int (r.2:Int)),some (au r.1),e]) _ _ _ _ ?_ ⟨_,rfl⟩ (by rw[j];exact h) (by rintro l ⟨e,rfl⟩;rw[j];exact k3 _ ⟨_,_,_,rfl⟩);rintro a ha g ⟨e,rfl⟩;refine⟨_,rfl,λB Q4 Q N=>?_⟩;simp only[jS,Ga,cE,bN,fk];refine⟨_,rfl,_,rfl,_,rfl,by simp only[O2,V5];rw[O7];decide,?_⟩;rw[an4];exact N _ ⟨_,rfl⟩
abbrev lW:=Option Pl×Pl×Int
noncomputable def plK(p:Pl):List Key:=[.inl p.1,.inl p.2.1,.inl p.2.2]
theorem mi{p q:Pl}(h:plK p=plK q):p=q:=by
 obtain⟨a,b,c⟩:=p;obtain⟨d,e,f⟩:=q;simpa[plK]using h
noncomputable def dj(l:List (Pl×Int)):List (List Key×D):=l.map λz=>(plK z.1,.int z.2)
noncomputable def cnK(cn:List (Pl×List (Pl×Int))):List (List Key×D):=cn.map λp=>(plK p.1,kn (dj p.2))
def ml(s:lW):D:=.tup [s.1.elim .non plD,plD s.2.1,.int s.2.2]
def stK(st:List (Pl×List lW)):List (List Key×D):=st.map λp=>(plK p.1,.lst (p.2.map ml))
noncomputable def lkP{a:Type}(l:List (Pl×a))(p:Pl):Option a:=(l.find? λz=>decide (z.1=p)).map (·.2)
theorem ly{a:Type}(f:a->D){p:Pl}:∀{l:List (Pl×a)},bM (l.map λz=>(plK z.1,f z.2)) (plK p)=(lkP l p).map f
 |[]=>rfl
 |z::l=>by
  rw[N5]
  by_cases h:z.1=p
  ·rw[cF (by show plK z.1=_;rw[h])];simp[lkP,h]
  ·rw[cz (λe=>h (mi e)),ly f];simp[lkP,h]
def pf(M:DH)(C q:O1)(kd:KD)(e:Pl)(st:List (Pl×List lW))(cn:List (Pl×List (Pl×Int))):Prop :=
 ∃s c,s≠c/\M q=some (.ins C [("kinds",kdD kd),("end",plD e),("steps",.ref s),("counts",.ref c)])/\M s=some (.dT (stK st))/\M c=some (.dT (cnK cn))
noncomputable def nxt(p:Pl):Pl:=(p.1,p.2.1,p.2.2+1)
def tO(kd:KD)(p:Pl):Prop:=∃(a:List Row) (c:Row) (i j:Nat),p.2=((i:Int),(j:Int))/\look kd p.1=some a/\a[i]?=some c
def cN(kd:KD)(p:Pl):Option (Str×Int):=((look kd p.1).bind (·[p.2.1.toNat]?)).bind (·[p.2.2.toNat]?)
def bO(kd:KD)(p:Pl):List Pl:=(Q0 ((look kd (p.1+1)).getD []).length).map λ(k:Nat)=>(p.1+1,(k:Int),0)
def fY(ord:List (Str×Str))(x:Str×Int)(o:Option (Str×Int)):Bool:=o.elim false λy=>x.2+1==y.2&&lB ord x.2 x.1 y.1
def jI:SpD:=λa M R=>∃(ord:List (Str×Str)) (x:Str×Int) (o:Option (Str×Int)),a=[.tup (ord.map aJ),aD x,o.elim .non aD]/\ord.length<=500/\R (.bl (fY ord x o)) M
theorem oM(F:Fun K "are_joined" "are_joined" gq f Y)(T:Txt K I)(c:FnD P w K I base "cancel" 4 3 qD):aV P w K I base CX0 5 f Y ["order","sign","other"] (spD K 3 jI):=by
 have l:=ji.nd;refine F.okR rfl ji (λe A a s H E i=>⟨_,(ao (aN (cg (fW Fg (aa 2) Ab nbh) (eE (qd c i (ae (aa 0) (ae (aa 1) (ae (aa 2) ah)))))))),λj M R _ h bk=>?_⟩);obtain⟨ord,x,o,rfl,g,k⟩:=h;refine bk ?_;clear bk;walk_at"";cases o with
 |none=>rw[if_neg (by simp[rdM,sH])];exact k
 |some y=>rw[if_pos (by simp[aD,rdM,sH])];exact⟨ord,x,y,rfl,g,k⟩
theorem vG{kd:KD}{p:Pl}{a:List Row}{row:Row}{i j:Nat}(f:p.2=((i:Int),(j:Int)))(e:look kd p.1=some a)(c:a[i]?=some row):cN kd p=row[j]?:=by
 have g:p.2.1.toNat=i:=by rw[f];rfl
 have h:p.2.2.toNat=j:=by rw[f];rfl
 simp[cN,e,g,h,c]
theorem Af{kd:KD}{p:Pl}{M:DH}{R:D->DH->Prop}(h:tO kd p)(k:R ((cN kd p).elim .non aD) M):eQ [kdD kd,plD p] M R:=by
 obtain⟨e,f,i,j,g,c,a⟩:=h;rw[vG g c a]at k;exact⟨kd,p,e,f,i,j,rfl,g,c,a,k⟩
def bE(ord:List (Str×Str))(kd:KD)(p:Pl)(l:List (Pl×Int)):List lW:=match cN kd p with
 |none=>(bO kd p).map λb=>(none,b,1)
 |some x=>(l.filter λz=>fY ord x (cN kd z.1)).map λz=>(some z.1,nxt z.1,z.2)
def jd(C:O1):SpD:=λc M R=>∃(ord:List (Str×Str)) (q:O1) (p:Pl) (kd:KD) (e:Pl) (st:List (Pl×List lW)) (a:List (Pl×List (Pl×Int))) (l:List (Pl×Int)),c=[.tup (ord.map aJ),.ref q,plD p]/\ord.length<=500/\pf M C q kd e st a /\
 (∀q∈kd,q.2.length<=1000)/\tO kd p/\((cN kd p).isSome->lkP a (nxt p)=some l)/\(∀z∈l,tO kd z.1)/\l.length<=100000/\R (.lst ((bE ord kd p l).map ml)) M
theorem nS(F:Fun K "first_steps" "first_steps" cG f Y)(T:Txt K I){C:O1}(Z:mN K C)(m:FnD P w K I base "sign_behind" 1 2 eQ)(h:FnD P w K I base "next_place" 1 1 jH)(X:FnD P w K I base "are_joined" 5 3 jI)(U:FnD P w K I base "begins_behind" 1 2 gL):aV P w K I base CX0 6 f Y ["order","chart","place"] (spD K 3 (jd C)):=by
 have nd:=ib.nd;refine F.okR rfl ib (λa3 A a0 s H E g=>⟨_,(ak (aK (i:=3) nd rfl (as5 rfl) (qd m g (ae (kA Z.c Z.n_kinds (aa 1)) (ae (aa 2) ah))))
   (ak (cV (bz L7 (aa 3) Ab nbh) (ao (aN (eR (ms:=[false,false,false,false]) (ar:=["begin"]) (aE rfl (show aS (aj cG) bZ _ _=true from by decide +kernel)) rfl (aM (qd U g (ae (kA Z.c Z.n_kinds (aa 1)) (ae (aa 2) ah)))) (aC (i:=4) (show(bZ++_).Nodup from by decide +kernel) rfl rfl) (λ_ _ _ _=>bh) (λ_ _ _ _=>(bt (ae Ab (ae (aa 4) (ae am ah)))))))) bW)
   (ao (aN (eR (ms:=[true,true,false,true]) (ar:=["mate","inner"]) (aE rfl (show aS (aj cG) bZ _ _=true from by decide +kernel)) rfl (Cn (yO g.units1 (kA Z.c Z.n_counts (aa 1)) (qd h g (ae (aa 2) ah)) (λ_ _=>rfl))) (gS (n:=2) rfl (bC (aC (i:=4) (show(bZ++_).Nodup from by decide +kernel) rfl rfl) (bC (aC (i:=5) (show(bZ++_).Nodup from by decide +kernel) rfl rfl) gR))) (λ_ _ _ _=>(jN (dP (qd X g (ae (aa 0) (ae (aa 3) (ae (qd m g (ae (kA Z.c Z.n_kinds (aa 1)) (ae (aa 4) ah))) ah))))))) (λ_ _ _ _=>(bt (ae (aa 4) (ae (qd h g (ae (aa 4) ah)) (ae (aa 5) ah)))))))))),λds M R _ hS bk=>?_⟩)
 obtain⟨ord,q,p,kd,e,st,cn,l,rfl,ho,hC,hb,hv,hl,G,a1,k⟩:=hS;obtain⟨s,c,a2,u,hs,L⟩:=hC;refine bk ?_;clear bk;walk_at"";refine⟨_,u,_,rfl,Af hv ?_⟩;unfold bE at k;cases O:cN kd p with
 |none =>
  simp only[O]at k;rw[if_pos (by rfl)];refine⟨_,u,_,rfl,kd,p,rfl,hb,_,rfl,λN=>⟨N,?_⟩⟩;have B:((Q0 ((look kd (p.1+1)).getD []).length).map λ(k:Nat)=>plD (p.1+1,(k:Int),0))=(bO kd p).map plD:=by rw[bO,P9];rfl
  have L:i4 [false,false,false,false] 1 [some (D.tup (ord.map aJ)),some (D.ref q),some (plD p),some ((none:Option (Str×Int)).elim .non aD)]=[none,none,none,none,none]:=rfl;rw[B,L];refine aY plD (λ_=>true) (λb=>ml (none,b,1)) (λj=>∃x,j=[none,none,none,none,x]) _ _ _ ?_ ⟨_,rfl⟩ ?_
  ·rintro b a4 j ⟨x,rfl⟩;refine⟨_,rfl,⟨_,rfl⟩,λQ1 q=>q,λ_ Q2 q=>?_⟩;simp only[vX,cE,bN,dC,fk];exact⟨_,rfl,by simp only[O2,V5];rw[O7];decide,q⟩
  ·rw[U0.mpr (λ_ _=>rfl),P1];rw[P9]at k;exact k
 |some x =>
  simp only[O]at k;rw[if_neg (by simp[aD,rdM,sH])];have S:=hl (by rw[O];rfl);have o:bM (cnK cn) (plK (nxt p))=some (kn (dj l)):=by
   rw[cnK,ly (λl=>kn (dj l)),S];rfl
  have B:((dj l).map λz=>D.tup [rT z.1,z.2])=l.map λz=>D.tup [plD z.1,D.int z.2]:=by rw[dj,P9];rfl
  refine⟨_,u,_,rfl,p,rfl,_,kc L,plK (nxt p),rfl,_,o,_,rfl,?_,?_⟩
  ·rw[B,s0,O7];exact N3 (by assumption) (by decide)
  have J:i4 [true,true,false,true] 2 [some (D.tup (ord.map aJ)),some (D.ref q),some (plD p),some ((some x).elim .non aD)]=[some (D.tup (ord.map aJ)),some (D.ref q),none,some (aD x),none,none]:=rfl;rw[B,J];refine aY (λz:Pl×Int=>D.tup [plD z.1,D.int z.2]) (λz=>fY ord x (cN kd z.1)) (λz=>ml (some z.1,nxt z.1,z.2)) (λj=>∃a b,j=[some (D.tup (ord.map aJ)),some (D.ref q),none,some (aD x),a,b]) _ _ _ ?_ ⟨_,_,rfl⟩ ?_
  ·rintro z N j ⟨a,b,rfl⟩;refine⟨_,rfl,⟨_,_,rfl⟩,λQ1 Q=>?_,λ_ Q2 Q=>?_⟩
   ·simp only[rS,jg,cE,bN,fk,B7];exact⟨_,rfl,_,rfl,_,rfl,q,_,_,rfl,u,rfl,_,rfl,rfl,Af (G z N) ⟨rfl,ord,x,cN kd z.1,rfl,ho,_,rfl,Q⟩⟩
   ·simp only[vX,jg,cE,bN,fk];exact⟨_,rfl,_,rfl,rfl,z.1,rfl,_,rfl,by simp only[O2,V5];rw[O7];decide,Q⟩
  ·rw[P1];rw[P9]at k;exact k
noncomputable def AM(l:List (Pl×Int))(e:Pl)(v:Int):List (Pl×Int):=if(l.any λz=>decide (z.1=e))=true then l.map λz=>if z.1=e then(z.1,v)else z else l++[(e,v)]
theorem FA{l:List (Pl×Int)}{e:Pl}{v:Int}:gV (dj l) (plK e) (.int v)=dj (AM l e v):=by
 have a:((dj l).any λc=>decide (c.1=plK e))=l.any λz=>decide (z.1=e):=by
  rw[dj,as7];congr 1;funext z;exact decide_eq_decide.mpr ⟨mi,λh=>congrArg plK h⟩
 unfold gV AM;rw[a]
 split
 ·rw[dj,dj,P9,P9];congr 1;funext z;show(if plK z.1=plK e then _ else _)=_
  by_cases h:z.1=e
  ·rw[if_pos (by rw[h])];simp[h]
  ·rw[if_neg (λq=>h (mi q))];simp[h]
 ·rw[dj,dj,P7];rfl
theorem Dh(l:List (Pl×Int))(e:Pl)(v:Int):(AM l e v).length<=l.length+1:=by
 unfold AM
 split
 ·rw[s0];lia
 ·simp
def BG(l:List (Pl×Int))(e:Pl)(v:Int):List (Pl×Int):=AM l e ((lkP l e).getD 0+v)
def eV(i:Int)(l more:List (Pl×Int)):List (Pl×Int):=more.foldl (λa z=>BG a z.1 (i*z.2)) l
def bS(p:Pl)(ss:List lW)(cn:List (Pl×List (Pl×Int))):List (Pl×Int):=ss.foldl (λa s=>eV s.2.2 a ((lkP cn s.2.1).getD [])) [(p,1)]
def je(C:O1):SpD:=λf M R=>∃(q:O1) (p:Pl) (kd:KD) (e:Pl) (st:List (Pl×List lW)) (c:List (Pl×List (Pl×Int))) (a:List lW),f=[.ref q,plD p]/\pf M C q kd e st c /\
 lkP st p=some a/\a.length<=1000/\(∀s∈a,∃l,lkP c s.2.1=some l/\l.length<=1000/\∀z∈l,lL s.2.2 z.2)/\R (kn (dj (bS p a c))) M
theorem nz(F:Fun K "counts_from" "counts_from" fb f Y)(T:Txt K I){C:O1}(Z:mN K C):aV P w K I base CX0 1 f Y ["chart","place"] (spD K 2 (je C)):=by
 have L:=ij.nd;refine F.okR rfl ij (λa' A a3 s H E Q=>⟨_,(ak (aK (i:=2) L rfl (R8 rfl) (EY Q.units1 (aa 1) am))
   (ak (bH Q5 rfl (aM (yO Q.units1 (kA Z.c Z.n_steps (aa 0)) (aa 1) (λ_ _=>rfl))) (kQ rfl (bG (aI (i:=3) L rfl (R8 rfl)) (bG (aI (i:=4) L rfl (R8 rfl)) (bG (aI (i:=5) L rfl (R8 rfl)) kE)))) (ao (bH Q5 rfl (Cn (yO Q.units1 (kA Z.c Z.n_counts (aa 0)) (aa 4) (λ_ _=>rfl))) (kQ rfl (bG (aI (i:=6) L rfl (R8 rfl)) (bG (aI (i:=7) L rfl (R8 rfl)) kE))) (ao (yx Q.units1 (aa 2) (aa 6) (aW aP (yV Q.units1 (aa 2) (aa 6) am ⟨rfl,rfl,rfl,rfl⟩) (aW HW (aa 5) (aa 7))))))))
   (ao (aN (IC (aa 2)))))),λds M R _ hS bk=>?_⟩)
 obtain⟨q,p,kd,e,st,cn,ss,rfl,hC,hp,b0,hn,k⟩:=hS;obtain⟨s,c,b1,hq,hs,hc⟩:=hC;refine bk ?_;clear bk;walk_at"";intro a ha;have N:q≠a:=(nn ha hq).symm;have a8:s≠a:=(nn ha hs).symm;have a5:c≠a:=(nn ha hc).symm;have a0:bM (stK st) (plK p)=some (.lst (ss.map ml)):=by rw[stK,ly (λl:List lW=>D.lst (l.map ml)),hp];rfl
 refine⟨plK p,rfl,_,by rw[aA N];exact hq,_,rfl,_,kc (by rw[aA a8];exact hs),plK p,rfl,_,a0,_,rfl,λhz=>?_⟩;refine aG (λi u o=>∃x3 x4 x5 O S l,u=[some (D.ref q),some (plD p),some (D.ref a),x3,x4,x5,O,S]/\l=bS p (ss.take i) cn/\l.length<=1+i*1000/\o=ay M a (.dT (dj l))) ⟨_,_,_,_,_,[(p,1)],rfl,by simp[bS],by simp,rfl⟩ ?_ ?_
 ·intro i d u o X hd B k';refine shr λ_ bk=>?_;obtain⟨x3,x4,x5,O,S,l0,rfl,n,bp,rfl⟩:=B;refine bk ?_;clear bk;obtain⟨t,ht,rfl⟩:=bU hd;have a6:=P3 ht;have hi:i<ss.length:=(N4.mp ht).1;obtain⟨l,hl,a9,U⟩:=hn t a6;have G:bS p (ss.take (i+1)) cn=eV t.2.2 l0 l:=by
   rw[S1,ht,n];simp[bS,hl]
  have x:bM (cnK cn) (plK t.2.1)=some (kn (dj l)):=by rw[cnK,ly (λl=>kn (dj l)),hl];rfl
  simp only[ml];refine⟨_,rfl,?_⟩;simp only[yk,Dp,Co,B7,bN];refine⟨_,rfl,q,_,_,rfl,by rw[aA N];exact hq,rfl,_,rfl,_,plK t.2.1,_,kc (by rw[aA a5];exact hc),rfl,x,dj l,rfl,?_⟩;have hm:((dj l).map λz=>D.tup [rT z.1,z.2])=l.map λz=>D.tup [plD z.1,D.int z.2]:=by rw[dj,P9];rfl
  rw[hm];refine aG (λj u o=>∃O S g,u=[some (D.ref q),some (plD p),some (D.ref a),some (t.1.elim D.non plD),some (plD t.2.1),some (D.int t.2.2),O,S]/\g=eV t.2.2 l0 (l.take j)/\g.length<=1+i*1000+j/\o=ay M a (.dT (dj g))) ⟨_,_,l0,rfl,by simp[eV],by assumption,rfl⟩ ?_ ?_
  ·intro j d2 u o X2 a1 B k2;refine shr λ_ bk=>?_;obtain⟨y6,y7,g,rfl,m,h,rfl⟩:=B;refine bk ?_;clear bk;obtain⟨z,J,rfl⟩:=bU a1;have a4:=P3 J;have hj:j<l.length:=(N4.mp J).1;refine⟨_,rfl,?_⟩;simp only[Ak,dOp,yP,bN,dC];have a2:(bM (dj g) (plK z.1)).getD (D.int 0)=D.int ((lkP g z.1).getD 0):=by
    rw[dj,ly D.int];cases lkP g z.1<;>rfl
   refine⟨_,rfl,by rw[kc aq];rfl,_,rfl,_,plK z.1,kc aq,rfl,_,rfl,_,rfl,.int (t.2.2*z.2),by simp[rdM,iOp,U z a4],?_⟩;rw[a2];refine⟨.int ((lkP g z.1).getD 0+t.2.2*z.2),rfl,_,rfl,_,rfl,a,_,plK z.1,rfl,aq,rfl,?_,k2 _ _ ⟨_,_,BG g z.1 (t.2.2*z.2),rfl,?_,?_,?_⟩⟩
   ·rw[dj,s0,O7];lia
   ·rw[S1,J,m];simp[eV]
   ·have:=Dh g z.1 ((lkP g z.1).getD 0+t.2.2*z.2);show(AM _ _ _).length<=_
    lia
   ·rw[aF,FA];rfl
  ·intro u o B;refine shr λ_ bk=>?_;obtain⟨y6,y7,g,rfl,m,h,rfl⟩:=B;refine bk ?_;clear bk;rw[s0,S6]at m;rw[s0]at h;exact k' _ _ ⟨_,_,_,_,_,g,rfl,by rw[G];exact m,by lia,rfl⟩
 ·intro u o B;refine shr λ_ bk=>?_;obtain⟨x3,x4,x5,O,S,l0,rfl,n,bp,rfl⟩:=B;refine bk ?_;clear bk;rw[s0,S6]at n;simp only[FO,BM,bN];refine⟨_,rfl,a,_,rfl,aq,?_⟩;rw[ju ha,n];exact k
noncomputable def gT{a:Type}(l:List (Pl×a))(e:Pl)(v:a):List (Pl×a):=if(l.any λz=>decide (z.1=e))=true then l.map λz=>if z.1=e then(z.1,v)else z else l++[(e,v)]
theorem DJ{a:Type}(f:a->D){l:List (Pl×a)}{e:Pl}{v:a}:gV (l.map λz=>(plK z.1,f z.2)) (plK e) (f v)=(gT l e v).map λz=>(plK z.1,f z.2):=by
 have c:((l.map λz=>(plK z.1,f z.2)).any λg=>decide (g.1=plK e))=l.any λz=>decide (z.1=e):=by
  rw[as7];congr 1;funext z;exact decide_eq_decide.mpr ⟨mi,λh=>congrArg plK h⟩
 unfold gV gT;rw[c]
 split
 ·rw[P9,P9];congr 1;funext z;show(if plK z.1=plK e then _ else _)=_
  by_cases h:z.1=e
  ·rw[if_pos (by rw[h])];simp[h]
  ·rw[if_neg (λq=>h (mi q))];simp[h]
 ·rw[P7];rfl
theorem wx{a:Type}(l:List (Pl×a))(e:Pl)(v:a):(gT l e v).length<=l.length+1:=by
 unfold gT
 split
 ·rw[s0];lia
 ·simp
abbrev ChS:=List (Pl×List lW)×List (Pl×List (Pl×Int))
def lG(ord:List (Str×Str))(kd:KD)(S:ChS)(p:Pl):ChS :=
 let a:=bE ord kd p ((lkP S.2 (nxt p)).getD [])
 (gT S.1 p a,gT S.2 p (bS p a S.2))
def c9(ord:List (Str×Str))(kd:KD)(ps:List Pl):ChS:=ps.foldl (lG ord kd) ([],[])
def G7(ord:List (Str×Str))(kd:KD)(cn:List (Pl×List (Pl×Int)))(p:Pl):Prop :=
 tO kd p/\((cN kd p).isSome->(lkP cn (nxt p)).isSome=true)/\(∀z∈(lkP cn (nxt p)).getD [],tO kd z.1)/\((lkP cn (nxt p)).getD []).length<=100000 /\
 (bE ord kd p ((lkP cn (nxt p)).getD [])).length<=1000/\∀s∈bE ord kd p ((lkP cn (nxt p)).getD []),∃l,lkP cn s.2.1=some l/\l.length<=1000/\∀z∈l,lL s.2.2 z.2
def Ek(ord:List (Str×Str))(kd:KD)(m:Int):Prop:=ord.length<=500/\(∀q∈kd,q.2.length<=1000)/\FB (kd.map (·.1))=some m/\(av kd).length<=100000 /\
 ∀i p,(av kd).reverse[i]?=some p->G7 ord kd (c9 ord kd ((av kd).reverse.take i)).2 p
def chM(M:DH)(C q s c:O1)(kd:KD)(e:Pl)(S:ChS):DH :=
 ay (ay (ay M q (.ins C [("kinds",kdD kd),("end",plD e),(("steps":Str),.ref s),(("counts":Str),.ref c)])) s (.dT (stK S.1))) c (.dT (cnK S.2))
section
variable{M:DH}{C q s c:O1}{kd:KD}{e:Pl}{S:ChS}
theorem Ci(f:q≠s)(a:q≠c):chM M C q s c kd e S q=some (.ins C [("kinds",kdD kd),("end",plD e),(("steps":Str),.ref s),(("counts":Str),.ref c)]):=by
 unfold chM;rw[aA a,aA f,aq]
theorem GO(h:s≠c):chM M C q s c kd e S s=some (.dT (stK S.1)):=by
 unfold chM;rw[aA h,aq]
theorem Gj:chM M C q s c kd e S c=some (.dT (cnK S.2)):=aq
theorem ye(f:q≠s)(a:q≠c)(h:s≠c):pf (chM M C q s c kd e S) C q kd e S.1 S.2:=⟨s,c,h,Ci f a,GO h,Gj⟩
theorem DB(h:s≠c){x:List (Pl×List lW)}:ay (chM M C q s c kd e S) s (.dT (stK x))=chM M C q s c kd e (x,S.2):=by
 unfold chM;rw[cp (aa3 h),aF]
theorem DD{y:List (Pl×List (Pl×Int))}:ay (chM M C q s c kd e S) c (.dT (cnK y))=chM M C q s c kd e (S.1,y):=by
 unfold chM;rw[aF]
end
theorem CP{c:Type}{p:Pl}{v:c}:∀{l:List (Pl×c)},lkP (gT l p v) p=some v:=by
 intro l;unfold gT
 split
 ·rename_i h
  induction l with
  |nil=>simp at h
  |cons z l ih =>
   by_cases a:z.1=p
   ·simp[lkP,a]
   ·have f:(l.any λz=>decide (z.1=p))=true:=by simpa[a]using h
    have:=ih f;simpa[lkP,a]using this
 ·rename_i h;have:∀z∈l,z.1≠p:=λz a e=>h (ab0.mpr ⟨z,a,by simp[e]⟩)
  induction l with
  |nil=>simp[lkP]
  |cons z l ih =>
   have a:=this z (.head _);have:=ih (λg=>h (by simp[g])) (λw i=>this w (.tail _ i));simpa[lkP,a]using this
def nP(C:O1):SpD:=λa M R=>∃(ord:List (Str×Str)) (kd:KD) (m:Int) (q:O1),a=[.ref q,.tup (ord.map aJ),kdD kd]/\M q=some (.ins C [])/\Ek ord kd m /\
 ∀s c,M s=none->M c=none->s≠c->R .non (chM M C q s c kd (m,0,1) (c9 ord kd (av kd).reverse))
theorem xZ(F:Fun K "__init__" "Chart.__init__" nT f Y)(T:Txt K I){C:O1}(Z:mN K C)(a2:FnD P w K I base "last_place" 1 1 jt)(b0:FnD P w K I base "places_of" 1 1 kK)(a8:FnD P w K I base "first_steps" 6 3 ((jd C)))(a3:FnD P w K I base "counts_from" 1 2 ((je C))):aV P w K I base CX0 7 f Y ["self","order","kinds"] (spD K 3 (nP C)):=by
 have nd:=qE.nd;refine F.okR rfl qE (λb2 A a6 s H E J=>⟨_,(ak (uG Z.c Z.n_kinds (aa 0) (aa 2))
   (ak (uG Z.c Z.n_end (aa 0) (qd a2 J (ae (aa 2) ah)))
   (ak (uG Z.c Z.n_steps (aa 0) Hv)
   (ak (uG Z.c Z.n_counts (aa 0) Hv)
   (ao (bH Q5 rfl (F2 rfl T.b_reversed (ae (qd b0 J (ae (aa 2) ah)) ah)) (aI (i:=3) nd rfl (R8 rfl)) (ak (yx J.units1 (kA Z.c Z.n_steps (aa 0)) (aa 3) (qd a8 J (ae (aa 1) (ae (aa 0) (ae (aa 3) ah)))))
   (ao (yx J.units1 (kA Z.c Z.n_counts (aa 0)) (aa 3) (qd a3 J (ae (aa 0) (ae (aa 3) ah)))))))))))),λds M R _ G bk=>?_⟩)
 obtain⟨ord,kd,m,q,rfl,hq,⟨ho,hb,hm,hz,a0⟩,k⟩:=G;refine bk ?_;clear bk;walk_at"";have p2:vV "end" (plD (m,0,1)) [(("kinds":Str),kdD kd)]=[(("kinds":Str),kdD kd),(("end":Str),plD (m,0,1))]:=rfl;refine⟨[],hq,by simp,kd,m,rfl,hm,[(("kinds":Str),kdD kd)],aq,by simp,λs L=>?_⟩;rw[p2]at L ⊢;rw[aF]at L ⊢;have e:q≠s:=λz=>by rw[<-z,aq]at L;cases L
 have a9:M s=none:=by rw[aA (aa3 e)]at L;exact L
 refine⟨[(("kinds":Str),kdD kd),(("end":Str),plD (m,0,1))],by rw[aA e,aq],by simp,λc n=>?_⟩;have p3:vV "steps" (.ref s) [(("kinds":Str),kdD kd),(("end":Str),plD (m,0,1))]=[(("kinds":Str),kdD kd),(("end":Str),plD (m,0,1)),(("steps":Str),.ref s)]:=rfl;rw[p3]at n ⊢;have a:q≠c:=λz=>by rw[<-z,aq]at n;cases n
 rw[aA (aa3 a)]at n;have g:s≠c:=λz=>by rw[<-z,aq]at n;cases n
 have a1:M c=none:=by rw[aA (aa3 g),aA (aa3 a)]at n;exact n
 refine⟨[(("kinds":Str),kdD kd),(("end":Str),plD (m,0,1)),(("steps":Str),.ref s)],by rw[aA a,aq],by simp,?_⟩;have p4:vV "counts" (.ref c) [(("kinds":Str),kdD kd),(("end":Str),plD (m,0,1)),(("steps":Str),.ref s)]=[(("kinds":Str),kdD kd),(("end":Str),plD (m,0,1)),(("steps":Str),.ref s),(("counts":Str),.ref c)]:=rfl;rw[p4];have hM:ay (ay (ay (ay (ay M q (.ins C [(("kinds":Str),kdD kd),(("end":Str),plD (m,0,1))])) s (.dT [])) q (.ins C [(("kinds":Str),kdD kd),(("end":Str),plD (m,0,1)),(("steps":Str),.ref s)])) c (.dT [])) q (.ins C [(("kinds":Str),kdD kd),(("end":Str),plD (m,0,1)),(("steps":Str),.ref s),(("counts":Str),.ref c)])=chM M C q s c kd (m,0,1) ([],[]):=by
  unfold chM;rw[cp (aa3 a),aF,cp (aa3 e),aF];rfl
 rw[hM];refine⟨kd,rfl,by exact N3 (by assumption) (by decide),_,rfl,λb1=>?_⟩;rw[<-List.map_reverse];refine aG (λi Δ U=>∃x S,Δ=[some (D.ref q),some (D.tup (ord.map aJ)),some (kdD kd),x]/\S=c9 ord kd ((av kd).reverse.take i)/\S.1.length<=i/\S.2.length<=i/\U=chM M C q s c kd (m,0,1) S) ⟨_,([],[]),rfl,by simp[c9],by simp,by simp,rfl⟩ ?_ ?_
 ·intro i d Δ U X hd hI k';refine shr λ_ bk=>?_;obtain⟨x,S,rfl,G,h1,h2,rfl⟩:=hI;refine bk ?_;clear bk;obtain⟨p,hp,rfl⟩:=bU hd;have hi:i<(av kd).reverse.length:=(N4.mp hp).1;rw[al2]at hi;have Q:=a0 i p hp;rw[<-G]at Q;obtain⟨hv,B,a',a4,a5,o⟩:=Q;refine⟨_,rfl,?_⟩;simp only[vh,Ak,B7,jg,cE,bN,fk];refine⟨_,rfl,_,rfl,_,rfl,rfl,ord,q,p,kd,(m,0,1),S.1,S.2,(lkP S.2 (nxt p)).getD [],rfl,ho,ye e a g,hb,hv,λh=>?_,a',a4,?_⟩
  ·obtain⟨l,hl⟩:=X5.mp (B h);rw[hl];rfl
  refine⟨_,rfl,q,_,_,rfl,Ci e a,rfl,_,rfl,s,_,plK p,rfl,GO g,rfl,by rw[stK,s0,O7];lia,?_⟩;generalize N:bE ord kd p ((lkP S.2 (nxt p)).getD [])=j at *
  have O:gV (stK S.1) (plK p) (D.lst (j.map ml))=stK (gT S.1 p j):=DJ (λl:List lW=>D.lst (l.map ml));have u:gV (cnK S.2) (plK p) (kn (dj (bS p j S.2)))=cnK (gT S.2 p (bS p j S.2)):=DJ (λl=>kn (dj l));rw[O,DB g];refine⟨_,rfl,_,rfl,rfl,q,p,kd,(m,0,1),gT S.1 p j,S.2,j,rfl,ye e a g,CP,a5,o,?_⟩;refine⟨_,rfl,q,_,_,rfl,Ci e a,rfl,_,rfl,c,cnK S.2,plK p,rfl,Gj,rfl,by rw[cnK,s0,O7];lia,?_⟩;rw[u,DD];refine k' _ _ ⟨_,_,rfl,?_,?_,?_,rfl⟩
  ·rw[S1,hp,c9,ao1];show _=lG ord kd (c9 ord kd ((av kd).reverse.take i)) p;rw[<-G];simp only[lG,N]
  ·have:=wx S.1 p j;show(gT S.1 p j).length<=_
   lia
  ·have:=wx S.2 p (bS p j S.2);show(gT S.2 p _).length<=_
   lia
 ·intro Δ U hI;refine shr λ_ bk=>?_;obtain⟨x,S,rfl,G,h1,h2,rfl⟩:=hI;refine bk ?_;clear bk;rw[s0,S6]at G;rw[G];exact k s c a9 a1 g
noncomputable def cX:Pl:=(-1,0,0)
def hU(C:O1):SpD:=λc M R=>∃(q:O1) (kd:KD) (e:Pl) (st:List (Pl×List lW)) (a:List (Pl×List (Pl×Int))) (l:List (Pl×Int)),c=[.ref q]/\pf M C q kd e st a/\lkP a cX=some l/\R (.int ((lkP l e).getD 0)) M
theorem mQ(F:Fun K "count_of_all" "count_of_all" dW f Y)(T:Txt K I){C:O1}(Z:mN K C):aV P w K I base CX0 1 f Y ["chart"] (spD K 1 (hU C)):=by
 have G:=gF.nd;refine F.okR rfl gF (λj A g s H E i=>⟨_,(ao (aN (yV i.units1 (Jl i.units1 (kA Z.c Z.n_counts (aa 0)) (vi rfl T.g_START) (λ_ _=>rfl)) (kA Z.c Z.n_end (aa 0)) am ⟨rfl,rfl,rfl,rfl⟩))),λB M R _ m bk=>?_⟩);obtain⟨q,kd,e,st,p,l,rfl,n,u,k⟩:=m;obtain⟨s,c,x,h,z,o⟩:=n;refine bk ?_;clear bk;walk_at"";have a:bM (cnK p) (plK cX)=some (kn (dj l)):=by rw[cnK,ly (λl=>kn (dj l)),u];rfl
 refine⟨_,h,_,rfl,_,kc o,plK cX,rfl,_,a,by rw[wH];rfl,_,h,_,rfl,_,wH,plK e,rfl,?_⟩;have:(bM (dj l) (plK e)).getD (D.int 0)=D.int ((lkP l e).getD 0):=by
  rw[dj,ly D.int];cases lkP l e<;>rfl
 rw[this];exact k
noncomputable def cP(ag:List (Str×List Row))(ws:List Str):KD:=ws.zipIdx.map λq=>((q.2:Int),kin ag q.1)
def cm(ag:List (Str×List Row))(ai:Str)(ws:List Str):KD:=(-1,[[]])::cP ag ws++[((ws.length:Int),[[(ai,1)]])]
theorem zf{kd:KD}{n:Int}{rs:List Row}(h:∀p∈kd,p.1≠n):gV (kdP kd) (.inl n) (bq rs)=kdP (kd++[(n,rs)]):=by
 have:((kdP kd).any λe=>decide (e.1=.inl n))=false:=by
  rw[List.any_eq_false];intro x a;obtain⟨p,c,rfl⟩:=P4.mp a;have:=h p c;simpa using this
 unfold gV;rw[this,if_neg (by simp),kdP,kdP,P7];rfl
theorem zq{ag:List (Str×List Row)}{ws:List Str}{n:Int}{r:List Row}(h0:(-1:Int)≠n)(h:(ws.length:Int)<=n):∀p∈((-1,r)::cP ag ws:KD),p.1≠n:=by
 intro p a;rcases O9.mp a with e|a
 ·rw[e];exact h0
 ·obtain⟨t,c,rfl⟩:=P4.mp a;have:=List.mem_zipIdx c;show(t.2:Int)≠n
  lia
def fh:SpD:=λf M R=>∃(ord:List (Str×Str)) (e:Str) (a:List (Str×List Row)) (c:List Str),f=[bJ ord e a,.tup (c.map .str)]/\a.length<=8/\c.length<=100/\(∀w∈c,w∈a.map (·.1)/\bF w)/\R (kdD (cm a e c)) M
theorem jQ(F:Fun K "kinds_by_number" "kinds_by_number" c7 f Y)(T:Txt K I)(G:FnD P w K I base "kinds_of" 3 2 iS)(z:FnD P w K I base "goals_wish" 1 1 jF):aV P w K I base CX0 4 f Y ["lexicon","words"] (spD K 2 fh):=by
 have L:=eG.nd;refine F.okR rfl eG (λN A u s H E p=>⟨_,(ak (aK (i:=2) L rfl (R8 rfl) (E8 (aZ a7 (vi rfl T.g_START) am (λ_ _=>rfl)) (bt (ae (bt ah) ah))))
   (ak (bH Q5 rfl (zI rfl T.b_enumerate (ae (aa 1) ah)) (kQ rfl (bG (aI (i:=3) L rfl (R8 rfl)) (bG (aI (i:=4) L rfl (R8 rfl)) kE))) (ao (Dl p.units1 (aa 2) (aa 3) (qd G p (ae (aa 0) (ae (aa 4) ah))))))
   (ak (Dl p.units1 (aa 2) (aU cM rfl T.b_len (by kernel_rfl) (ae (aa 1) ah)) (bt (ae (qd z p (ae (aa 0) ah)) ah)))
   (ao (aN (IV (aa 2))))))),λds M R _ S bk=>?_⟩)
 obtain⟨ord,h,l,e,rfl,hl,hw,j,k⟩:=S;refine bk ?_;clear bk;walk_at"";intro a U;refine⟨O3 _,by rw[O7];decide,.inl (-1),rfl,λhz=>?_⟩;rw[qZ];refine aG (λi J q=>∃C B,J=[some (bJ ord h l),some (D.tup (e.map D.str)),some (D.ref a),C,B]/\q=ay M a (.dK (kdP ((-1,[[]])::cP l (e.take i))))) ⟨_,_,rfl,rfl⟩ ?_ ?_
 ·rintro i d J q X O ⟨C,B,rfl,rfl⟩ Q;obtain⟨t,m,rfl⟩:=bU O;have c:e[i]?=some t.1/\t.2=i:=by
   rw[List.getElem?_zipIdx]at m;cases o:e[i]? with
   |none=>rw[o]at m;cases m
   |some x=>rw[o]at m;cases m;exact⟨rfl,by simp⟩
  have g:=P3 c.1;have Z:i<e.length:=(N4.mp c.1).1;refine⟨_,rfl,?_⟩;simp only[Ac,jg,cE,bN,fk];refine⟨_,rfl,_,rfl,rfl,ord,h,l,t.1,rfl,hl,(j _ g).1,(j _ g).2,?_⟩;refine⟨_,rfl,_,rfl,a,_,.inl (t.2:Int),rfl,aq,rfl,?_,?_⟩
  ·rw[kdP,s0,O2,cP,s0,aq8,S2,O7];lia
  rw[aF,zf (zq (by lia) (by rw[c.2,S2];lia) )];refine Q _ _ ⟨_,_,rfl,?_⟩;rw[S1,c.1,c.2];simp[cP,List.zipIdx_append,S2,ak1 (T8 Z)]
 ·rintro J q ⟨C,B,rfl,rfl⟩;rw[s0,aq8,S6];simp only[vh,Ac,jg,cE,bN,fk,dCB,vX,FO,DP];refine⟨_,rfl,rfl,ord,h,l,rfl,by simp only[O2,V5];rw[O7];decide,_,rfl,_,rfl,.int (e.length:Int),?_,a,_,.inl (e.length:Int),rfl,aq,rfl,?_,_,rfl,a,_,rfl,aq,?_⟩
  ·simp[lr,rdM,oT]
  ·rw[kdP,s0,O2,cP,s0,aq8,O7];lia
  ·rw[aF,ju U];have:=zf (kd:=(-1,[[]])::cP l e) (n:=(e.length:Int)) (rs:=[[(h,1)]]) (zq (by lia) (ay7 _));rw[show D.tup [au [(h,1)]]=bq [[(h,1)]]from rfl,this];exact k
def mS(C:O1):SpD:=λg M R=>∃(ord:List (Str×Str)) (f:Str) (a:List (Str×List Row)) (e:List Str) (m:Int),g=[bJ ord f a,.tup (e.map .str)]/\a.length<=8/\e.length<=100/\(∀w∈e,w∈a.map (·.1)/\bF w)/\Ek ord (cm a f e) m /\
 ∀q s c,M q=none->M s=none->M c=none->q≠s->q≠c->s≠c->R (.ref q) (chM M C q s c (cm a f e) (m,0,1) (c9 ord (cm a f e) (av (cm a f e)).reverse))
theorem sx(F:Fun K "chart_of" "chart_of" iD f Y)(T:Txt K I){C:O1}(l:MkD P w K I base "Chart" C 7 3 ((nP C)))(n:FnD P w K I base "kinds_by_number" 4 2 fh):aV P w K I base CX0 9 f Y ["lexicon","words"] (spD K 2 (mS C)):=by
 have U:=kF.nd;refine F.okR rfl kF (λO A o s H E B=>⟨_,(ao (aN (JC l (B.mono (by decide)) rfl (ae (aZ a7 (aa 0) am (λ_ _=>rfl)) (ae (qd n B (ae (aa 0) (ae (aa 1) ah))) ah))))),λX M R _ S bk=>?_⟩);obtain⟨ord,i,x,N,m,rfl,J,Q,u,p,k⟩:=S;refine bk ?_;clear bk;have L:bJ ord i x=D.tup [D.tup (ord.map aJ),D.str i,D.tup (x.map bI)]:=rfl;rw[L];walk_at"";refine⟨ord,i,x,N,rfl,J,Q,u,λq G=>⟨ord,_,m,q,rfl,aq,p,λs c h g j=>⟨rfl,?_⟩⟩⟩;have a:q≠s:=λz=>by rw[<-z,aq]at h;cases h
 have e:q≠c:=λz=>by rw[<-z,aq]at g;cases g
 rw[aA (aa3 a)]at h;rw[aA (aa3 e)]at g;have:=k q s c G h g a e j;unfold chM at this ⊢;rw[aF];exact this
def wz(ord:List (Str×Str))(ai:Str)(ag:List (Str×List Row))(ws:List Str)(n:Int):Prop:=ag.length<=8/\ws.length<=100/\(∀w∈ws,w∈ag.map (·.1)/\bF w) /\
 ∃m l,Ek ord (cm ag ai ws) m/\lkP (c9 ord (cm ag ai ws) (av (cm ag ai ws)).reverse).2 cX=some l/\n=(lkP l (m,0,1)).getD 0
def wD:SpD:=λf M R=>∃(ord:List (Str×Str)) (c:Str) (a:List (Str×List Row)) (e:List Str) (n:Int),f=[bJ ord c a,.tup (e.map .str)]/\wz ord c a e n/\R (.int n) M
theorem Bb(F:Fun K "many" "many" pJ f Y)(T:Txt K I){C:O1}(o:FnD P w K I base "count_of_all" 1 1 ((hU C)))(G:FnD P w K I base "chart_of" 9 2 ((mS C))):aV P w K I base CX0 10 f Y ["lexicon","words"] (spD K 2 wD):=by
 have nd:=ue.nd;refine F.okR rfl ue (λa0 A p s H E J=>⟨_,(ao (iQ (qd o J (ae (qd G J (ae (aa 0) (ae (aa 1) ah))) ah)))),λds M R _ hS bk=>?_⟩);obtain⟨ord,Q,ag,Z,n,rfl,⟨S,hw,B,m,l,x,g,hn⟩,k⟩:=hS;refine bk ?_;clear bk;walk_at"";refine⟨ord,Q,ag,Z,m,rfl,S,hw,B,x,λq s c N X O h i j=>?_⟩;refine⟨q,_,_,_,_,l,rfl,ye h i j,g,M,λa u e=>?_,by rw[hn]at k;exact k⟩;have L:a≠q:=λz=>by rw[z,N]at e;cases e
 have U:a≠s:=λz=>by rw[z,X]at e;cases e
 have h3:a≠c:=λz=>by rw[z,O]at e;cases e
 unfold chM;rw[aA h3,aA U,aA L];exact e
def i8:SpD:=λf M R=>∃(ord:List (Str×Str)) (c:Str) (a:List (Str×List Row)) (e:List Str) (n:Int),f=[bJ ord c a,.tup (e.map .str)]/\wz ord c a e n/\R (.bl (decide (0<n))) M
theorem nH(F:Fun K "is_sentence" "is_sentence" eY f Y)(T:Txt K I)(a:FnD P w K I base "many" 10 2 wD):aV P w K I base CX0 11 f Y ["lexicon","words"] (spD K 2 i8):=by
 have p:=iq.nd;refine F.okR rfl iq (λg A c s H E m=>⟨_,(ao (aN (fW GZ (qd a m (ae (aa 0) (ae (aa 1) ah))) am nbh))),λo M R _ i bk=>?_⟩);obtain⟨ord,l,j,e,n,rfl,h,k⟩:=i;refine bk ?_;clear bk;walk_at"";exact⟨ord,l,j,e,n,rfl,h,_,rfl,k⟩
noncomputable def aB{a:Type}(xs:List a):Nat->List (List a)
 |0=>[[]]
 |n+1=>(aB xs n).flatMap λr=>xs.map λx=>r++[x]
noncomputable def wsD(r:List Str):D:=.tup (r.map .str)
theorem eJ{g:Type}{xs:List g}{m:Nat}(e:xs.length<=m):∀n,(aB xs n).length<=m ^ n
 |0=>by simp[aB]
 |n+1=>by
  have ih:=eJ e n;have f:(aB xs (n+1)).length=(aB xs n).length*xs.length:=by
   simp only[aB,al3,s0];generalize aB xs n=l
   induction l with
   |nil=>simp
   |cons a l c=>rw[N5,W8,c,O2,ax0];lia
  rw[f,ai6];exact Nat.mul_le_mul ih e
theorem de{a:Type}{xs:List a}:∀{n:Nat}{r:List a},r∈aB xs n->r.length=n
 |0,r,h=>by simp[aB]at h;rw[h];rfl
 |n+1,r,h=>by
  simp only[aB,Z4,P4]at h;obtain⟨q,c,x,_,rfl⟩:=h;rw[O6,de c];rfl
def kB:SpD:=λc M R=>∃(a:Row) (n:Nat),c=[.lst (a.map aD),.int (n:Int)]/\a.length<=60/\n<=2/\R (.lst ((aB a n).map au)) M
theorem qU(F:Fun K "tuples_of" "tuples_of" eB f Y)(T:Txt K I):aV P w K I base CX0 1 f Y ["parts","length"] (spD K 2 kB):=by
 have l:=jE.nd;refine F.okR rfl jE (λB A h s H E p=>⟨_,(ak (aK (i:=2) l rfl (R8 rfl) (cU (ae (bt ah) ah)))
   (ak (bH Q5 rfl (b7 rfl T.b_range (ae (aa 1) ah)) (aI (i:=3) l rfl (R8 rfl)) (ao (pW (i:=2) l rfl rfl rfl (ms:=[true,false,false,false]) (ar:=["longer","part"]) (aE rfl (show aS (aj eB) dZ _ _=true from by decide +kernel)) rfl (aM (aa 2)) (aC (i:=4) (show(dZ++_).Nodup from by decide +kernel) rfl rfl) (λ_ _ _ _=>bh) (λ_ _ _ _=>(aM (aa 0))) (aC (i:=5) (show(dZ++_).Nodup from by decide +kernel) rfl rfl) (λ_ _ _ _=>bh) (λ_ _ _ _=>(aW aP (aa 4) (bt (ae (aa 5) ah)))))))
   (ao (aN (aa 2))))),λZ M R _ L bk=>?_⟩)
 obtain⟨e,n,rfl,S,hn,k⟩:=L;refine bk ?_;clear bk;walk_at"";refine⟨O3 _,by rw[O7];decide,by lia,by lia,?_⟩;rw[U2];refine aG (λi c g=>∃x,c=[some (D.lst (e.map aD)),some (D.int (n:Int)),some (D.lst ((aB e i).map au)),x]/\g=M) ⟨_,rfl,rfl⟩ ?_ ?_
 ·rintro i d c g X G ⟨x,rfl,rfl⟩ C;obtain⟨hi,rfl⟩:=cD G;refine⟨_,rfl,?_⟩;have h8:60 ^ (i+1)<=3600:=by
   have:i+1<=2:=by exact O4 (by assumption) (by assumption)
   exact N3 (W3 (by decide) this) (by decide)
  have U:=eJ S (i+1);simp only[mR,FM,B8,gK,bN];refine⟨_,rfl,_,rfl,λ_=>?_⟩;have m:((aB e i).flatMap λr=>e.map λx=>au (r++[x]))=(aB e (i+1)).map au:=by
   simp only[aB,ah9,P9];rfl
  refine bQ au (λr=>e.map λx=>au (r++[x])) (λc=>∃a b,c=[some (D.lst (e.map aD)),none,none,none,a,b]) _ _ _ _ ?_ ⟨_,_,rfl⟩ ?_ ?_
  ·rintro r p c ⟨a,b,rfl⟩;refine⟨_,rfl,λJ Q2 Q O=>?_⟩;simp only[fI,gK,bN];refine⟨_,rfl,_,rfl,λ_=>?_⟩;refine bQ aD (λx=>[au (r++[x])]) (λc=>∃b,c=[some (D.lst (e.map aD)),none,none,none,some (au r),b]) e _ _ _ ?_ ⟨_,rfl⟩ (by rw[h7];exact Q) (by rintro j ⟨b,rfl⟩;rw[h7];exact O _ ⟨_,_,rfl⟩);rintro x z c ⟨b,rfl⟩;refine⟨_,rfl,λo Q3 q u=>?_⟩;simp only[jS,dOp,vX,cE,bN,fk];have N:r.length<=2:=by rw[de p];lia
   refine⟨_,rfl,_,rfl,by simp only[O2,V5];rw[O7];decide,au (r++[x]),?_,u _ ⟨_,rfl⟩⟩;show gM (.tup (r.map aD)) (.tup [aD x])=_;rw[fq,if_pos (by rw[s0,O7];simp;exact N3 (by assumption) (by decide))];simp[au]
  ·rw[m,s0,O7];simp;lia
  ·rintro j -
   rw[P1,m];exact C _ _ ⟨_,rfl,rfl⟩
 ·rintro c g ⟨x,rfl,rfl⟩;have:(jm 0 n).length=n:=by simp[jm]
  rw[this];walk_at"";exact k
def Ig(a b c:Int):Prop:=0<=a/\0<=b/\b<1000000403/\0<=c/\c<1000000513
def bu(l:List D):Prop:=∃a b c,l=[.int a,.int b,.int c]/\Ig a b c
def wR:SpD:=λa M R=>∃i,a=[.int i]/\∀p l,M p=none->bu l->R (.ref p) (ay M p (.lst l))
def dw:SpD:=λc M R=>∃p l n,c=[.ref p,.int n]/\M p=some (.lst l)/\bu l/\0<n/\n<1073741824/\∀v a,0<=v->v<n->bu a->R (.int v) (ay M p (.lst a))
theorem A5(F:Fun K "_law_pool" "_law_pool" rC f Y)(T:Txt K I):aV P w K I base CX0 1 f Y ["_law_cell_here"] (spD K 1 wR):=by
 have e:=tu.nd;refine F.okR rfl tu (λj A c s H E u=>⟨_,(ak (aK (i:=1) e rfl (R8 rfl) am)
   (ak (cV (yI (zE (bz Hk (aa 0) am nbh) (u5 (bz Mn (aa 0) (aW Kh am am) nbh)))) (ao (aK (i:=1) e rfl (R8 rfl) (aU JF rfl T.b_abs (by kernel_rfl) (ae (aa 0) ah)))) bW)
   (ak (aK (i:=2) e rfl (R8 rfl) (aW mK (aa 0) am))
   (ao (aN (iK (ae (aa 1) (ae (aa 2) (ae (aW mK (aW aP (aW nh (aa 2) am) am) am) ah))))))))),λq M R _ l bk=>?_⟩)
 obtain⟨i,rfl,k⟩:=l;refine bk ?_;clear bk;walk_at"";have g:∀a:Int,0<=a->∀p,M p=none->R (D.ref p) (ay M p (HD.lst [D.int a,D.int (i % 1000000403),D.int ((i % 1000000403*48271+12345) % 1000000513)])):=λa m p o=>k p _ o ⟨a,_,_,rfl,m,by lia,by lia,by lia,by lia⟩;refine fw (λh=>⟨sz3 3,g _ (by split<;>lia)⟩) (λh=>fw (λn=>⟨sz3 3,g _ (by split<;>lia)⟩) (λn=>⟨sz3 3,g _ (by decide)⟩))
theorem AI(F:Fun K "_law_draw" "_law_draw" qM f Y)(T:Txt K I):aV P w K I base CX0 1 f Y ["_law_pool_here","_law_amount"] (spD K 2 dw):=by
 have X:=sR.nd;refine F.okR rfl sR (λG A m s H E hr=>⟨_,(ak (cV (bz GZ (aZ a7 (aa 0) am (λ_ _=>rfl)) am nbh) (ak (aK (i:=2) X rfl (R8 rfl) (aW mK (aZ a7 (aa 0) am (λ_ _=>rfl)) (aa 1)))
   (ak (z8 (aa 0) am (aW B4 (aZ a7 (aa 0) am (λ_ _=>rfl)) (aa 1)))
   (ao (aN (aa 2))))) bW)
   (ak (z8 (aa 0) am (aW mK (aW aP (aW aP (aW nh (aZ a7 (aa 0) am (λ_ _=>rfl)) am) (aZ a7 (aa 0) am (λ_ _=>rfl))) am) am))
   (ak (z8 (aa 0) am (aW mK (aW aP (aW aP (aW nh (aZ a7 (aa 0) am (λ_ _=>rfl)) am) (aW mK (aW nh (aZ a7 (aa 0) am (λ_ _=>rfl)) (aZ a7 (aa 0) am (λ_ _=>rfl))) am)) am) am))
   (ao (aN (aW mK (aW B4 (aW aP (aZ a7 (aa 0) am (λ_ _=>rfl)) (aW nh am (aZ a7 (aa 0) am (λ_ _=>rfl)))) am) (aa 1))))))),λds M R _ J bk=>?_⟩)
 obtain⟨p,l,n,rfl,q,⟨a,b,c,rfl,Z⟩,g,C,k⟩:=J;refine bk ?_;clear bk;have o:=pd q;have e:∀x,xJ x n:=λx=>⟨g,C⟩;obtain⟨B,Q,U,N,O⟩:=Z;have S:-18446744073709551616<(b*40014+c+7) % 1000000403/\(b*40014+c+7) % 1000000403<18446744073709551616:=by lia
 have L:=GA (j:=(b*40014+c+7) % 1000000403) S;walk_at"";simp only[o,q,g,e];walk_at"";simp only[L];walk_at"";simp only[g,e];walk_at"";have z:∀x:Int,0<=x % n:=λx=>Int.emod_nonneg _ (by lia);have u:∀x:Int,x % n<n:=λx=>Int.emod_lt_of_pos _ g;refine fw (λh=>?_) (λh=>?_)
 ·exact k _ _ (z _) (u _) ⟨_,_,_,rfl,Int.ediv_nonneg (by assumption) (by exact av0 (by assumption)),Q,U,N,O⟩
 ·exact k _ _ (z _) (u _) ⟨_,_,_,rfl,B,by lia,by lia,by lia,by lia⟩
def lT:SpD:=λe M R=>∃(p:O1) (l:List D) (a:List Str),e=[.ref p,.lst (a.map .str)]/\M p=some (.lst l)/\bu l/\a.length<=25/\∀w c,eX w->w∉a->bu c->R (.str w) (ay M p (.lst c))
theorem zG{p:O1}{Q:List D->DH->Prop}:∀(ds:List D) (x:Option D) (M:DH) (l:List D) (f:List Nat),M p=some (.lst l)->bu l->(∀c∈f,qu c) ->
  (∀(a:List Nat) (g:List D),bu g->(∀c∈a,qu c)->a.length=f.length+ds.length->Q (a.map λc=>D.str (tx [c])) (ay M p (.lst g))) ->
  cY (bV 5) yz (dOp ixD (bN 2) (jg 2 dw (cE (bN 0) (cE (dC (D.int 26)) fk)))) ds [some (D.ref p),none,some (D.str abc),none,none,x] M (f.map λc=>D.str (tx [c])) Q
 |[],x,M,l,f,j,i,o,k=>by
  have:=k f l i o (by simp);rw[t4 j]at this;simpa only[cY]using this
 |d::ds,x,M,l,f,j,i,o,k=>by
  simp only[cY,bV,yz];walk_at"";refine⟨p,l,26,rfl,j,i,by decide,by decide,λv w B A n=>?_⟩;obtain⟨c,s,e⟩:=HP B A;refine⟨_,e,?_⟩;have z:(f.map λc=>D.str (tx [c]))++[D.str (tx [c])]=(f++[c]).map λc=>D.str (tx [c]):=by simp
  rw[z];refine zG ds (some d) (ay M p (.lst w)) w (f++[c]) aq n (λx C=>?_) (λa g u q m=>?_)
  ·rcases P0.mp C with h|h
   ·exact o x h
   ·have:x=c:=by simpa using h
    subst this;exact s
  ·rw[aF];exact k a g u q (by simp at m ⊢;lia)
theorem FJ:(ab6 "abcdefghijklmnopqrstuvwxyz").length<=N7:=by
 show abc.length<=_;rw[qk,iR];exact sz3 _
theorem Ca{a:List Nat}(h:a.length<=1000):Aj (ab6 "") (.lst (a.map λc=>D.str (tx [c])))=some (.str (tx a)):=by
 have e:(a.map λc=>D.str (tx [c]))=(a.map λc=>tx [c]).map D.str:=by simp
 have f:((a.map λc=>tx [c]).map (·.length)).sum=a.length:=by
  clear h e
  induction a with
  |nil=>rfl
  |cons c a ih=>simp only[N5,W8,ih,iR,O2,V5];lia
 simp only[Aj];rw[e,qG,KF];dsimp only;rw[if_pos (by rw[f,iR];simp;exact N3 (by assumption) (by decide)),uV]
noncomputable def IU(a:List Nat)(d:D):D:=match d with|.str s=>.str (tx (a.take 7)++s)|_=>.non
theorem D1(a:List Nat):(L2.bB abc).map (IU a)=(gU.map λc=>tx (a.take 7++[c])).map D.str:=by
 rw[ua,P9,P9];apply R5;intro c _;show D.str (tx (a.take 7)++tx [c])=_;rw[yh];rfl
theorem AH(F:Fun K "_law_word" "_law_word" iw f Y)(T:Txt K I)(Y0:FnD P w K I base "_law_draw" 1 2 dw):aV P w K I base CX0 2 f Y ["_law_pool_here","_law_known"] (spD K 2 lT):=by
 have nd:=tN.nd;refine F.okR rfl tN (λa2 A N s H E hr=>⟨_,(ak (aK (i:=2) nd rfl (as5 rfl) Gn)
   (ak (aK (i:=3) nd rfl (as5 rfl) (G5 Gn (eR (ms:=[true,false,true,false,false]) (ar:=["_law_k"]) (aE rfl (show aS (aj iw) gg _ _=true from by decide +kernel)) rfl (b7 rfl T.b_range (ae (aW aP am (qd Y0 hr (ae (aa 0) (ae am ah)))) ah)) (aC (i:=5) (show(gg++_).Nodup from by decide +kernel) rfl rfl) (λ_ _ _ _=>bh) (λ_ _ _ _=>(aZ a7 (aa 2) (qd Y0 hr (ae (aa 0) (ae am ah))) (λ_ _=>rfl))))))
   (ak (aK (i:=4) nd rfl (R8 rfl) (aW aP (cU (ae (aa 3) ah)) (eR (ms:=[false,false,false,true,false]) (ar:=["_law_sign"]) (aE rfl (show aS (aj iw) gg _ _=true from by decide +kernel)) rfl (aM (aa 2)) (aC (i:=5) (show(gg++_).Nodup from by decide +kernel) rfl rfl) (λ_ _ _ _=>bh) (λ_ _ _ _=>(aW aP (eI (aa 3) iH (fm am)) (aa 5))))))
   (ao (aN (aZ a7 (eR (ms:=[false,true,false,false,false]) (ar:=["_law_one"]) (aE rfl (show aS (aj iw) gg _ _=true from by decide +kernel)) rfl (aM (aa 4)) (aC (i:=5) (show(gg++_).Nodup from by decide +kernel) rfl rfl) (λ_ _ _ _=>(jN (bz ma (aa 5) (aa 1) rfl))) (λ_ _ _ _=>(aa 5))) am (λ_ _=>rfl))))))),λds M R _ hS bk=>?_⟩)
 obtain⟨p,l,a,rfl,hM,hP,hk,k⟩:=hS;refine bk ?_;clear bk;walk_at"";refine⟨p,l,8,rfl,hM,hP,by decide,by decide,λv l1 h0 h1 S=>?_⟩;walk_at"";refine⟨by lia,by lia,by rw[bT];exact sz3 (1+v).toNat (by lia),?_⟩;refine zG _ none (ay M p (.lst l1)) l1 [] aq S (λc j=>absurd j (by simp)) (λg l2 a0 U bp=>?_);have X:g.length=(1+v).toNat:=by simpa[jm]using bp
 have hw:eX (tx g):=by
  unfold eX;rw[gH];exact⟨by lia,by lia,U⟩
 rw[aF];refine⟨_,Ca (by lia),sz3 1,_,if_pos FJ,λhz=>⟨hz,?_⟩⟩;refine fT (λ_=>true) (IU g) (λn=>∃x,n=[none,none,none,some (.str (tx g)),none,x]) _ _ _ (λd z n m=>?_) ⟨none,rfl⟩ ?_
 ·obtain⟨x,rfl⟩:=m;obtain⟨c,j,rfl⟩:∃c,c∈gU/\d=.str (tx [c]):=by
   rw[show L2.bB (ab6 "abcdefghijklmnopqrstuvwxyz")=gU.map (λc=>D.str (tx [c]))from ua]at z;obtain⟨c,j,e⟩:=P4.mp z;exact⟨c,j,e.symm⟩
  refine⟨_,rfl,⟨_,rfl⟩,λQ1 q=>q,λ_ Q2 q=>?_⟩;walk_at"";have hs:=yr g 7;refine⟨_,if_pos (by rw[iR];exact sz3 _ (by lia)),?_⟩;walk_at"";have O:as4 (tx g) none (some 7)=tx (g.take 7):=hs;rw[O];refine⟨_,if_pos (by rw[iR,iR];simp;exact sz3 _ (by lia)),q⟩
 ·have ev:(ay8 (λ_=>true) (L2.bB (ab6 "abcdefghijklmnopqrstuvwxyz"))).map (IU g)=(gU.map λc=>tx (g.take 7++[c])).map D.str:=by
   rw[U0.mpr (λ_ _=>rfl)];exact D1 g
  rw[P1,ev];have o:((gU.map λc=>tx (g.take 7++[c])).map D.str).length=26:=by simp[gU]
  refine⟨_,if_pos (by rw[o];exact sz3 _),_,rfl,λB=>⟨B,?_⟩⟩;have em:D.str (tx g)::(gU.map λc=>tx (g.take 7++[c])).map D.str=(tx g::gU.map λc=>tx (g.take 7++[c])).map D.str:=rfl;rw[em];generalize hL:(tx g::gU.map λc=>tx (g.take 7++[c]))=L;have Q:∀w∈L,eX w:=λw h=>by
   rw[<-hL]at h;rcases O9.mp h with rfl|h
   ·exact hw
   ·obtain⟨c,j,rfl⟩:=P4.mp h;have:=yF hw (Dn j)
    rwa [gH]at this
  have a1:∃w∈L,w∉a:=by
   obtain⟨c,j,hn⟩:=BZ (w:=tx g) hk;rw[gH]at hn;exact⟨_,by rw[<-hL];exact S7 _ (P4.mpr ⟨c,j,rfl⟩),hn⟩
  refine fT (λd=>!((a.map D.str).any λe=>eqD e d)) id (λn=>∃x,n=[none,some (.lst (a.map D.str)),none,none,none,x]) _ _ _ (λd z n m=>?_) ⟨none,rfl⟩ ?_
  ·obtain⟨x,rfl⟩:=m;obtain⟨w,h,rfl⟩:=P4.mp z;refine⟨_,rfl,⟨_,rfl⟩,λQ1 q=>?_,λ_ Q2 q=>?_⟩
   ·walk_at"";refine⟨_,if_pos ⟨rfl,ip⟩,_,rfl,?_⟩;simpa using q
   ·walk_at"";exact q
  ·rw[P1,List.map_id,List.filter_map];have ef:(ay8 ((λd=>!((a.map D.str).any λe=>eqD e d))∘D.str) L)=L.filter (λw=>!decide (w∈a)):=by
    apply List.filter_congr;intro w _;show(!((a.map D.str).any λe=>eqD e (.str w)))=_;rw[fP]
   rw[ef];obtain⟨w0,G,J⟩:=a1;cases hF:L.filter (λw=>!decide (w∈a))with
   |nil =>
    have:w0∈L.filter (λw=>!decide (w∈a)):=W4.mpr ⟨G,by simp[J]⟩;rw[hF]at this;cases this
   |cons u us =>
    have hu:u∈L.filter (λw=>!decide (w∈a)):=by rw[hF];exact V8
    obtain⟨C,Z⟩:=W4.mp hu;exact⟨_,CU,k u l2 (Q u C) (by simpa using Z) a0⟩
theorem yd{M:DH}{p q:O1}{o:HD}(h:p≠q):kP M (k5 M q) (ay (k5 M q) p o)=ay M p o:=by
 funext a;unfold kP ay k5
 by_cases c:a=p
 ·subst c;simp
 ·by_cases e:a=q
  ·subst e;simp[c]
  ·simp only[c,e,if_false];cases M a<;>rfl
theorem sQ{l:List D}(h:bu l):nJ l=true:=by
 obtain⟨a,b,c,rfl,_⟩:=h;rfl
def jJ:SpD:=λe M R=>∃(p:O1) (l:List D) (n:Int),e=[.ref p,.int n]/\M p=some (.lst l)/\bu l/\0<=n/\n<=20/\(∀a k,M a=some k->a≠p->noC k=true) /\
 ∀(c:List Str) l',(∀w∈c,eX w)->c.Nodup->c.length=n.toNat->bu l'->R (.lst (c.map .str)) (ay M p (.lst l'))
theorem tS{p q:O1}{E:fZ}(e:p≠q):∀(ds:List D) (x:Option D) (n:Int) (M:DH) (l:List D) (ws:List Str),M q=none->bu l->ws.Nodup->(∀w∈ws,eX w)->ws.length+ds.length<=25->(∀a k,M a=some k->a≠p->noC k=true) ->
  (∀(C:Option D) (j:List D) (c:List Str),bu j->c.Nodup->(∀w∈c,eX w)->c.length=ws.length+ds.length->E.nx [some (.ref p),some (.int n),some (.ref q),C] (ay (ay M p (.lst j)) q (.lst (c.map .str)))) ->
  cy (bV 3) (vW (Du (bN 2) (u4 2 lT (cE (bN 0) (cE (bN 2) fk))))) E ds [some (.ref p),some (.int n),some (.ref q),x] (ay (ay M p (.lst l)) q (.lst (ws.map .str)))
 |[],x,n,M,l,ws,N,s,L,A,G,z,k=>by
  simp only[cy];exact k x l ws s L A (by simp)
 |d::ds,x,n,M,l,ws,N,s,L,A,G,z,k=>by
  simp only[cy,bV];walk_at"";have bp:ws.length<=24:=by simp at G;lia
  refine⟨D.ref p,rfl,D.ref q,rfl,k5 (ay (ay M p (.lst l)) q (.lst (ws.map .str))) q,[.ref p,.lst (ws.map .str)],_,LeM.del,.cons (.inl rfl) (.cons (.inr ⟨q,_,rfl,aq,fC,rfl⟩) .nil),rfl,⟨p,l,ws,rfl,?_,s,by exact N3 (by assumption) (by decide),λw j Q Y O=>?_⟩,λd' M3 P=>P⟩
  ·rw[o9 e,aA e,aq]
  ·refine⟨rfl,λa R g=>?_,?_⟩
   ·by_cases f:a=p
    ·subst f;rw[aq]at g;cases g;exact sQ O
    ·rw[aA f]at g
     by_cases m:a=q
     ·subst m;rw[fC]at g;cases g
     ·rw[o9 m,aA m,aA f]at g;exact z a R g f
   ·rw[yd e];have Z:ay (ay (ay M p (.lst l)) q (.lst (ws.map .str))) p (.lst j) q=some (.lst (ws.map .str)):=by rw[aA (aa3 e),aq]
    refine⟨_,Z,by rw[s0];exact O4 (by lia:ws.length<1000) (sz3 1000),?_⟩;have X:ay (ay (ay (ay M p (.lst l)) q (.lst (ws.map .str))) p (.lst j)) q (.lst (ws.map .str++[.str w]))=ay (ay M p (.lst j)) q (.lst ((ws++[w]).map .str)):=by
     funext a;unfold ay
     by_cases i:a=q
     ·simp[i]
     ·by_cases o:a=p
      ·simp[i,o]
      ·simp[i,o]
    rw[X];refine tS e ds (some d) n M j (ws++[w]) N O ?_ (λu S=>?_) (by simp at G ⊢;lia) z (λC U c J H I B=>k C U c J H I (by simp at B ⊢;lia))
    ·rw[ac7];refine⟨L,by simp,λa g b T=>?_⟩;have:b=w:=by simpa using T
     subst this;rintro rfl;exact Y g
    ·rcases P0.mp S with h|h
     ·exact A u h
     ·have:u=w:=by simpa using h
      subst this;exact Q
theorem oK(F:Fun K "_law_some_words" "_law_some_words" fL f Y)(T:Txt K I)(u:FnD P w K I base "_law_word" 2 2 lT):aV P w K I base CX0 3 f Y ["_law_pool_here","_law_amount"] (spD K 2 jJ):=by
 have C:=i6.nd;refine F.okR rfl i6 (λJ A j s H E Q=>⟨_,(ak (aK (i:=2) C rfl (R8 rfl) (iK ah))
   (ak (bH Q5 rfl (b7 rfl T.b_range (ae (aa 1) ah)) (aI (i:=3) C rfl (R8 rfl)) (ao (gb (og (aa 2) (qcL u (Q.mono (by decide)) rfl (ae (aa 0) (ae (aa 2) ah)))))))
   (ao (yD (aa 2))))),λS M R _ N bk=>?_⟩)
 obtain⟨p,l,n,rfl,B,G,Z,U,m,k⟩:=N;refine bk ?_;clear bk;walk_at"";refine⟨sz3 0,λq g=>?_⟩;have c:p≠q:=by rintro rfl;rw[B]at g;cases g
 refine⟨by lia,by lia,?_⟩;have e:ay M q (.lst [])=ay (ay M p (.lst l)) q (.lst (([]:List Str).map .str)):=by rw[t4 B];rfl
 rw[e];refine tS c _ none n M l [] g G List.nodup_nil (λw L=>absurd L (by simp)) (by rw[bT];simp;lia) m (λX O h z o x a=>?_);walk_at"";rw[ju (by rw[aA (aa3 c)];exact g)];exact k h O x o (by rw[bT]at a;simpa using a) z
def tJ:SpD:=λe M R=>∃(p:O1) (l:List D) (c:List Str) (a:Int),e=[.ref p,.lst (c.map .str),.int a]/\M p=some (.lst l)/\bu l/\c≠[]/\c.length<=1000/\0<=a/\a<=500 /\
 ∀(ord:List (Str×Str)) l',ord.length<=a.toNat->(∀x∈ord,x.1∈c/\x.2∈c)->bu l'->R (.tup (ord.map aJ)) (ay M p (.lst l'))
abbrev Gi:TEd:=dOp ixD (bN 1) (jg 2 dw (cE (bN 0) (cE (dCB (lr oT) (cE (bN 1) fk)) fk)))
theorem tq{p q:O1}{E:fZ}(e:p≠q)(f:List Str)(g:Int)(X:f≠[])(H:f.length<=1000):∀(ds:List D) (n j:Option D) (M:DH) (l:List D) (ord:List (Str×Str)),M q=none->bu l->(∀x∈ord,x.1∈f/\x.2∈f)->ord.length+ds.length<=1000 ->
  (∀(P J:Option D) (s:List D) (a:List (Str×Str)),bu s->(∀x∈a,x.1∈f/\x.2∈f)->a.length=ord.length+ds.length->E.nx [some (.ref p),some (.lst (f.map .str)),some (.int g),some (.ref q),P,J] (ay (ay M p (.lst s)) q (.lst (a.map aJ)))) ->
  cy (bV 4) (vh (mR 5 Gi) (vW (Du (bN 3) (vX (cE (bN 5) (cE Gi fk)))))) E ds [some (.ref p),some (.lst (f.map .str)),some (.int g),some (.ref q),n,j] (ay (ay M p (.lst l)) q (.lst (ord.map aJ)))
 |[],n,j,M,l,ord,U,C,I,A,k=>by
  simp only[cy];exact k n j l ord C I (by simp)
 |d::ds,n,j,M,l,ord,U,C,I,A,k=>by
  have S:(0:Int)<((f.map D.str).length:Int):=by
   rw[s0];have:=ap1.mpr X
   lia
  have c:((f.map D.str).length:Int)<1073741824:=by
   rw[s0];lia
  have L:(ord.map aJ).length<N7:=by
   rw[s0];simp only[O2]at A;exact O4 (by lia:ord.length<1000) (sz3 1000)
  simp only[cy,bV];walk_at"";refine⟨p,l,_,rfl,by rw[aA e,aq],C,S,c,λv i h0 T z=>?_⟩;rw[s0]at T;obtain⟨m,u,e1⟩:=lV h0 T;refine⟨_,e1,?_⟩;have Z:ay (ay (ay M p (.lst l)) q (.lst (ord.map aJ))) p (.lst i)=ay (ay M p (.lst i)) q (.lst (ord.map aJ)):=by
   rw[<-cp e,aF]
  rw[Z];refine⟨_,aq,?_⟩;refine⟨p,i,_,rfl,by rw[aA e,aq],z,S,c,λv2 O h2 Y B=>?_⟩;rw[s0]at Y;obtain⟨o,Q,e2⟩:=lV h2 Y;refine⟨_,e2,sz3 2,?_⟩;have G:ay (ay (ay M p (.lst i)) q (.lst (ord.map aJ))) p (.lst O)=ay (ay M p (.lst O)) q (.lst (ord.map aJ)):=by
   rw[<-cp e,aF]
  rw[G];refine⟨_,aq,L,?_⟩;rw[aF];have ea:ord.map aJ++[D.tup [.str m,.str o]]=(ord++[(m,o)]).map aJ:=by simp[aJ]
  rw[ea];refine tq e f g X H ds (some d) (some (.str m)) M O (ord++[(m,o)]) U B (λx hx=>?_) (by simp at A ⊢;lia) (λP J s a R N w=>k P J s a R N (by simp at w ⊢;lia));rcases P0.mp hx with h|h
  ·exact I x h
  ·have:x=(m,o):=by simpa using h
   subst this;exact⟨u,Q⟩
theorem yv(F:Fun K "_law_order" "_law_order" nM f Y)(T:Txt K I)(B:FnD P w K I base "_law_draw" 1 2 dw):aV P w K I base CX0 2 f Y ["_law_pool_here","_law_marks_here","_law_most"] (spD K 3 tJ):=by
 have C:=rf.nd;refine F.okR rfl rf (λS A n s H E J=>⟨_,(ak (aK (i:=3) C rfl (R8 rfl) (iK ah))
   (ak (bH Q5 rfl (b7 rfl T.b_range (ae (qd B J (ae (aa 0) (ae (aW aP (aa 2) am) ah))) ah)) (aI (i:=4) C rfl (R8 rfl)) (ak (aK (i:=5) C rfl (R8 rfl) (aZ a7 (aa 1) (qd B J (ae (aa 0) (ae (aU cM rfl T.b_len (by kernel_rfl) (ae (aa 1) ah)) ah))) (λ_ _=>rfl)))
   (ao (gb (og (aa 3) (bt (ae (aa 5) (ae (aZ a7 (aa 1) (qd B J (ae (aa 0) (ae (aU cM rfl T.b_len (by kernel_rfl) (ae (aa 1) ah)) ah))) (λ_ _=>rfl)) ah))))))))
   (ao (iQ (cB fB rfl T.b_tuple (by kernel_rfl) (ae (aa 3) ah)))))),λds M R _ U bk=>?_⟩)
 obtain⟨p,l,Q,c,rfl,L,N,O,o,h0,h1,k⟩:=U;refine bk ?_;clear bk;walk_at"";refine⟨sz3 0,λq j=>?_⟩;have a:p≠q:=by rintro rfl;rw[L]at j;cases j
 refine⟨p,l,_,rfl,by rw[aA a];exact L,N,by lia,by lia,λv m h2 h3 u=>?_⟩;refine⟨v,rfl,by lia,by lia,?_⟩;have e:ay (ay M q (.lst [])) p (.lst m)=ay (ay M p (.lst m)) q (.lst (([]:List (Str×Str)).map aJ)):=by
  rw[cp a];rfl
 rw[e];refine tq a Q c O o _ none none M m [] j u (λx Z=>absurd Z (by simp)) (by rw[bT];simp;lia) (λy4 y5 X h G z g=>?_);walk_at"";refine⟨_,o6 (by rw[aA (aa3 a)];exact j),k h X (by rw[bT]at g;simp at g;lia) z G⟩
noncomputable def jh(ord:List (Str×Str))(F:List Str):List Str:=F++(ord.filter λp=>decide (p.1∈F)&&!decide (p.2∈F)).map (·.2)
def js(ord:List (Str×Str))(F:List Str):Prop:=∀p∈ord,p.1∈F->p.2∈F
noncomputable def k8(ord:List (Str×Str))(F:List Str):Nat:=(ord.filter λp=>decide (p.2∈F)).length
theorem tL{ord:List (Str×Str)}{F:List Str}{x:Str}(h:x∈F):x∈jh ord F:=ab5 _ h
theorem Bp{ord:List (Str×Str)}{F:List Str}:(jh ord F).length<=F.length+ord.length:=by
 unfold jh;rw[O6,s0];have:=aa8 (λp:Str×Str=>decide (p.1∈F)&&!decide (p.2∈F)) ord
 lia
theorem vp{ord:List (Str×Str)}{F:List Str}(h:js ord F):jh ord F=F:=by
 unfold jh;have:(ord.filter λp=>decide (p.1∈F)&&!decide (p.2∈F))=[]:=by
  rw[List.filter_eq_nil_iff];intro p c
  by_cases a:p.1∈F
  ·simp[a,h p c a]
  ·simp[a]
 rw[this];simp
theorem sL{F G:List Str}(h:∀x∈F,x∈G):∀{ord:List (Str×Str)},k8 ord F<=k8 ord G
 |[]=>N2 _
 |p::ord=>by
  have ih:=sL h (ord:=ord);unfold k8 at ih ⊢
  by_cases a:p.2∈F
  ·simp[ab1,a,h _ a];exact ih
  ·by_cases c:p.2∈G
   ·simp[ab1,a,c];exact U7 (by assumption)
   ·simp[ab1,a,c];exact ih
theorem Aa{F G:List Str}(h:∀x∈F,x∈G){q:Str×Str}(f:q.2∉F)(i:q.2∈G):∀{ord:List (Str×Str)},q∈ord->k8 ord F<k8 ord G
 |p::ord,c=>by
  have g:=sL h (ord:=ord);rcases O9.mp c with e|c
  ·subst e;unfold k8 at g ⊢;simp[ab1,f,i];lia
  ·have ih:=Aa h f i c;unfold k8 at g ih ⊢
   by_cases a:p.2∈F
   ·simp[ab1,a,h _ a];exact ih
   ·by_cases j:p.2∈G
    ·simp[ab1,a,j];exact U7 (by assumption)
    ·simp[ab1,a,j];exact ih
theorem FV{ord:List (Str×Str)}{F:List Str}:k8 ord F<=ord.length:=aa8 _ _
theorem wa{F:List Str}:∀{ord:List (Str×Str)},ord.length<=k8 ord F->∀p∈ord,p.2∈F
 |p::ord,h,q,c=>by
  have f:=FV (ord:=ord) (F:=F);unfold k8 at h f
  by_cases a:p.2∈F
  ·rcases O9.mp c with e|c
   ·subst e;exact a
   ·refine wa (ord:=ord) ?_ q c;unfold k8;simp[ab1,a]at h;exact h
  ·simp[ab1,a]at h
   lia
theorem AN{ord:List (Str×Str)}{F:List Str}{k:Nat}(h:js ord F∨k<=k8 ord F):js ord (jh ord F)∨k+1<=k8 ord (jh ord F):=by
 by_cases c:js ord F
 ·rw[vp c];exact .inl c
 ·have l:=h.resolve_left c;right;have:∃p∈ord,p.1∈F/\p.2∉F:=X0 λi=>c λp e g=>X0 λa=>i ⟨p,e,g,a⟩;obtain⟨p,e,g,a⟩:=this;have f:p.2∈jh ord F:=S8 _ (P4.mpr ⟨p,W4.mpr ⟨e,by simp[g,a]⟩,rfl⟩);have:=Aa (λx j=>tL (ord:=ord) j) a f e
  lia
theorem Bn{ord:List (Str×Str)}{F:List Str}(h:js ord F∨ord.length<=k8 ord F):js ord F:=by
 rcases h with h|h
 ·exact h
 ·exact λp a _=>wa h p a
theorem vH{ord:List (Str×Str)}{F:List Str}{a:Str}(h:∀x∈F,dI ord a x):∀x∈jh ord F,dI ord a x:=λx c=>by
 rcases P0.mp c with c|c
 ·exact h x c
 ·obtain⟨p,e,rfl⟩:=P4.mp c;obtain⟨e,f⟩:=W4.mp e;simp at f;exact dI.step (h _ f.1) e
noncomputable def pb(F:List Str)(d:D):Bool:=match d with|.tup [.str x,.str y]=>decide (x∈F)&&!decide (y∈F)|_=>false
noncomputable def py(d:D):D:=match d with|.tup [.str _,.str y]=>.str y|_=>.non
theorem Jg{F:List Str}{ord:List (Str×Str)}:((ord.map aJ).filter (pb F)).map py=((ord.filter λp=>decide (p.1∈F)&&!decide (p.2∈F)).map (·.2)).map D.str:=by
 rw[List.filter_map,P9,P9];rfl
def oo:SpD:=gI
theorem uP(F:Fun K "_law_at_most" "_law_at_most" gG f Y)(T:Txt K I):aV P w K I base CX0 1 f Y ["_law_order_here","_law_one","_law_other"] (spD K 3 oo):=by
 have C:=mD.nd;refine F.okR rfl mD (λJ A o s H E hr=>⟨_,(ak (aK (i:=3) C rfl (as5 rfl) (cU (ae (aa 1) ah)))
   (ak (bH Q5 rfl (b7 rfl T.b_range (ae (aU cM rfl T.b_len (by kernel_rfl) (ae (aa 0) ah)) ah)) (aI (i:=4) C rfl (R8 rfl)) (ao (aK (i:=3) C rfl (as5 rfl) (aW aP (aa 3) (eR (ms:=[false,false,false,true,false]) (ar:=["_law_pair"]) (aE rfl (show aS (aj gG) j0 _ _=true from by decide +kernel)) rfl (aM (aa 0)) (aC (i:=5) (show(j0++_).Nodup from by decide +kernel) rfl rfl) (λ_ _ _ _=>(jN (yI (ur (bz pL (aZ a7 (aa 5) am (λ_ _=>rfl)) (aa 3) rfl) (vm (bz ma (aZ a7 (aa 5) am (λ_ _=>rfl)) (aa 3) rfl)))))) (λ_ _ _ _=>(aZ a7 (aa 5) am (λ_ _=>rfl))))))))
   (ao (aN (fW pL (aa 2) (aa 3) rfl))))),λds M R _ N bk=>?_⟩)
 obtain⟨ord,a,b,rfl,ho,k⟩:=N;refine bk ?_;clear bk;walk_at"";rw[s0];refine⟨sz3 1,by lia,by lia,?_⟩;refine aG (λi c l=>∃(F:List Str) (x:Option D),c=[some (D.tup (List.map aJ ord)),some (D.str a),some (D.str b),some (D.lst (F.map D.str)),x]/\l=M/\F.length<=1+i*500/\a∈F/\(∀x∈F,dI ord a x)/\(js ord F∨i<=k8 ord F))
  ⟨[a],none,rfl,rfl,by simp,by simp,λx hx=>by rw[N8.mp hx];exact dI.refl,.inr (O3 _)⟩ ?_ ?_
 ·rintro i d c l X z ⟨F,x,rfl,rfl,U,B,j,g⟩ L;obtain⟨S,rfl⟩:=cD z;simp only[bV];walk_at"";intro hz;refine⟨hz,fT (pb F) py (λc=>∃x,c=[none,none,none,some (D.lst (F.map D.str)),none,x]) _ _ _ (λd z c m=>?_) ⟨none,rfl⟩ ?_⟩
  ·obtain⟨x,rfl⟩:=m;obtain⟨⟨u,v⟩,hp,rfl⟩:=P4.mp z;refine⟨_,rfl,⟨_,rfl⟩,λQ1 q=>?_,λ_ Q2 q=>?_⟩
   ·simp only[aJ];walk_at"";refine⟨_,if_pos ⟨rfl,ip⟩,_,rfl,?_⟩;rw[fP];simp only[aJ,pb]at q;refine fw (λh=>?_) (λh=>?_)
    ·simp only[ae9]at h;refine⟨_,if_pos ⟨rfl,ip⟩,_,rfl,?_⟩;rw[fP];simpa[h]using q
    ·simp only[ae9]at h;have O:decide (u∈F)=false:=by simpa using h
     simpa[O]using q
   ·simp only[aJ];walk_at"";exact q
  ·rw[P1,Jg];have Q:=Bp (ord:=ord) (F:=F);have G:(jh ord F).length=F.length+(ay8 (λp=>decide (p.1∈F)&&!decide (p.2∈F)) ord).length:=by unfold jh;simp
   have Z:i<ord.length:=by simpa using S
   refine⟨_,if_pos (by simp only[s0];rw[<-G];refine szB _ ?_;have:i*500<=500*500:=ag1 _ (by lia);lia),?_⟩;refine L _ _ ⟨jh ord F,some (D.int (0+(i:Int))),by rw[<-P7];rfl,rfl,?_,tL B,vH j,AN g⟩
   ·rw[Nat.add_mul];lia
 ·rintro c l ⟨F,x,rfl,rfl,U,B,j,g⟩;have n:js ord F:=Bn (by rw[bT]at g;simpa using g);walk_at"";refine⟨_,if_pos ⟨rfl,ip⟩,?_⟩;rw[fP];have e:(false ^^ decide (b∈F))=rB ord a b:=by
   rw[ae9,W0,uH,decide_eq_true_eq];exact⟨λh=>j b h,λh=>xh B n h⟩
  rw[e];exact k
def n9:SpD:=λa M R=>∃(ord:List (Str×Str)) (x y:Str×Int),a=[.tup (ord.map aJ),aD x,aD y]/\ord.length<=500/\R (.bl (x.2+1==y.2&&lB ord x.2 x.1 y.1)) M
theorem vf(F:Fun K "_law_cancels" "_law_cancels" jU f Y)(T:Txt K I)(a:FnD P w K I base "_law_at_most" 1 3 oo):aV P w K I base CX0 2 f Y ["_law_order_here","_law_one","_law_other"] (spD K 3 n9):=by
 have o:=mO.nd;refine F.okR rfl mO (λl A g s H E c=>⟨_,(ak (cV (bz (Iz c.units) (aZ a7 (aa 2) am (λ_ _=>rfl)) (aW aP (aZ a7 (aa 1) am (λ_ _=>rfl)) am) nbh) (ao (aN Ax)) bW)
   (ak (cV (bz (mm c.units) (aW mK (aZ a7 (aa 1) am (λ_ _=>rfl)) am) am nbh) (ao (aN (qd a c (ae (aa 0) (ae (aZ a7 (aa 1) am (λ_ _=>rfl)) (ae (aZ a7 (aa 2) am (λ_ _=>rfl)) ah)))))) bW)
   (ao (aN (qd a c (ae (aa 0) (ae (aZ a7 (aa 2) am (λ_ _=>rfl)) (ae (aZ a7 (aa 1) am (λ_ _=>rfl)) ah)))))))),λn M R _ m bk=>?_⟩)
 obtain⟨ord,x,y,rfl,j,k⟩:=m;refine bk ?_;clear bk;simp only[aD];walk_at""
 by_cases h:y.2=x.2+1
 ·rw[if_neg (by simp[h])];have e:(x.2+1==y.2&&lB ord x.2 x.1 y.1)=lB ord x.2 x.1 y.1:=by simp[h]
  rw[e]at k;refine fw (λi=>?_) (λi=>?_)
  ·rw[zh (beq_iff_eq.mp i)]at k;exact⟨ord,_,_,rfl,j,k⟩
  ·rw[D9 (λq=>i (by rw[q];rfl))]at k;exact⟨ord,_,_,rfl,j,k⟩
 ·rw[if_pos (by simp[h])];have e:(x.2+1==y.2&&lB ord x.2 x.1 y.1)=false:=by
   have:(x.2+1==y.2)=false:=by simpa using λq:x.2+1=y.2=>h q.symm
   simp only[this,Bool.false_and]
  rw[e]at k;exact k
theorem Fh{xs:List D}{i:Nat}:L2.cZ xs (some (i:Int)) (some ((i:Int)+1))=(xs.drop i).take 1:=by
 have h:((i:Int)+1)=((i+1:Nat):Int):=by lia
 rw[h];unfold L2.cZ;rw[HT.sIx_nat,HT.sIx_nat]
 by_cases h:i+1<=xs.length
 ·rw[ak1 h,ak1 (by exact T8 (by assumption)),Nat.add_sub_cancel_left]
 ·rw[Nat.min_eq_right (by lia)];have c:xs.drop (min i xs.length)=[]:=Z8 (by lia);have a:xs.drop i=[]:=Z8 (by lia);rw[c,a,List.take_nil,List.take_nil]
def wf:SpD:=λc M R=>∃(a:List Int) (i:Nat),c=[.scr (a.map .int),.int (i:Int)]/\i<=1/\a.length<=1000/\R (.int (a.getD i 0)) M
theorem Bo(F:Fun K "_law_cell" "_law_cell" pO f Y)(T:Txt K I):aV P w K I base CX0 1 f Y ["_law_script","_law_place"] (spD K 2 wf):=by
 have o:=ub.nd;refine F.okR rfl ub (λe A c s H E q=>⟨_,(ao (aN (aZ a7 (aW aP (eI (aa 0) (fm (aa 1)) (fm (aW aP (aa 1) am))) (cU (ae am ah))) am (λ_ _=>rfl)))),λm M R _ g bk=>?_⟩);obtain⟨a,i,rfl,n,p,k⟩:=g;refine bk ?_;clear bk;walk_at"";have j:=Fh (xs:=a.map D.int) (i:=i);rw[j];refine⟨by rw[O7];decide,_,if_pos (by rw[S2,O7];lia),.int (a.getD i 0),?_,k⟩;show atI _ ((0:Nat):Int)=_;refine cf ?_;rw[<-aw6,<-at6,S5];cases h:a[i]? with
 |none =>
  have:a.drop i=[]:=Z8 (List.getElem?_eq_none_iff.mp h);rw[this];rfl
 |some v =>
  have l:i<a.length:=(N4.mp h).1;rw[T5 l];have:a[i]=v:=(N4.mp h).2;simp[this]
def wy:SpD:=λc M R=>∃(a:List Str) (n:Nat),c=[.lst (a.map .str),.int (n:Int)]/\a.length<=8/\n<=4/\R (.lst ((aB (aT a) n).map wsD)) M
theorem Bk(F:Fun K "_law_rows" "_law_rows" lS f Y)(T:Txt K I):aV P w K I base CX0 1 f Y ["_law_words","_law_length"] (spD K 2 wy):=by
 have g:=tV.nd;refine F.okR rfl tV (λN A p s H E G=>⟨_,(ak (aK (i:=2) g rfl (R8 rfl) (cU (ae (bt ah) ah)))
   (ak (bH Q5 rfl (b7 rfl T.b_range (ae (aa 1) ah)) (aI (i:=3) g rfl (R8 rfl)) (ak (aK (i:=4) g rfl (R8 rfl) (cU ah))
   (ak (bH Q5 rfl (aM (aa 2)) (aI (i:=5) g rfl (as5 rfl)) (ao (aK (i:=4) g rfl (R8 rfl) (aW aP (aa 4) (eR (ms:=[false,false,false,false,false,true]) (ar:=["_law_word_here"]) (aE rfl (show aS (aj lS) pQ _ _=true from by decide +kernel)) rfl (aM (aU zO rfl T.b_sorted (by kernel_rfl) (ae (aa 0) ah))) (aC (i:=6) (show(pQ++_).Nodup from by decide +kernel) rfl rfl) (λ_ _ _ _=>bh) (λ_ _ _ _=>(aW aP (aa 5) (bt (ae (aa 6) ah)))))))))
   (ao (aK (i:=2) g rfl (R8 rfl) (aa 4))))))
   (ao (aN (aa 2))))),λds M R _ U bk=>?_⟩)
 obtain⟨a,n,rfl,O,hn,k⟩:=U;refine bk ?_;clear bk;walk_at"";have hx:(aT a).length<=8:=by rw[(br _).length_eq];exact O
 refine⟨O3 _,by rw[O7];decide,by lia,by lia,?_⟩;rw[U2];refine aG (λi c o=>∃z u h,c=[some (D.lst (a.map D.str)),some (D.int (n:Int)),some (D.lst ((aB (aT a) i).map wsD)),z,u,h]/\o=M) ⟨_,_,_,rfl,rfl⟩ ?_ ?_
 ·rintro i d c o X Q ⟨z,u,h,rfl,rfl⟩ S;obtain⟨hi,rfl⟩:=cD Q;have h8:8 ^ (i+1)<=4096:=by
   have:i+1<=4:=by exact O4 (by assumption) (by assumption)
   exact N3 (W3 (by decide) this) (by decide)
  have bp:=eJ hx (i+1);refine⟨_,rfl,?_⟩;simp only[vh,mR,BX,fk,yk,gK,bN];refine⟨O3 _,_,rfl,_,rfl,λ_=>?_⟩;refine aG (λj c M1=>∃h,c=[some (D.lst (a.map D.str)),some (D.int (n:Int)),some (D.lst ((aB (aT a) i).map wsD)),some (D.int (0+(i:Int))),some (D.lst ((((aB (aT a) i).take j).flatMap λr=>(aT a).map λx=>r++[x]).map wsD)),h]/\M1=o) ⟨_,rfl,rfl⟩ ?_ ?_
  ·rintro j d c M1 X2 C ⟨Z,rfl,rfl⟩ k2;obtain⟨r,G,rfl⟩:=bU C;have J:=P3 G;refine⟨_,rfl,?_⟩;simp only[dOp,dLc,dCB,cE,bN,fk];refine⟨_,rfl,_,rfl,_,zp (by lia),_,rfl,λ_=>⟨by rw[s0,O7];exact N3 (by assumption) (by decide),?_⟩⟩;refine aY D.str (λ_=>true) (λx=>wsD (r++[x])) (λc=>∃x,c=[none,none,none,none,none,some (wsD r),x]) _ _ _ ?_ ⟨_,rfl⟩ ?_
   ·rintro x L c ⟨b,rfl⟩;refine⟨_,rfl,⟨_,rfl⟩,λQ1 q=>q,λ_ Q2 q=>?_⟩;have a0:r.length<=4:=by rw[de J];lia
    refine⟨_,rfl,_,rfl,by simp only[O2,V5];rw[O7];decide,wsD (r++[x]),?_,q⟩;show gM (.tup (r.map D.str)) (.tup [D.str x])=_;rw[fq,if_pos (by rw[s0,O7];simp;exact N3 (by assumption) (by decide))];simp[wsD]
   ·rw[U0.mpr (λ_ _=>rfl),P1];have m:((aB (aT a) i).take (j+1)).flatMap (λr=>(aT a).map λx=>r++[x])=(((aB (aT a) i).take j).flatMap λr=>(aT a).map λx=>r++[x])++(aT a).map λx=>r++[x]:=by
     rw[S1,G,ah4];simp
    have B:(((aB (aT a) i).take (j+1)).flatMap λr=>(aT a).map λx=>r++[x]).length<=(aB (aT a) (i+1)).length:=by
     have e:=congrArg (λl=>(l.flatMap λr=>(aT a).map λx=>r++[x]).length) (ac8 (j+1) (aB (aT a) i));simp only[ah4,O6]at e;show _<=((aB (aT a) i).flatMap _).length
     lia
    rw[m,O6,s0]at B;refine⟨_,if_pos (show ad2 _+ad2 _<=N7 by rw[s0,s0,O7];lia),k2 _ _ ⟨some (wsD r),?_,rfl⟩⟩;rw[m,P7,P9];rfl
  ·rintro c M1 ⟨Z,rfl,rfl⟩;rw[s0,S6];exact⟨_,rfl,S _ _ ⟨_,_,_,rfl,rfl⟩⟩
 ·rintro c o ⟨z,u,h,rfl,rfl⟩;rw[show(jm 0 n).length=n by simp[jm]];walk_at"";exact k
section
variable{σ:Type}
noncomputable def nQ:List σ->List (List σ×σ×List σ)
 |[]=>[]
 |y::a=>([],y,a)::(nQ a).map λc=>(y::c.1,c.2.1,c.2.2)
theorem mY{xs:List σ}:∀{c:List σ×σ×List σ},c∈nQ xs->c.1.length+c.2.2.length+1=xs.length:=by
 induction xs with
 |nil=>intro c h;cases h
 |cons y e ih =>
  intro c h;rcases O9.mp h with rfl|h
  ·simp
  ·obtain⟨d,a,rfl⟩:=P4.mp h;have:=ih a;simp;lia
def Wf(R:σ->σ->Bool):Nat->List σ->Nat
 |_,[]=>1
 |0,_::_=>0
 |k+1,x::a=>((nQ a).map λc=>if R x c.2.1 then Wf R k c.1*Wf R k c.2.2 else 0).sum
def W(R:σ->σ->Bool)(xs:List σ):Nat:=Wf R xs.length xs
theorem GU{R:σ->σ->Bool}:∀{k:Nat}{xs:List σ},xs.length<=k->Wf R k xs=W R xs:=by
 have a:∀(n k j:Nat) (xs:List σ),xs.length<=n->xs.length<=k->xs.length<=j->Wf R k xs=Wf R j xs:=by
  intro n
  induction n with
  |zero =>
   intro k j xs h _ _;have:xs=[]:=List.eq_nil_of_length_eq_zero (by lia);subst this;simp[Wf]
  |succ n ih =>
   intro k j xs h hk hj;cases xs with
   |nil=>simp[Wf]
   |cons x xs =>
    simp only[O2]at h hk hj;obtain⟨k,rfl⟩:∃m,k=m+1:=⟨k-1,by lia⟩;obtain⟨j,rfl⟩:∃m,j=m+1:=⟨j-1,by lia⟩;simp only[Wf];congr 1;apply R5;intro c e;have:=mY e;rw[ih k j c.1 (by lia) (by lia) (by lia),ih k j c.2.2 (by lia) (by lia) (by lia)]
 intro k xs h;exact a k k xs.length xs h h (N2 _)
theorem xk{R:σ->σ->Bool}:W R []=1:=by simp[W,Wf]
theorem uZ{R:σ->σ->Bool}{x:σ}{xs:List σ}:W R (x::xs)=((nQ xs).map λc=>if R x c.2.1 then W R c.1*W R c.2.2 else 0).sum:=by
 show Wf R (xs.length+1) (x::xs)=_;simp only[Wf];congr 1;apply R5;intro c a;have:=mY a;rw[GU (by lia),GU (by lia)]
theorem vN{a:Type}{f:a->Nat}{m:Nat}:∀{l:List a},(l.map f).sum*m=(l.map λx=>f x*m).sum
 |[]=>by simp
 |x::l=>by simp only[N5,W8,Nat.add_mul,vN (l:=l)]
theorem wm{a:Type}{f:a->Nat}{m:Nat}:∀{l:List a},m*(l.map f).sum=(l.map λx=>m*f x).sum
 |[]=>by simp
 |x::l=>by simp only[N5,W8,Nat.mul_add,wm (l:=l)]
theorem o7{a:Type}{f g:a->Nat}:∀{l:List a},(l.map λx=>f x+g x).sum=(l.map f).sum+(l.map g).sum
 |[]=>by simp
 |x::l=>by simp only[N5,W8,o7 (l:=l)];lia
theorem eF{a:Type}{f:a->Nat}:∀{l:List a},(∀x∈l,f x=0)->(l.map f).sum=0
 |[],_=>by simp
 |x::l,h=>by
  simp only[N5,W8,h x (.head _),eF λy c=>h y (.tail _ c)]
theorem GF{R:σ->σ->Bool}:∀(n:Nat) (xs:List σ),xs.length<=n->xs.length % 2=1->W R xs=0:=by
 intro n
 induction n with
 |zero=>intro xs h o;lia
 |succ n ih =>
  intro xs h o;cases xs with
  |nil=>simp at o
  |cons x xs =>
   simp only[O2]at h o;rw[uZ];refine eF λc a=>?_;have:=mY a
   by_cases e:c.1.length % 2=1
   ·rw[ih c.1 (by lia) e];simp
   ·rw[ih c.2.2 (by lia) (by lia)];simp
theorem dQ{a:Type}{f:a->Nat}{m:Nat}:∀{l:List a},(∀x∈l,f x<=m)->(l.map f).sum<=l.length*m
 |[],_=>by simp
 |x::l,h=>by
  simp only[N5,W8,O2,Nat.add_mul,Nat.one_mul];have:=dQ (l:=l) λy c=>h y (.tail _ c);have:=h x (.head _)
  lia
theorem wZ{xs:List σ}:(nQ xs).length=xs.length:=by
 induction xs with
 |nil=>rfl
 |cons x xs ih=>simp[nQ,ih]
theorem Lx{R:σ->σ->Bool}:∀(n:Nat) (xs:List σ),xs.length<=n->n<=100->W R xs<=100 ^ xs.length:=by
 intro n
 induction n with
 |zero =>
  intro xs h _;have:xs=[]:=List.eq_nil_of_length_eq_zero (by lia);subst this;simp[xk]
 |succ n ih =>
  intro xs h f;cases xs with
  |nil=>simp[xk]
  |cons x xs =>
   simp only[O2]at h ⊢;rw[uZ];refine N3 (dQ (m:=100 ^ xs.length) λc a=>?_) ?_
   ·have:=mY a
    by_cases e:R x c.2.1=true
    ·rw[if_pos e];refine N3 (Nat.mul_le_mul (ih c.1 (by lia) (by exact T8 (by assumption))) (ih c.2.2 (by lia) (by exact T8 (by assumption)))) ?_;rw[<-au5];exact W3 (by decide) (by lia)
    ·rw[if_neg e];exact O3 _
   ·rw[wZ,ai6,am9];exact Nat.mul_le_mul_left _ (by lia)
end
theorem xc{c e:Type}{f:c->e->Nat}:∀{l:List c}{m:List e},(l.map λa=>(m.map λb=>f a b).sum).sum=(m.map λb=>(l.map λa=>f a b).sum).sum
 |[],m=>by simp[eF]
 |a::l,m=>by simp only[N5,W8,xc (l:=l),<-o7]
theorem lM{c e:Type}{g:e->Nat}{f:c->List e}:∀{l:List c},((l.flatMap f).map g).sum=(l.map λa=>((f a).map g).sum).sum
 |[]=>rfl
 |a::l=>by rw[ae5,P7,aa7,lM (l:=l)];rfl
theorem zX{c:Type}[DecidableEq c]{f:c->Nat}{p:c}:∀{A:List c},A.Nodup->p∈A->(A.map λm=>if p=m then f m else 0).sum=f p
 |[],_,h=>by cases h
 |a::A,g,h=>by
  rw[Z1]at g;rw[N5,W8]
  by_cases e:p=a
  ·subst e;rw[if_pos rfl,eF λm i=>if_neg λz=>g.1 (by rw[z];exact i)];rfl
  ·rw[if_neg e,zX g.2 ((O9.mp h).resolve_left e),as6]
theorem zW{l:Type}{f:l->Nat}:∀{B A:List l},B.Nodup->A.Nodup->(∀x∈B,x∈A)->(∀x∈A,x∉B->f x=0)->(A.map f).sum=(B.map f).sum
 |[],A,_,_,_,h=>by rw[eF λx c=>h x c (by simp)];rfl
 |b::B,A,g,n,i,h=>by
  obtain⟨j,m,rfl⟩:=List.append_of_mem (i b (.head _));rw[Z1]at g;have e:(b::(j++m)).Nodup:=(al7.nodup_iff).mp n;rw[Z1]at e;have ih:=zW (f:=f) (B:=B) (A:=j++m) g.2 e.2 (λx c=>by
   have a:=i x (.tail _ c);have p:x≠b:=λz=>g.1 (by rw[<-z];exact c);simp only[P0,O9]at a ⊢;rcases a with a|a|a
   ·exact .inl a
   ·exact absurd a p
   ·exact .inr a) (λx c o=>h x (by simp only[P0,O9]at c ⊢;rcases c with q|q;exact .inl q;exact .inr (.inr q)) λz=>by
    rcases O9.mp z with q|q
    ·exact e.1 (by rw[<-q];exact c)
    ·exact o q)
  rw[P7,N5,aa7,W8,N5,W8,<-ih,P7,aa7]
  lia
section
variable{H σ:Type} [DecidableEq H]
structure Net(H σ:Type) where
 sg:H->Option σ
 nx:H->H
 bg:H->List H
noncomputable def St(N:Net H σ):Nat->H->H->List (List σ)
 |0,_,_=>[]
 |f+1,p,q=>(if p=q then[[]]else[])++match N.sg p with
  |some x=>(St N f (N.nx p) q).map (x::·)
  |none=>(N.bg p).flatMap λb=>St N f b q
structure dE(N:Net H σ) (A:List H) (rk:H->Nat):Prop where
 sg:∀p∈A,(N.sg p).isSome->N.nx p∈A/\rk (N.nx p)<rk p
 bg:∀p∈A,N.sg p=none->∀b∈N.bg p,b∈A/\rk b<rk p
variable{N:Net H σ}{A:List H}{rk:H->Nat}
theorem iN{a e:Type}{f g:a->List e}:∀{l:List a},(∀x∈l,f x=g x)->l.flatMap f=l.flatMap g
 |[],_=>rfl
 |x::l,h=>by rw[ae5,ae5,h x (.head _),iN λy c=>h y (.tail _ c)]
theorem uE(F:dE N A rk):∀(f g:Nat) (p q:H),p∈A->rk p<f->rk p<g->St N f p q=St N g p q
 |0,_,_,_,_,h,_=>absurd h (Nat.not_lt_zero _)
 |_,0,_,_,_,_,h=>absurd h (Nat.not_lt_zero _)
 |f+1,g+1,p,q,c,l,j=>by
  unfold St;cases h:N.sg p with
  |some x =>
   obtain⟨a,i⟩:=F.sg p c (by rw[h];rfl);simp only[];rw[uE F f g (N.nx p) q a (by lia) (by lia)]
  |none =>
   simp only[];congr 1;refine iN λb e=>?_;obtain⟨a,i⟩:=F.bg p c h b e;exact uE F f g b q a (by lia) (by lia)
def Sts(N:Net H σ)(rk:H->Nat)(p q:H):List (List σ):=St N (rk p+1) p q
theorem C0(F:dE N A rk){f:Nat}{p q:H}(a:p∈A)(h:rk p<f):St N f p q=Sts N rk p q:=uE F _ _ _ _ a h (by exact N2 _)
theorem ig(F:dE N A rk){p q:H}{x:σ}(c:p∈A)(h:N.sg p=some x):Sts N rk p q=(if p=q then[[]]else[])++(Sts N rk (N.nx p) q).map (x::·):=by
 obtain⟨e,a⟩:=F.sg p c (by rw[h];rfl);unfold Sts;rw[St,h];simp only[];rw[C0 F e a];rfl
theorem jB(F:dE N A rk){p q:H}(f:p∈A)(h:N.sg p=none):Sts N rk p q=(if p=q then[[]]else[])++(N.bg p).flatMap λb=>Sts N rk b q:=by
 unfold Sts;rw[St,h];simp only[];congr 1;refine iN λb a=>?_;obtain⟨c,e⟩:=F.bg p f h b a;rw[C0 F c e];rfl
theorem uW(F:dE N A rk)(i:A.Nodup):∀(f:Nat) (p q:H) (G:List σ->σ->List σ->Nat),p∈A->rk p<f ->
  ((Sts N rk p q).map λs=>((nQ s).map λc=>G c.1 c.2.1 c.2.2).sum).sum=(A.map λm=>match N.sg m with|none=>0|some y=>((Sts N rk p m).map λu=>((Sts N rk (N.nx m) q).map λv=>G u y v).sum).sum).sum
 |0,_,_,_,_,h=>absurd h (Nat.not_lt_zero _)
 |f+1,p,q,G,a,C=>by
  cases h:N.sg p with
  |some x =>
   obtain⟨l,B⟩:=F.sg p a (by rw[h];rfl);have ih:=uW F i f (N.nx p) q (λu=>G (x::u)) l (by lia);have n:(A.map λm=>match N.sg m with|none=>0|some y=>((Sts N rk p m).map λu=>((Sts N rk (N.nx m) q).map λv=>G u y v).sum).sum)=A.map λm=>(if p=m then((Sts N rk (N.nx p) q).map λv=>G [] x v).sum else 0)+match N.sg m with|none=>0|some y=>((Sts N rk (N.nx p) m).map λu=>((Sts N rk (N.nx m) q).map λv=>G (x::u) y v).sum).sum:=by
    refine R5 λm w=>?_
    by_cases e:p=m
    ·subst e;rw[if_pos rfl,h];simp only[];rw[ig F a h,if_pos rfl,P7,aa7,P9];simp[ag9]
    ·rw[if_neg e,as6];cases N.sg m with
     |none=>rfl
     |some y =>
      simp only[];rw[ig F a h,if_neg e,P1,P9];rfl
   rw[n,o7,zX (f:=λ_=>((Sts N rk (N.nx p) q).map λv=>G [] x v).sum) i a,<-ih,ig F a h,P7,aa7,P9];have j:((if p=q then[([]:List σ)]else[]).map λs=>((nQ s).map λc=>G c.1 c.2.1 c.2.2).sum).sum=0:=by
    by_cases e:p=q
    ·rw[if_pos e];rfl
    ·rw[if_neg e];rfl
   rw[j,as6,<-o7];congr 1;refine R5 λs _=>?_;simp[nQ,ag9]
  |none =>
   have n:(A.map λm=>match N.sg m with|none=>0|some y=>((Sts N rk p m).map λu=>((Sts N rk (N.nx m) q).map λv=>G u y v).sum).sum)=A.map λm=>((N.bg p).map λb=>match N.sg m with|none=>0|some y=>((Sts N rk b m).map λu=>((Sts N rk (N.nx m) q).map λv=>G u y v).sum).sum).sum:=by
    refine R5 λm w=>?_;cases g:N.sg m with
    |none=>exact(eF λ_ _=>rfl).symm
    |some y =>
     have e:p≠m:=λz=>by rw[<-z,h]at g;cases g
     simp only[];rw[jB F a h,if_neg e,P1,lM]
   rw[n,xc,jB F a h,P7,aa7];have j:((if p=q then[([]:List σ)]else[]).map λs=>((nQ s).map λc=>G c.1 c.2.1 c.2.2).sum).sum=0:=by
    by_cases e:p=q
    ·rw[if_pos e];rfl
    ·rw[if_neg e];rfl
   rw[j,as6,lM];congr 1;refine R5 λb o=>?_;obtain⟨l,B⟩:=F.bg p a h b o;exact uW F i f b q G l (by lia)
def cnt(R:σ->σ->Bool)(N:Net H σ)(rk:H->Nat)(p q:H):Nat:=((Sts N rk p q).map (W R)).sum
variable{R:σ->σ->Bool}
theorem Ck(F:dE N A rk){p q:H}(a:p∈A)(h:N.sg p=none):cnt R N rk p q=(if p=q then 1 else 0)+((N.bg p).map λb=>cnt R N rk b q).sum:=by
 unfold cnt;rw[jB F a h,P7,aa7,lM];congr 1
 by_cases e:p=q
 ·rw[if_pos e,if_pos e];simp[xk]
 ·rw[if_neg e,if_neg e];rfl
theorem Cr(F:dE N A rk)(f:A.Nodup){p q:H}{x:σ}(a:p∈A)(h:N.sg p=some x):cnt R N rk p q=(if p=q then 1 else 0)+(A.map λm=>if(N.sg m).elim false (R x)=true then cnt R N rk (N.nx p) m*cnt R N rk (N.nx m) q else 0).sum:=by
 obtain⟨i,l⟩:=F.sg p a (by rw[h];rfl);have g:cnt R N rk p q=(if p=q then 1 else 0)+((Sts N rk (N.nx p) q).map λs=>W R (x::s)).sum:=by
  unfold cnt;rw[ig F a h,P7,aa7,P9];congr 1
  by_cases e:p=q
  ·rw[if_pos e,if_pos e];simp[xk]
  ·rw[if_neg e,if_neg e];rfl
 rw[g];congr 1;have j:((Sts N rk (N.nx p) q).map λs=>W R (x::s))=(Sts N rk (N.nx p) q).map λs=>((nQ s).map λc=>(λu y v=>if R x y=true then W R u*W R v else 0) c.1 c.2.1 c.2.2).sum:=R5 λs _=>uZ;rw[j,uW F f _ (N.nx p) q (λu y v=>if R x y=true then W R u*W R v else 0) i (ab9 _)];congr 1;refine R5 λm _=>?_;cases N.sg m with
 |none=>rfl
 |some y =>
  by_cases e:R x y=true
  ·rw[if_pos (show(some y).elim false (R x)=true from e)];unfold cnt;rw[vN];show List.sum _=_;congr 1;refine R5 λu _=>?_;rw[wm];congr 1;exact R5 λv _=>by rw[if_pos e]
  ·rw[if_neg (show ¬ (some y).elim false (R x)=true from e)];exact eF λu _=>eF λv _=>by rw[if_neg e]
theorem yy:∀{f:Nat}{p q:H}{s:List σ},s∈St N f p q->s.length<=f
 |0,_,_,_,h=>by cases h
 |f+1,p,q,s,h=>by
  unfold St at h;rcases P0.mp h with h|h
  ·split at h
   ·rw[N8.mp h];exact O3 _
   ·cases h
  ·cases c:N.sg p with
   |some x =>
    rw[c]at h;obtain⟨t,a,rfl⟩:=P4.mp h;have:=yy a;simp;assumption
   |none =>
    rw[c]at h;obtain⟨b,e,a⟩:=Z4.mp h;have:=yy a;exact U7 (by assumption)
theorem xQ{k:Nat}(a:∀p,(N.bg p).length<=k):∀{f:Nat}{p q:H},(St N f p q).length<=(k+2) ^ f
 |0,_,_=>by simp[St]
 |f+1,p,q=>by
  unfold St;rw[O6];have g:(if p=q then[([]:List σ)]else[]).length<=1:=by split<;>simp
  have n:1<=(k+2) ^ f:=Nat.one_le_pow _ _ (by lia);have c:(k+2) ^ (f+1)=(k+1)*(k+2) ^ f+(k+2) ^ f:=by rw[ai6,am9,ax0]
  cases j:N.sg p with
  |some x =>
   simp only[];rw[s0];have:=xQ a (f:=f) (p:=N.nx p) (q:=q);have i:(k+2) ^ f<=(k+1)*(k+2) ^ f:=Nat.le_mul_of_pos_left _ (by lia)
   lia
  |none =>
   simp only[];rw[al3];have h:=dQ (f:=λb=>(St N f b q).length) (m:=(k+2) ^ f) (l:=N.bg p) λb _=>xQ a;have e:=ag1 ((k+2) ^ f) (a p);rw[ax0]at c
   lia
theorem EX{k f:Nat}(c:∀p,(N.bg p).length<=k){p q:H}(hr:rk p<f)(e:f<=100):cnt R N rk p q<=(k+2) ^ f*100 ^ f:=by
 unfold cnt;refine N3 (dQ (m:=100 ^ f) λs a=>?_) ?_
 ·have g:=yy a;exact N3 (Lx 100 s (by lia) (N2 _)) (W3 (by decide) (by exact N3 (by assumption) (by assumption)))
 ·exact ag1 _ (N3 (xQ c) (W3 (by lia) (by assumption)))
end
theorem pC{a:Type}{f:a->Nat}:∀{l:List a},(l.map λx=>((f x:Nat):Int)).sum=(((l.map f).sum:Nat):Int)
 |[]=>rfl
 |x::l=>by simp only[N5,W8,pC (l:=l),au7]
def rel(ord:List (Str×Str))(x y:Str×Int):Bool:=x.2+1==y.2&&lB ord x.2 x.1 y.1
def bK(kd:KD):Net Pl (Str×Int):=⟨cN kd,nxt,bO kd⟩
structure jP(kd:KD) (N:Int) (K B:Nat):Prop where
 up:kd.Pairwise λa b=>a.1<b.1
 bd:∀q∈kd,-1<=q.1/\q.1<=N/\q.2.length<=K/\∀r∈q.2,r.length<=B
noncomputable def gO(N:Int)(B:Nat)(p:Pl):Nat:=((N+1-p.1)*((B:Int)+1)-p.2.2).toNat
def plt(p q:Pl):Prop:=p.1<q.1∨(p.1=q.1/\(p.2.1<q.2.1∨(p.2.1=q.2.1/\p.2.2<q.2.2)))
theorem j9{p q r:Pl}(h:plt p q)(h':plt q r):plt p r:=by unfold plt at *;lia
theorem uQ{p:Pl}(h:plt p p):False:=by unfold plt at h;lia
theorem ke{p:Pl}:plt p (nxt p):=by unfold plt nxt;dsimp only;lia
theorem bR{kd:KD}{p:Pl}:p∈av kd↔∃q∈kd,∃(i:Nat) (row:Row) (j:Nat),q.2[i]?=some row/\j<=row.length/\p=(q.1,(i:Int),(j:Int)):=by
 unfold av iB i9;simp only[Z4,P4,R0];constructor
 ·rintro⟨q,a,r,c,j,e,rfl⟩;have h:=ad0.mp c;exact⟨q,a,r.2,r.1,j,h,by lia,rfl⟩
 ·rintro⟨q,a,i,row,j,c,e,rfl⟩;exact⟨q,a,(row,i),ad0.mpr c,j,Nat.lt_succ_of_le e,rfl⟩
theorem Fu{n:Nat}(h:n<=(2 ^ 4) ^ 100*(2 ^ 7) ^ 100):Few (n:Int):=by
 unfold Few;rw[intBits_le_iff,Int.natAbs_natCast];refine am5 h ?_;rw[<-Nat.pow_mul,<-Nat.pow_mul,<-au5];exact Nat.pow_lt_pow_right (by decide) (by decide)
section
variable{kd:KD}{N:Int}{K B:Nat}
theorem pe(h:kd.Pairwise λa b=>a.1<b.1){q:Int×List Row}(c:q∈kd):look kd q.1=some q.2:=by
 unfold look
 induction kd with
 |nil=>cases c
 |cons a l ih =>
  rw[aq6]at h;rcases O9.mp c with e|e
  ·rw[e,ab7 (by simp)];rfl
  ·have:=h.1 q e;rw[Z9 (by simp;lia)];exact ih h.2 e
theorem jP.sgn(ok:jP kd N K B){q:Int×List Row}(a:q∈kd){i j:Nat}{row:Row}(hr:q.2[i]?=some row):cN kd (q.1,(i:Int),(j:Int))=row[j]? :=
 vG rfl (pe ok.up a) hr
theorem jP.valid(ok:jP kd N K B){p:Pl}(e:p∈av kd):tO kd p:=by
 obtain⟨q,c,i,a,j,f,g,rfl⟩:=bR.mp e;exact⟨q.2,a,i,j,rfl,pe ok.up c,f⟩
theorem p8{p b:Pl}(h:b∈bO kd p):∃a,(p.1+1,a)∈kd/\∃(k:Nat) (row:Row),a[k]?=some row/\b=(p.1+1,(k:Int),0):=by
 unfold bO at h;obtain⟨k,c,rfl⟩:=P4.mp h;cases e:look kd (p.1+1)with
 |none=>rw[e]at c;simp at c
 |some a =>
  rw[e]at c;have f:k<a.length:=by simpa using c
  exact⟨a,mV e,k,a[k],by simp[f],rfl⟩
theorem jP.falls(ok:jP kd N K B):dE (bK kd) (av kd) (gO N B) where
 sg:=by
  intro p l n;obtain⟨q,e,i,a,j,f,A,rfl⟩:=bR.mp l;have h:(a[j]?).isSome:=by rw[<-ok.sgn e f];exact n
  have m:j<a.length:=by simpa using h
  refine⟨bR.mpr ⟨q,e,i,a,j+1,f,m,rfl⟩,?_⟩;obtain⟨_,s,_,g⟩:=ok.bd q e;have z:=g a (P3 f);show((N+1-q.1)*((B:Int)+1)-((j:Int)+1)).toNat<((N+1-q.1)*((B:Int)+1)-(j:Int)).toNat;have G:(1:Int)*((B:Int)+1)<=(N+1-q.1)*((B:Int)+1):=Int.mul_le_mul_of_nonneg_right (by lia) (by lia)
  lia
 bg:=by
  intro p l n b w;obtain⟨q,e,i,a,j,f,A,rfl⟩:=bR.mp l;obtain⟨u,o,k,c,x,rfl⟩:=p8 w;refine⟨bR.mpr ⟨_,o,k,c,0,x,O3 _,rfl⟩,?_⟩;obtain⟨_,_,_,g⟩:=ok.bd q e;obtain⟨_,s,_,_⟩:=ok.bd _ o;have z:=g a (P3 f);show((N+1-(q.1+1))*((B:Int)+1)-0).toNat<((N+1-q.1)*((B:Int)+1)-(j:Int)).toNat;have E:(N+1-q.1)*((B:Int)+1)=(N+1-(q.1+1))*((B:Int)+1)+((B:Int)+1):=by
   rw[show N+1-q.1=(N+1-(q.1+1))+1 by lia,Int.add_mul,Int.one_mul]
  have C:0<=(N+1-(q.1+1))*((B:Int)+1):=Int.mul_nonneg (by simp only[]at s;lia) (by lia)
  lia
theorem jP.bgl(ok:jP kd N K B)(p:Pl):((bK kd).bg p).length<=K:=by
 show(bO kd p).length<=K;unfold bO;rw[s0,Z5];cases h:look kd (p.1+1)with
 |none=>exact O3 _
 |some a=>exact(ok.bd _ (mV h)).2.2.1
theorem jP.rk(ok:jP kd N K B){p:Pl}(e:p∈av kd):(gO N B p:Int)<=(N+2)*((B:Int)+1):=by
 obtain⟨q,c,i,a,j,o,m,rfl⟩:=bR.mp e;obtain⟨l,g,_,h⟩:=ok.bd q c;have n:(N+1-q.1)*((B:Int)+1)<=(N+2)*((B:Int)+1):=Int.mul_le_mul_of_nonneg_right (by lia) (by lia);have f:0<=(N+1-q.1)*((B:Int)+1):=Int.mul_nonneg (by lia) (by lia);show((((N+1-q.1)*((B:Int)+1)-(j:Int)).toNat:Nat):Int)<=_
 lia
theorem nv(h:kd.Pairwise λa b=>a.1<b.1):(av kd).Pairwise plt:=by
 unfold av;rw[List.pairwise_flatMap];constructor
 ·intro q _;unfold iB;rw[List.pairwise_flatMap];constructor
  ·intro r _;unfold i9;rw[an8];refine ar3 ?_ am4;intro a b c;unfold plt;dsimp only;lia
  ·rw[ae8];intro a b i g c x e y f;unfold i9 at e f;obtain⟨j,_,rfl⟩:=P4.mp e;obtain⟨k,_,rfl⟩:=P4.mp f;simp only[List.getElem_zipIdx];unfold plt;dsimp only;lia
 ·refine ar3 ?_ h;intro a b c x e y f;unfold iB i9 at e f;simp only[Z4,P4]at e f;obtain⟨_,_,_,_,rfl⟩:=e;obtain⟨_,_,_,_,rfl⟩:=f;exact .inl c
theorem uI(h:kd.Pairwise λa b=>a.1<b.1):(av kd).Nodup :=
 ar3 (λ{a b} (c:plt a b)=>λe=>uQ (by rw[e]at c;exact c)) (nv h)
theorem rM{l:List Pl}(h:l.Pairwise plt){i:Nat}{p q:Pl}(n:l.reverse[i]?=some p)(f:q∈l)(g:plt p q):q∈l.reverse.take i:=by
 have o:l.reverse.Pairwise λa b=>plt b a:=List.pairwise_reverse.mpr h;obtain⟨j,e⟩:=N4.mp n;rw[<-ah8,<-ac8 i l.reverse,P0]at f;rcases f with f|f
 ·exact f
 ·rw[T5 j]at f;rcases O9.mp f with c|c
  ·rw[e]at c;rw[c]at g;exact(uQ g).elim
  ·have m:=o.sublist (List.drop_sublist i _);rw[T5 j,aq6,e]at m;exact(uQ (j9 g (m.1 q c))).elim
theorem yX{f:Type}{p m:Pl}{v:f}:∀{l:List (Pl×f)},lkP (gT l p v) m=if p=m then some v else lkP l m:=by
 intro l;have g:∀l:List (Pl×f),lkP (l.map λz=>if z.1=p then(z.1,v)else z) m=if p=m then(lkP l m).map λ_=>v else lkP l m:=by
  intro l
  induction l with
  |nil=>simp[lkP]
  |cons z l ih =>
   unfold lkP at ih ⊢;rw[N5]
   by_cases c:z.1=p
   ·rw[if_pos c]
    by_cases a:p=m
    ·rw[if_pos a,ab7 (by simp[c,a]),ab7 (by simp[c,a])];rfl
    ·rw[Z9 (by simp[c,a]),Z9 (by simp[c,a]),ih]
   ·rw[if_neg c]
    by_cases a:z.1=m
    ·rw[ab7 (by simp[a]),ab7 (by simp[a])];rw[if_neg (λe=>c (by rw[a,e]))]
    ·rw[Z9 (by simp[a]),Z9 (by simp[a]),ih]
 have find:∀l:List (Pl×f),(l.any λz=>decide (z.1=p))=(lkP l p).isSome:=by
  intro l
  induction l with
  |nil=>rfl
  |cons z l ih =>
   unfold lkP at ih ⊢;rw[ad3,ih]
   by_cases h:z.1=p
   ·rw[ab7 (by simp[h])];simp[h]
   ·rw[Z9 (by simp[h])];simp[h]
 unfold gT;rw[find]
 split
 ·rename_i h;rw[g]
  by_cases e:p=m
  ·subst e;obtain⟨u,j⟩:=X5.mp h;rw[if_pos rfl,if_pos rfl,j];rfl
  ·rw[if_neg e,if_neg e]
 ·rename_i h;have i:lkP l p=none:=by simpa using h
  unfold lkP at i ⊢;rw[List.find?_append]
  by_cases e:p=m
  ·subst e;rw[if_pos rfl,Option.map_eq_none_iff.mp i];simp
  ·rw[if_neg e];cases List.find? (λz=>decide (z.1=m)) l with
   |some u=>rfl
   |none=>simp[e]
theorem xy{a:Type}{p:Pl}{v:a}{l:List (Pl×a)}:(gT l p v).map (·.1)=if p∈l.map (·.1)then l.map (·.1)else l.map (·.1)++[p]:=by
 have h:(l.any λz=>decide (z.1=p))=true↔p∈l.map (·.1):=by
  rw[ab0,P4];simp only[decide_eq_true_eq]
 unfold gT
 by_cases c:(l.any λz=>decide (z.1=p))=true
 ·rw[if_pos c,if_pos (h.mp c),P9];refine R5 λz _=>?_;simp only[ag9]
  split<;>rfl
 ·rw[if_neg c,if_neg (λz=>c (h.mpr z)),P7];rfl
theorem AF{f:Type}{p:Pl}{v:f}{l:List (Pl×f)}(h:(l.map (·.1)).Nodup):((gT l p v).map (·.1)).Nodup:=by
 rw[xy]
 split
 ·exact h
 ·rename_i c;rw[ac7];exact⟨h,by simp,λa i b g e=>c (by rw[N8.mp g]at e;rw[<-e];exact i)⟩
theorem mC{a:Type}{p m:Pl}{v:a}{l:List (Pl×a)}(h:m∈(gT l p v).map (·.1)):m=p∨m∈l.map (·.1):=by
 rw[xy]at h
 split at h
 ·exact .inr h
 ·rcases P0.mp h with h|h
  ·exact .inr h
  ·exact .inl (N8.mp h)
theorem Ez{l:List (Pl×Int)}{e m:Pl}{v:Int}:(lkP (BG l e v) m).getD 0=(lkP l m).getD 0+if e=m then v else 0:=by
 show(lkP (gT l e ((lkP l e).getD 0+v)) m).getD 0=_;rw[yX]
 by_cases c:e=m
 ·rw[if_pos c,if_pos c,c];rfl
 ·rw[if_neg c,if_neg c,ax8]
theorem mL{a:Type}{m:Pl}:∀{l:List (Pl×a)},m∉l.map (·.1)->lkP l m=none
 |[],_=>rfl
 |z::l,h=>by
  unfold lkP;rw[Z9 (by simp;exact λe=>h (by rw[<-e];exact .head _))];exact mL λq=>h (.tail _ q)
theorem qh{a:Type}{m:Pl}{z:Pl×a}{l:List (Pl×a)}:lkP (z::l) m=if z.1=m then some z.2 else lkP l m:=by
 unfold lkP
 by_cases h:z.1=m
 ·rw[if_pos h,ab7 (by simp[h])];rfl
 ·rw[if_neg h,Z9 (by simp[h])]
theorem qB{i:Int}{m:Pl}:∀{more l:List (Pl×Int)},(more.map (·.1)).Nodup->(lkP (eV i l more) m).getD 0=(lkP l m).getD 0+i*(lkP more m).getD 0
 |[],l,_=>by show _=_+i*0;rw[Int.mul_zero,ax8];rfl
 |z::more,l,h=>by
  rw[N5,Z1]at h;show(lkP (eV i (BG l z.1 (i*z.2)) more) m).getD 0=_;rw[qB h.2,Ez,qh]
  by_cases c:z.1=m
  ·rw[if_pos c,if_pos c,mL (l:=more) (by rw[<-c];exact h.1)];show _+i*0=_+i*z.2;rw[Int.mul_zero,ax8]
  ·rw[if_neg c,if_neg c,ax8]
theorem ou{i:Int}{Ok:Pl->Prop}:∀{more l:List (Pl×Int)},(∀z∈more,Ok z.1)->(l.map (·.1)).Nodup/\(∀z∈l,Ok z.1)->((eV i l more).map (·.1)).Nodup/\∀z∈eV i l more,Ok z.1
 |[],l,_,h=>h
 |z::more,l,c,h=>by
  show((eV i (BG l z.1 (i*z.2)) more).map (·.1)).Nodup/\_;refine ou (λy a=>c y (.tail _ a)) ⟨AF h.1,λy a=>?_⟩;rcases mC (P4.mpr ⟨y,a,rfl⟩)with e|e
  ·rw[e];exact c z (.head _)
  ·obtain⟨u,f,e⟩:=P4.mp e;have:=h.2 u f;rw[<-e];exact this
def qT(ord:List (Str×Str))(kd:KD)(N:Int)(B:Nat)(p:Pl)(l:List (Pl×Int)):Prop :=
 (l.map (·.1)).Nodup/\(∀z∈l,z.1∈av kd/\(z.1=p∨plt p z.1))/\∀m,(lkP l m).getD 0=(cnt (rel ord) (bK kd) (gO N B) p m:Int)
theorem t6{ord:List (Str×Str)}{p:Pl}{Ok:Pl->Prop}{cn:List (Pl×List (Pl×Int))}{g:Pl->Pl->Nat}(m:Pl):∀{ss:List lW}{a:List (Pl×Int)},
  (∀s∈ss,∃l,lkP cn s.2.1=some l/\(l.map (·.1)).Nodup/\(∀z∈l,Ok z.1)/\(lkP l m).getD 0=(g s.2.1 m:Int))->(a.map (·.1)).Nodup/\(∀z∈a,Ok z.1) ->
  let r:=ss.foldl (λa s=>eV s.2.2 a ((lkP cn s.2.1).getD [])) a
  ((r.map (·.1)).Nodup/\∀z∈r,Ok z.1)/\(lkP r m).getD 0=(lkP a m).getD 0+(ss.map λs=>s.2.2*(g s.2.1 m:Int)).sum
 |[],a,_,h=>⟨h,by simp⟩
 |s::ss,a,c,h=>by
  obtain⟨l,f,j,o,w⟩:=c s (.head _);simp only[aa6,N5,W8];have n:=ou (i:=s.2.2) (Ok:=Ok) (more:=l) o h;have e:(lkP cn s.2.1).getD []=l:=by rw[f];rfl
  rw[e];obtain⟨x,q⟩:=t6 (ord:=ord) (p:=p) (Ok:=Ok) (g:=g) m (a:=eV s.2.2 a l) (λt u=>c t (.tail _ u)) n;refine⟨x,?_⟩;rw[q,qB j,w,Int.add_assoc]
theorem uz{f:Type}:∀{l:List (Pl×f)}{z:Pl×f},(l.map (·.1)).Nodup->z∈l->lkP l z.1=some z.2
 |y::l,z,a,h=>by
  rw[N5,Z1]at a;rw[qh];rcases O9.mp h with e|e
  ·rw[e,if_pos rfl]
  ·rw[if_neg λc=>a.1 (by rw[c];exact P4.mpr ⟨z,e,rfl⟩)];exact uz a.2 e
theorem zY(ok:jP kd N K B){ord:List (Str×Str)}{cn:List (Pl×List (Pl×Int))}{p:Pl}(P:p∈av kd)(L:∀q∈av kd,plt p q->∃l,lkP cn q=some l/\qT ord kd N B q l):
  let ss:=bE ord kd p ((lkP cn (nxt p)).getD [])
  (∀s∈ss,s.2.1∈av kd/\plt p s.2.1/\(s.2.2=1∨∃m,s.2.2=(cnt (rel ord) (bK kd) (gO N B) (nxt p) m:Int)/\nxt p∈av kd))/\ss.length<=K+(av kd).length/\qT ord kd N B p (bS p ss cn):=by
 have F:=ok.falls;have J:=uI ok.up;intro ss;have C:(∀s∈ss,s.2.1∈av kd/\plt p s.2.1/\(s.2.2=1∨∃m,s.2.2=(cnt (rel ord) (bK kd) (gO N B) (nxt p) m:Int)/\nxt p∈av kd))/\ss.length<=K+(av kd).length /\
   ∀m,(if p=m then(1:Int)else 0)+(ss.map λs=>s.2.2*(cnt (rel ord) (bK kd) (gO N B) s.2.1 m:Int)).sum=(cnt (rel ord) (bK kd) (gO N B) p m:Int):=by
  cases u:cN kd p with
  |none =>
   have e:ss=(bO kd p).map λb=>(none,b,1):=by
    show bE _ _ _ _=_;unfold bE;rw[u]
   rw[e];refine⟨λs I=>?_,?_,λm=>?_⟩
   ·obtain⟨b,Z,rfl⟩:=P4.mp I;obtain⟨A,_⟩:=F.bg p P u b Z;refine⟨A,?_,.inl rfl⟩;obtain⟨a0,_,k,a1,_,rfl⟩:=p8 Z;exact .inl (by show p.1<p.1+1;lia)
   ·rw[s0];have:=ok.bgl p;show(bO kd p).length<=_;exact N3 this (by lia)
   ·rw[Ck F P u,P9,au7,<-pC];congr 1
    ·by_cases c:p=m
     ·rw[if_pos c,if_pos c];rfl
     ·rw[if_neg c,if_neg c];rfl
    ·show _=((bO kd p).map _).sum;congr 1;refine R5 λb _=>?_;show(1:Int)*_=_;rw[Int.one_mul]
  |some x =>
   obtain⟨hn,a2⟩:=F.sg p P (by show(cN kd p).isSome=true;rw[u];rfl);obtain⟨n,G,w,o,O⟩:=L (nxt p) hn ke;have e:ss=(n.filter λz=>fY ord x (cN kd z.1)).map λz=>(some z.1,nxt z.1,z.2):=by
    show bE _ _ _ _=_;unfold bE;rw[u,G];rfl
   have j:∀z∈n,z.2=(cnt (rel ord) (bK kd) (gO N B) (nxt p) z.1:Int):=λz f=>by
    rw[<-O z.1,uz w f];rfl
   rw[e];refine⟨λs I=>?_,?_,λm=>?_⟩
   ·obtain⟨z,f,rfl⟩:=P4.mp I;obtain⟨E,X⟩:=W4.mp f;obtain⟨T,S⟩:=o z E;have i:(cN kd z.1).isSome:=by
     cases h:cN kd z.1 with
     |none=>rw[h]at X;cases X
     |some _=>rfl
    obtain⟨A,_⟩:=F.sg z.1 T i;refine⟨A,?_,.inr ⟨z.1,j z E,hn⟩⟩;have H:plt p z.1:=by
     rcases S with h|h
     ·rw[h];exact ke
     ·exact j9 ke h
    exact j9 H ke
   ·rw[s0];refine N3 (aa8 _ _) ?_;have:=fE (n.map (·.1)) (av kd) w λy M=>by
     obtain⟨z,f,rfl⟩:=P4.mp M;exact(o z f).1
    rw[s0]at this
    lia
   ·rw[Cr F J P u,P9,au7];congr 1
    ·by_cases c:p=m
     ·rw[if_pos c,if_pos c];rfl
     ·rw[if_neg c,if_neg c];rfl
    ·rw[zW (B:=n.map (·.1)) w J (λy M=>by
      obtain⟨z,f,rfl⟩:=P4.mp M;exact(o z f).1) (λy _ M=>by
      have h0:cnt (rel ord) (bK kd) (gO N B) ((bK kd).nx p) y=0:=by
       have:=O y;rw[mL M]at this;exact(Int.ofNat.inj this).symm
      rw[h0,Nat.zero_mul,ite_self]),P9,<-pC]
     have e2:(n.map λz=>(((λU=>if((bK kd).sg U).elim false (rel ord x)=true then cnt (rel ord) (bK kd) (gO N B) ((bK kd).nx p) U*cnt (rel ord) (bK kd) (gO N B) ((bK kd).nx U) m else 0)∘λz:Pl×Int=>z.1) z:Int))=n.map λz=>if fY ord x (cN kd z.1)=true then z.2*(cnt (rel ord) (bK kd) (gO N B) (nxt z.1) m:Int)else 0:=by
      refine R5 λz f=>?_;simp only[ag9]
      by_cases c:fY ord x (cN kd z.1)=true
      ·rw[if_pos c,if_pos (show((bK kd).sg z.1).elim false (rel ord x)=true from c),Int.natCast_mul,j z f];rfl
      ·rw[if_neg c,if_neg (show ¬ ((bK kd).sg z.1).elim false (rel ord x)=true from c)];rfl
     rw[e2];clear e2 e j O o w G
     induction n with
     |nil=>rfl
     |cons z l ih =>
      cases c:fY ord x (cN kd z.1)with
      |true=>rw[List.filter_cons_of_pos (p:=λz:Pl×Int=>fY ord x (cN kd z.1)) c,N5,W8,N5,W8,if_pos c,ih];rfl
      |false=>rw[List.filter_cons_of_neg (p:=λz:Pl×Int=>fY ord x (cN kd z.1)) (by rw[c];simp),N5,W8,ih,if_neg (by rw[c];simp),an4]
 obtain⟨Y,m2,m3⟩:=C;refine⟨Y,m2,?_⟩;have Q:(([(p,1)]:List (Pl×Int)).map (·.1)).Nodup/\∀z∈[(p,(1:Int))],z.1∈av kd/\(z.1=p∨plt p z.1):=⟨by simp,λz f=>by rw[N8.mp f];exact⟨P,.inl rfl⟩⟩;have R:=λm=>t6 (ord:=ord) (p:=p) (Ok:=λq=>q∈av kd/\(q=p∨plt p q)) (cn:=cn) (g:=cnt (rel ord) (bK kd) (gO N B)) m (ss:=ss) (a:=[(p,1)]) (λs I=>by
  obtain⟨A,H,_⟩:=Y s I;obtain⟨l,k0,w,o,O⟩:=L _ A H;refine⟨l,k0,w,λz f=>⟨(o z f).1,.inr ?_⟩,O m⟩;rcases(o z f).2 with e|e
  ·rw[e];exact H
  ·exact j9 H e) Q
 refine⟨(R p).1.1,(R p).1.2,λm=>?_⟩;rw[<-m3 m];refine(R m).2.trans ?_;congr 1;rw[qh]
 by_cases c:p=m
 ·rw[if_pos c,if_pos c];rfl
 ·rw[if_neg c,if_neg c];rfl
theorem CD(ok:jP kd N K B){ord:List (Str×Str)}:∀(i:Nat),i<=(av kd).length->∀q∈(av kd).reverse.take i,∃l,lkP (c9 ord kd ((av kd).reverse.take i)).2 q=some l/\qT ord kd N B q l
 |0,_,q,h=>by rw[av2]at h;cases h
 |i+1,s,q,h=>by
  have n:i<(av kd).reverse.length:=by rw[al2];assumption
  have a:(av kd).reverse[i]?=some (av kd).reverse[i]:=N0 n;generalize (av kd).reverse[i]=p at a;have o:p∈av kd:=ah8.mp (P3 a);have ih:=CD ok (ord:=ord) i (by exact T8 (by assumption));have g:=zY ok (ord:=ord) (cn:=(c9 ord kd ((av kd).reverse.take i)).2) o λq j f=>ih q (rM (nv ok.up) a j f);have e:c9 ord kd ((av kd).reverse.take (i+1))=lG ord kd (c9 ord kd ((av kd).reverse.take i)) p:=by
   rw[S1,a];unfold c9;rw[ao1];rfl
  rw[e];have m:(lG ord kd (c9 ord kd ((av kd).reverse.take i)) p).2=gT (c9 ord kd ((av kd).reverse.take i)).2 p (bS p (bE ord kd p ((lkP (c9 ord kd ((av kd).reverse.take i)).2 (nxt p)).getD [])) (c9 ord kd ((av kd).reverse.take i)).2):=rfl;rw[m,yX]
  by_cases c:p=q
  ·rw[if_pos c];subst c;exact⟨_,rfl,g.2.2⟩
  ·rw[if_neg c];refine ih q ?_;rw[S1,a]at h;rcases P0.mp h with h|h
   ·exact h
   ·exact absurd (by simpa using h:q=p).symm c
theorem xr{ord:List (Str×Str)}{m:Pl}:∀(ps:List Pl) (S:ChS),m∈(ps.foldl (lG ord kd) S).2.map (·.1)->m∈ps∨m∈S.2.map (·.1)
 |[],S,h=>.inr h
 |p::ps,S,h=>by
  rcases xr ps (lG ord kd S p) h with h|h
  ·exact .inl (.tail _ h)
  ·rcases mC h with e|e
   ·rw[e];exact .inl (.head _)
   ·exact .inr e
theorem yJ(ok:jP kd N K B):(av kd).length<=kd.length*(K*(B+1)):=by
 unfold av;rw[al3];refine dQ λq a=>?_;obtain⟨_,_,c,e⟩:=ok.bd q a;unfold iB;rw[al3];refine N3 (dQ (m:=B+1) λr f=>?_) ?_
 ·unfold i9;rw[s0,Z5];have:=e r.1 (List.fst_mem_of_mem_zipIdx f)
  lia
 ·rw[aq8];exact ag1 _ c
theorem zc(ok:jP kd N K B)(hK:K<=8)(e:(N+2)*((B:Int)+1)<100){ord:List (Str×Str)}{p m:Pl}(c:p∈av kd):Few (cnt (rel ord) (bK kd) (gO N B) p m:Int):=by
 have g:=ok.rk c;have a:=EX (R:=rel ord) (rk:=gO N B) (k:=K) (f:=100) ok.bgl (p:=p) (q:=m) (by lia) (N2 _);refine Fu (N3 a (Nat.mul_le_mul (Nat.pow_le_pow_left (show K+2<=2 ^ 4 by lia) _) (Nat.pow_le_pow_left (show 100<=2 ^ 7 by decide) _)))
theorem B3(ok:jP kd N K B)(hK:K<=8)(L:(N+2)*((B:Int)+1)<100)(U:kd.length*(K*(B+1))<=900){ord:List (Str×Str)}(R:ord.length<=500){x:List Row}(Q:(N,x)∈kd):
  Ek ord kd N/\∀p∈av kd,∃l,lkP (c9 ord kd (av kd).reverse).2 p=some l/\qT ord kd N B p l:=by
 have hA:(av kd).length<=900:=N3 (yJ ok) U;have P:=CD ok (ord:=ord);refine⟨⟨R,λq u=>N3 (ok.bd q u).2.2.1 (by exact N3 (by assumption) (by decide)),?_,by exact N3 (by assumption) (by decide),λi p H=>?_⟩,λp w=>?_⟩
 ·have I:N∈kd.map (·.1):=P4.mpr ⟨_,Q,rfl⟩;cases O:kd.map (·.1)with
  |nil=>rw[O]at I;cases I
  |cons a l =>
   obtain⟨n,A⟩:=nk l a;show some _=_;congr 1;rw[<-O]at n A;have o:=n N I;obtain⟨q,u,e⟩:=P4.mp A;have Z:=(ok.bd q u).2.1
   lia
 ·have S:i<(av kd).length:=by
   have:=(N4.mp H).1
   rwa [al2]at this
  have w:p∈av kd:=ah8.mp (P3 H);have f:∀q∈av kd,plt p q->∃l,lkP (c9 ord kd ((av kd).reverse.take i)).2 q=some l/\qT ord kd N B q l:=λq u J=>P i (by exact T8 (by assumption)) q (rM (nv ok.up) H u J);have M:∀{q:Pl} {l:List (Pl×Int)},qT ord kd N B q l->l.length<=900:=λ{q l} h=>by
   have:=fE (l.map (·.1)) (av kd) h.1 λy X=>by
    obtain⟨z,j,rfl⟩:=P4.mp X;exact(h.2.1 z j).1
   rw[s0]at this;exact N3 (by assumption) (by assumption)
  obtain⟨T,s2,s3⟩:=zY ok w f;have g:(lkP (c9 ord kd ((av kd).reverse.take i)).2 (nxt p)).getD []=[]∨∃l,lkP (c9 ord kd ((av kd).reverse.take i)).2 (nxt p)=some l/\qT ord kd N B (nxt p) l:=by
   by_cases c:nxt p∈av kd
   ·exact .inr (f _ c ke)
   ·left;rw[mL λz=>c ?_];rfl;rcases xr _ _ z with h|h
    ·exact ah8.mp (aj2 h)
    ·cases h
  refine⟨ok.valid w,λC=>?_,λz j=>?_,?_,by lia,λs C=>?_⟩
  ·obtain⟨n,_⟩:=ok.falls.sg p w C;obtain⟨l,e,_⟩:=f (nxt p) n ke;show(lkP _ (nxt p)).isSome=true;rw[e];rfl
  ·rcases g with e|⟨l,e,h⟩
   ·rw[e]at j;cases j
   ·rw[e]at j;exact ok.valid (h.2.1 z j).1
  ·rcases g with e|⟨l,e,h⟩
   ·rw[e];exact O3 _
   ·rw[e];have:=M h;show l.length<=_;exact N3 (by assumption) (by decide)
  ·obtain⟨n,A,o⟩:=T s C;obtain⟨l,e,h⟩:=f _ n A;refine⟨l,e,by have:=M h;exact N3 (by assumption) (by decide),λz j=>?_⟩;have E:Few z.2:=by
    have:z.2=(cnt (rel ord) (bK kd) (gO N B) s.2.1 z.1:Int):=by rw[<-h.2.2 z.1,uz h.1 j];rfl
    rw[this];exact zc ok hK L n
   have G:Few s.2.2:=by
    rcases o with o|⟨m,o,Y⟩
    ·rw[o];exact IG (by decide) (by decide)
    ·rw[o];exact zc ok hK L Y
   rw[Lz ⟨G,E⟩];trivial
 ·have:=P _ (N2 _) p (by rw[ae0 (by rw[al2];exact N2 _)];exact ah8.mpr w)
  rwa [ae0 (by rw[al2];exact N2 _)]at this
end
def chR(ag:List (Str×List Row)):List Str->List Row
 |[]=>[[]]
 |w::a=>(kin ag w).flatMap λk=>(chR ag a).map λs=>k++s
theorem zQ{ag:List (Str×List Row)}{w:Str}{P:List Row->Prop}(h0:P [])(h:∀e∈ag,P e.2):P (kin ag w):=by
 unfold kin
 induction ag with
 |nil=>exact h0
 |cons e l ih =>
  rw[V3]
  by_cases c:(w==e.1)=true
  ·rw[c];exact h e (.head _)
  ·rw[Bool.not_eq_true]at c;rw[c];exact ih λx a=>h x (.tail _ a)
def jR(ag:List (Str×List Row))(K B:Nat):Prop:=∀e∈ag,e.2.length<=K/\∀r∈e.2,r.length<=B
section
variable{ag:List (Str×List Row)}{ai:Str}{ws:List Str}{K B:Nat}
theorem nV{q:Int×List Row}:q∈cm ag ai ws↔q=(-1,[[]])∨(∃(i:Nat) (w:Str),ws[i]?=some w/\q=((i:Int),kin ag w))∨q=((ws.length:Int),[[(ai,1)]]):=by
 unfold cm cP;rw[P0,O9,P4,N8];constructor
 ·rintro((h|⟨t,a,rfl⟩)|h)
  ·exact .inl h
  ·exact .inr (.inl ⟨t.2,t.1,ad0.mp a,rfl⟩)
  ·exact .inr (.inr h)
 ·rintro(h|⟨i,w,c,rfl⟩|h)
  ·exact .inl (.inl h)
  ·exact .inl (.inr ⟨(w,i),ad0.mpr c,rfl⟩)
  ·exact .inr h
theorem z4(he:jR ag K B)(hK:1<=K)(s:1<=B):jP (cm ag ai ws) (ws.length:Int) K B where
 up:=by
  unfold cm;rw[List.pairwise_append,aq6];have c:∀a∈cP ag ws,0<=a.1/\a.1<(ws.length:Int):=λa f=>by
   obtain⟨t,p,rfl⟩:=P4.mp f;have:=ad0.mp p;have:=(N4.mp this).1;show 0<=(t.2:Int)/\(t.2:Int)<_
   lia
  refine⟨⟨λa f=>?_,?_⟩,by simp,λa f b o=>?_⟩
  ·have:=c a f;show(-1:Int)<a.1
   lia
  ·unfold cP;rw[an8,ae8];intro i j l u m;simp only[List.getElem_zipIdx]
   lia
  ·rw[N8.mp o];rcases O9.mp f with e|e
   ·rw[e];show(-1:Int)<(ws.length:Int);lia
   ·exact(c a e).2
 bd:=by
  intro q n;rcases nV.mp n with e|⟨i,w,l,e⟩|e
  ·rw[e];refine⟨ay7 _,by show(-1:Int)<=_;lia,hK,λr g=>?_⟩;rw[N8.mp g];exact O3 _
  ·have:=(N4.mp l).1;rw[e];have h:=zQ (ag:=ag) (w:=w) (P:=λrs=>rs.length<=K/\∀r∈rs,r.length<=B) ⟨O3 _,λ_ h=>by cases h⟩ he;exact⟨by show(-1:Int)<=(i:Int);lia,by show(i:Int)<=_;lia,h⟩
  ·rw[e];refine⟨by show(-1:Int)<=(ws.length:Int);lia,ay7 _,hK,λr g=>?_⟩;rw[N8.mp g];exact s
theorem uu{kd:KD}{N:Int}{K B:Nat}(ok:jP kd N K B){q:Int×List Row}(c:q∈kd)(hn:q.1≠N){i:Nat}{row:Row}(hr:q.2[i]?=some row):∀(d j:Nat),j+d=row.length ->
  Sts (bK kd) (gO N B) (q.1,(i:Int),(j:Int)) (N,0,1)=((bO kd (q.1,(i:Int),(0:Int))).flatMap λb=>Sts (bK kd) (gO N B) b (N,0,1)).map λs=>row.drop j++s
 |0,j,h=>by
  have f:(bK kd).sg (q.1,(i:Int),(j:Int))=none:=by
   show cN _ _=_;rw[ok.sgn c hr,S9 (by lia)]
  have a:(q.1,(i:Int),(j:Int))≠((N,0,1):Pl):=λe=>hn (congrArg (·.1) e);rw[jB ok.falls (bR.mpr ⟨q,c,i,row,j,hr,by lia,rfl⟩) f,if_neg a,P1,List.drop_of_length_le (by lia)];simp only[P1,List.map_id'];rfl
 |d+1,j,h=>by
  have g:j<row.length:=by lia
  have f:(bK kd).sg (q.1,(i:Int),(j:Int))=some row[j]:=by
   show cN _ _=_;rw[ok.sgn c hr,N0 g]
  have a:(q.1,(i:Int),(j:Int))≠((N,0,1):Pl):=λe=>hn (congrArg (·.1) e);rw[ig ok.falls (bR.mpr ⟨q,c,i,row,j,hr,by exact T8 (by assumption),rfl⟩) f,if_neg a,P1];have ih:=uu ok c hn hr d (j+1) (by lia);have e:(bK kd).nx (q.1,(i:Int),(j:Int))=(q.1,(i:Int),((j+1:Nat):Int)):=by
   show(q.1,(i:Int),(j:Int)+1)=_;rw[au7];rfl
  rw[e,ih,P9,T5 g];rfl
theorem sM(he:jR ag K B)(hK:1<=K)(o:1<=B):∀(d n:Nat) (i:Int),n+d=ws.length ->
  ((bO (cm ag ai ws) ((n:Int)-1,i,0)).flatMap λb=>Sts (bK (cm ag ai ws)) (gO (ws.length:Int) B) b ((ws.length:Int),0,1))=(chR ag (ws.drop n)).map λs=>s++[(ai,1)]
 |0,n,i,h=>by
  have ok:=z4 (ai:=ai) (ws:=ws) he hK o;have c:((ws.length:Int),[[(ai,1)]])∈cm ag ai ws:=nV.mpr (.inr (.inr rfl));have l:look (cm ag ai ws) (((n:Int)-1)+1)=some [[(ai,1)]]:=by
   rw[show((n:Int)-1)+1=(ws.length:Int)by lia];exact pe ok.up c
  have p:look (cm ag ai ws) ((ws.length:Int)+1)=none:=by
   cases E:look (cm ag ai ws) ((ws.length:Int)+1)with
   |none=>rfl
   |some rs =>
    have:=(ok.bd _ (mV E)).2.1;exact absurd (show(ws.length:Int)+1<=ws.length from this) (by lia)
  have f:bO (cm ag ai ws) ((n:Int)-1,i,0)=[((ws.length:Int),0,0)]:=by
   unfold bO;show(Q0 ((look (cm ag ai ws) (((n:Int)-1)+1)).getD []).length).map _=_;rw[l,show(((n:Int)-1,i,(0:Int)).1+1:Int)=(ws.length:Int)by show(n:Int)-1+1=_;lia];rfl
  rw[f,List.drop_of_length_le (by lia)];have z:(bK (cm ag ai ws)).sg ((ws.length:Int),0,0)=some (ai,1):=ok.sgn (j:=0) c (i:=0) rfl;have g:(bK (cm ag ai ws)).sg ((ws.length:Int),0,1)=none:=ok.sgn (j:=1) c (i:=0) rfl;have u:((ws.length:Int),0,0)∈av (cm ag ai ws):=bR.mpr ⟨_,c,0,_,0,rfl,O3 _,rfl⟩;have C:((ws.length:Int),0,1)∈av (cm ag ai ws):=bR.mpr ⟨_,c,0,_,1,rfl,N2 _,rfl⟩;rw[ae5,List.flatMap_nil,aa4,ig ok.falls u z,if_neg (by simp),P1];have e:(bK (cm ag ai ws)).nx ((ws.length:Int),0,0)=((ws.length:Int),0,1):=rfl;rw[e,jB ok.falls C g,if_pos rfl];have w:(bK (cm ag ai ws)).bg ((ws.length:Int),0,1)=[]:=by
   show bO _ _=_;unfold bO;rw[p];rfl
  rw[w];rfl
 |d+1,n,i,h=>by
  have ok:=z4 (ai:=ai) (ws:=ws) he hK o;have q:n<ws.length:=by lia
  have c:((n:Int),kin ag ws[n])∈cm ag ai ws:=nV.mpr (.inr (.inl ⟨n,ws[n],N0 q,rfl⟩));have ih:=sM he hK o d (n+1);have l:look (cm ag ai ws) (((n:Int)-1)+1)=some (kin ag ws[n]):=by
   rw[show((n:Int)-1)+1=(n:Int)by lia];exact pe ok.up c
  have f:bO (cm ag ai ws) ((n:Int)-1,i,0)=(Q0 (kin ag ws[n]).length).map λ(k:Nat)=>((n:Int),(k:Int),0):=by
   unfold bO;show(Q0 ((look (cm ag ai ws) (((n:Int)-1)+1)).getD []).length).map _=_;rw[l,show(((n:Int)-1,i,(0:Int)).1+1:Int)=(n:Int)by show(n:Int)-1+1=_;lia];rfl
  rw[f,T5 q,chR,List.flatMap_map,ah9];have e:kin ag ws[n]=(Q0 (kin ag ws[n]).length).map λk=>(kin ag ws[n]).getD k []:=by
   refine List.ext_getElem (by simp) λa g H=>?_;simp[g]
  rw[show((kin ag ws[n]).flatMap λk=>((chR ag (ws.drop (n+1))).map λs=>k++s).map λs=>s++[(ai,1)])=(((Q0 (kin ag ws[n]).length).map λk=>(kin ag ws[n]).getD k []).flatMap λk=>((chR ag (ws.drop (n+1))).map λs=>k++s).map λs=>s++[(ai,1)])by rw[<-e],List.flatMap_map];refine iN λk x=>?_;have m:=R0.mp x;have G:(kin ag ws[n])[k]?=some ((kin ag ws[n]).getD k []):=by simp[m]
  have r:=uu ok c (show(n:Int)≠(ws.length:Int)by lia) G ((kin ag ws[n]).getD k []).length 0 (by lia);have A:(bO (cm ag ai ws) ((n:Int),(k:Int),0))=bO (cm ag ai ws) (((n+1:Nat):Int)-1,(k:Int),0):=by
   rw[show((n+1:Nat):Int)-1=(n:Int)by lia]
  refine r.trans ?_;rw[A,ih (k:Int) (by lia),P9,P9,ao6];refine R5 λs _=>?_;simp[ag9]
theorem ET{ord:List (Str×Str)}(he:jR ag K B)(hK:1<=K)(c:1<=B):cnt (rel ord) (bK (cm ag ai ws)) (gO (ws.length:Int) B) cX ((ws.length:Int),0,1)=((chR ag ws).map λs=>W (rel ord) (s++[(ai,1)])).sum:=by
 have ok:=z4 (ai:=ai) (ws:=ws) he hK c;unfold cnt;have r:=uu ok (q:=(-1,[[]])) (nV.mpr (.inl rfl)) (show(-1:Int)≠(ws.length:Int)by lia) (i:=0) (row:=[]) rfl 0 0 rfl;have a:=sM (ai:=ai) (ws:=ws) he hK c ws.length 0 0 (by lia);have e:Sts (bK (cm ag ai ws)) (gO (ws.length:Int) B) cX ((ws.length:Int),0,1)=(chR ag ws).map λs=>s++[(ai,1)]:=by
  refine r.trans ?_;have f:bO (cm ag ai ws) (-1,((0:Nat):Int),(0:Int))=bO (cm ag ai ws) (((0:Nat):Int)-1,0,0):=rfl;rw[ao6]at a;show List.map (λs=>[]++s) (List.flatMap _ (bO (cm ag ai ws) (-1,((0:Nat):Int),(0:Int))))=_;rw[f,a];simp only[P1,List.map_id']
 rw[e,P9];rfl
theorem Ie{ord:List (Str×Str)}(he:jR ag K B)(hK:1<=K)(g:1<=B)(e:K<=8)(h:(ws.length+2)*(B+1)<100)(q:(ws.length+2)*(K*(B+1))<=900)(u:ag.length<=8)(p:ord.length<=500)(o:∀w∈ws,w∈ag.map (·.1)/\bF w):
  wz ord ai ag ws ((((chR ag ws).map λs=>W (rel ord) (s++[(ai,1)])).sum:Nat):Int):=by
 have ok:=z4 (ai:=ai) (ws:=ws) he hK g;have j:(cm ag ai ws).length=ws.length+2:=by simp[cm,cP]
 have m:((ws.length:Int),[[(ai,1)]])∈cm ag ai ws:=nV.mpr (.inr (.inr rfl));have i:cX∈av (cm ag ai ws):=bR.mpr ⟨(-1,[[]]),nV.mpr (.inl rfl),0,[],0,rfl,N2 _,rfl⟩;have a:((ws.length:Int)+2)*((B:Int)+1)<100:=by
  have:=Int.ofNat_lt.mpr h;simpa using this
 obtain⟨n,x⟩:=B3 ok e a (by rw[j];exact q) (ord:=ord) p m;obtain⟨l,c,f⟩:=x cX i;refine⟨u,?_,o,_,l,n,c,?_⟩
 ·have:ws.length+2<=(ws.length+2)*(B+1):=Nat.le_mul_of_pos_right _ (by exact U7 (by assumption))
  lia
 ·rw[f.2.2,ET he hK g]
end
noncomputable def sg(row:List (Str×Int))(i:Nat):Str×Int:=row.getD i ("",0)
theorem xj{f:Nat->Nat}:∀(L:Nat),(∀k,k<L->k % 2=1->f k=0)->((Q0 L).map f).sum=((Q0 ((L+1) / 2)).map λj=>f (2*j)).sum
 |0,_=>rfl
 |1,_=>by simp
 |L+2,h=>by
  rw[aq0,aq0,P7,P7,aa7,aa7,xj L λk c a=>h k (by lia) a];rw[show(L+2+1) / 2=(L+1) / 2+1 by lia,aq0,P7,aa7];simp only[N5,an0,W8,List.sum_nil,ax5]
  by_cases e:L % 2=1
  ·rw[h L (by lia) e,show 2*((L+1) / 2)=L+1 by lia];lia
  ·rw[h (L+1) (by exact N2 _) (by lia),show 2*((L+1) / 2)=L by lia];lia
theorem pT{σ:Type}(d:σ):∀(xs:List σ),nQ xs=(Q0 xs.length).map λk=>(xs.take k,xs.getD k d,xs.drop (k+1))
 |[]=>rfl
 |x::xs=>by
  rw[nQ,pT d xs,O2,List.range_succ_eq_map,N5,P9,P9];rfl
noncomputable def seg(row:List (Str×Int))(b e:Nat):List (Str×Int):=(row.drop b).take (e-b)
theorem zD{row:List (Str×Int)}{b e:Nat}(h:e<=row.length):(seg row b e).length=e-b:=by
 unfold seg;rw[S2,al6];lia
theorem Cg{row:List (Str×Int)}{b:Nat}:seg row b b=[]:=by unfold seg;simp
theorem FX{row:List (Str×Int)}:seg row 0 row.length=row:=by unfold seg;simp
theorem Bv{row:List (Str×Int)}{b e:Nat}(h:b<e)(he:e<=row.length):seg row b e=sg row b::seg row (b+1) e:=by
 unfold seg;have a:b<row.length:=by exact O4 (by assumption) (by assumption)
 rw[T5 a,show e-b=(e-(b+1))+1 by lia,List.take_succ_cons];simp[sg,a]
theorem Dm{row:List (Str×Int)}{b e k:Nat}(h:b+k<=e):(seg row b e).take k=seg row b (b+k):=by
 unfold seg;rw[List.take_take,ak1 (by lia),show b+k-b=k by lia]
theorem BN{row:List (Str×Int)}{b e k:Nat}:(seg row b e).drop k=seg row (b+k) e:=by
 unfold seg;rw[List.drop_take,List.drop_drop,show e-b-k=e-(b+k)by lia]
theorem IL{row:List (Str×Int)}{b e k:Nat}(h:b+k<e):(seg row b e).getD k ("",0)=sg row (b+k):=by
 unfold seg sg;rw[S5,List.getElem?_take,if_pos (by lia),aq5,S5]
section
variable{R:Str×Int->Str×Int->Bool}{row:List (Str×Int)}
theorem KB{b e:Nat}(h:b<e)(he:e<=row.length):W R (seg row b e)=((Q0 ((e-b) / 2)).map λj=>if R (sg row b) (sg row (b+1+2*j))=true then W R (seg row (b+1) (b+1+2*j))*W R (seg row (b+1+2*j+1) e)else 0).sum:=by
 rw[Bv h he,uZ,pT (σ:=Str×Int) ("",0),P9,zD he];have g:((Q0 (e-(b+1))).map ((λc=>if R (sg row b) c.2.1=true then W R c.1*W R c.2.2 else 0)∘λk=>((seg row (b+1) e).take k,(seg row (b+1) e).getD k ("",0),(seg row (b+1) e).drop (k+1)))).sum
  =((Q0 (e-(b+1))).map λk=>if R (sg row b) (sg row (b+1+k))=true then W R (seg row (b+1) (b+1+k))*W R (seg row (b+1+k+1) e)else 0).sum:=by
  congr 1;apply R5;intro k a;have f:=R0.mp a;simp only[ag9];rw[IL (by lia),Dm (by lia),BN];rfl
 rw[g,xj _ λk a i=>?_,show(e-(b+1)+1) / 2=(e-b) / 2 by lia]
 by_cases c:R (sg row b) (sg row (b+1+k))=true
 ·rw[if_pos c,GF _ (seg row (b+1) (b+1+k)) (N2 _) (by rw[zD (by lia)];lia),Nat.zero_mul]
 ·rw[if_neg c]
end
theorem yL{b e a c:Nat}:([am7 (b:Int),am7 (e:Int)]:List Key)=[am7 (a:Int),am7 (c:Int)]↔b=a/\e=c:=by
 simp only[af5,am7.injEq,and_true,Int.natCast_inj]
theorem uS{g:Type}{f:g->Nat}:∀{l:List g},(l.map f).sum≠0↔∃x∈l,f x≠0
 |[]=>by simp
 |x::l=>by
  rw[N5,W8];have ih:=uS (f:=f) (l:=l);constructor
  ·intro h
   by_cases c:f x=0
   ·obtain⟨y,a,e⟩:=ih.mp (by lia);exact⟨y,.tail _ a,e⟩
   ·exact⟨x,.head _,c⟩
  ·rintro⟨y,a,h⟩;rcases O9.mp a with rfl|a
   ·lia
   ·have:=ih.mpr ⟨y,a,h⟩
    lia
theorem Ap{R:Str×Int->Str×Int->Bool}{row:List (Str×Int)}{b e:Nat}(h:b<e)(he:e<=row.length):W R (seg row b e)≠0↔∃j<(e-b) / 2,R (sg row b) (sg row (b+1+2*j))=true/\W R (seg row (b+1) (b+1+2*j))≠0/\W R (seg row (b+1+2*j+1) e)≠0:=by
 rw[KB h he,uS];constructor
 ·rintro⟨j,a,h⟩;refine⟨j,R0.mp a,?_⟩
  by_cases c:R (sg row b) (sg row (b+1+2*j))=true
  ·rw[if_pos c]at h;exact⟨c,λz=>h (by rw[z,Nat.zero_mul]),λz=>h (by rw[z,Nat.mul_zero])⟩
  ·rw[if_neg c]at h;exact absurd rfl h
 ·rintro⟨j,a,c,f,g⟩;refine⟨j,R0.mpr a,?_⟩;rw[if_pos c];exact Nat.mul_ne_zero f g
open Classical in
def tab(R:Str×Int->Str×Int->Bool)(row:List (Str×Int))(L j b e:Nat):Option D:=if b<=e/\e<=row.length/\(e-b) % 2=0/\(e-b<L∨(e-b=L/\b<j))/\W R (seg row b e)≠0 then some (.bl true)else none
def Tab(R:Str×Int->Str×Int->Bool)(row:List (Str×Int))(L j:Nat)(kvs:List (List Key×D)):Prop:=∀b e:Nat,bM kvs [.inl (b:Int),.inl (e:Int)]=tab R row L j b e
theorem mz{R:Str×Int->Str×Int->Bool}{row:List (Str×Int)}{L j b e:Nat}:(tab R row L j b e).isSome=true↔b<=e/\e<=row.length/\(e-b) % 2=0/\(e-b<L∨(e-b=L/\b<j))/\W R (seg row b e)≠0:=by
 unfold tab
 split
 ·rename_i h;exact⟨λ_=>h,λ_=>rfl⟩
 ·rename_i h;exact⟨λz=>(by cases z),λz=>absurd z h⟩
theorem tH{R:Str×Int->Str×Int->Bool}{row:List (Str×Int)}{L j a f b e:Nat}(h:(b<=e/\e<=row.length/\(e-b) % 2=0/\(e-b<L∨(e-b=L/\b<j))/\W R (seg row b e)≠0)↔(b<=e/\e<=row.length/\(e-b) % 2=0/\(e-b<a∨(e-b=a/\b<f))/\W R (seg row b e)≠0)):tab R row L j b e=tab R row a f b e:=by
 unfold tab
 by_cases c:b<=e/\e<=row.length/\(e-b) % 2=0/\(e-b<L∨(e-b=L/\b<j))/\W R (seg row b e)≠0
 ·rw[if_pos c,if_pos (h.mp c)]
 ·rw[if_neg c,if_neg (λz=>c (h.mpr z))]
theorem Kt(a b:Int):szR a b 2=((b-a+1) / 2).toNat:=by
 unfold szR ab3;simp
 lia
theorem Km(n:Nat):szR 2 ((n:Int)+1) 2=n / 2:=by rw[Kt];lia
theorem JW(j L:Nat):szR ((j:Int)+1) ((j:Int)+(L:Int)) 2=L / 2:=by rw[Kt];lia
def rG:SpD:=λc M R=>∃(ord:List (Str×Str)) (a:Row),c=[.tup (ord.map aJ),au a]/\ord.length<=500/\a.length<=24/\R (.bl (decide (W (rel ord) a≠0))) M
theorem xv(F:Fun K "_law_wholly" "_law_wholly" lA f Y)(T:Txt K I)(a2:FnD P w K I base "_law_cancels" 2 3 n9):aV P w K I base CX0 3 f Y ["_law_order_here","_law_row"] (spD K 2 rG):=by
 have Q:=ox.nd;refine F.okR rfl ox (λa5 A a1 s H E S=>⟨_,(ak (aK (i:=2) Q rfl (R8 rfl) (aU cM rfl T.b_len (by kernel_rfl) (ae (aa 1) ah)))
   (ak (aK (i:=3) Q rfl (R8 rfl) Hv)
   (ak (bH Q5 rfl (b7 rfl T.b_range (ae (aW aP (aa 2) am) ah)) (aI (i:=4) Q rfl (R8 rfl)) (ao (BS S.units1 (aa 3) (ae (aa 4) (ae (aa 4) ah)) Ax)))
   (ak (bH Q5 rfl (zt rfl T.b_range (ae am (ae (aW aP (aa 2) am) (ae am ah)))) (aI (i:=5) Q rfl (R8 rfl)) (ao (bH Q5 rfl (b7 rfl T.b_range (ae (aW aP (aW GM (aa 2) (aa 5)) am) ah)) (aI (i:=4) Q rfl (R8 rfl)) (ao (bH Q5 rfl (zt rfl T.b_range (ae (aW aP (aa 4) am) (ae (aW aP (aa 4) (aa 5)) (ae am ah)))) (aI (i:=6) Q rfl (R8 rfl)) (ao (cV (yI (ur (CA false rfl S.units1 (ae (aW aP (aa 4) am) (ae (aa 6) ah)) (aa 3) rfl) (ur (CA false rfl S.units1 (ae (aW aP (aa 6) am) (ae (aW aP (aa 4) (aa 5)) ah)) (aa 3) rfl) (vm (dP (qd a2 S (ae (aa 0) (ae (aZ a7 (aa 1) (aa 4) (λ_ _=>rfl)) (ae (aZ a7 (aa 1) (aa 6) (λ_ _=>rfl)) ah))))))))) (ao (BS S.units1 (aa 3) (ae (aa 4) (ae (aW aP (aa 4) (aa 5)) ah)) Ax)) bW)))))))
   (ao (iQ (Ks false rfl S.units1 (ae am (ae (aa 2) ah)) (aa 3) rfl))))))),λds M R _ hS bk=>?_⟩)
 obtain⟨ord,l,rfl,ho,hl,k⟩:=hS;refine bk ?_;clear bk;simp only[au];walk_at"";intro p hp;rw[s0];refine⟨by lia,by lia,?_⟩;rw[show((l.length:Int)+1).toNat=l.length+1 by lia];refine aG (λi o n=>∃m C,o=[some (D.tup (ord.map aJ)),some (D.tup (l.map aD)),some (D.int l.length),some (D.ref p),C,none,none]/\n=ay M p (.dT m)/\(∀b e:Nat,bM m [.inl (b:Int),.inl (e:Int)]=if b=e/\b<i then some (.bl true)else none)/\m.length<=i)
  ⟨[],none,rfl,rfl,λb e=>by rw[if_neg (by lia)];rfl,N2 _⟩ ?_ ?_
 ·rintro i d o n X hd ⟨m,C,rfl,rfl,hv,hk⟩ k';obtain⟨hi,rfl⟩:=cD hd;rw[an4];simp only[bV];walk_at"";refine⟨sz3 2,O4 (by lia:m.length<1000) (sz3 1000),?_⟩;refine k' _ _ ⟨_,_,rfl,rfl,λb e=>?_,N3 (n5 _ _ _) (by lia)⟩;rw[qR,hv b e]
  by_cases c:b=i/\e=i
  ·rw[if_pos (yL.mpr c),if_pos (by lia)]
  ·rw[if_neg (λz=>c (yL.mp z))]
   by_cases g:b=e/\b<i
   ·rw[if_pos g,if_pos (by lia)]
   ·rw[if_neg g,if_neg (by lia)]
 rintro o n ⟨m,C,rfl,rfl,hv,hk⟩;rw[bT]at hv hk;walk_at"";refine⟨_,_,_,⟨rfl,rfl,rfl⟩,R8 rfl,⟨by lia,by lia,by lia,by lia⟩,?_⟩;rw[Km];refine aG (λi o n=>∃(m:List (List Key×D)) (C x5 B:Option D),o=[some (D.tup (ord.map aJ)),some (D.tup (l.map aD)),some (D.int l.length),some (D.ref p),C,x5,B]/\n=ay M p (.dT m)/\Tab (rel ord) l (2+2*i) 0 m/\m.length<=100+10000*i)
  ⟨m,_,none,none,rfl,rfl,λb e=>?_,by lia⟩ ?_ ?_
 ·rw[hv b e]
  by_cases c:b=e/\b<l.length+1
  ·rw[if_pos c];unfold tab;rw[if_pos ⟨by lia,by lia,by lia,by lia,by rw[c.1,Cg,xk];decide⟩]
  ·rw[if_neg c];unfold tab;rw[if_neg (by lia)]
 ·rintro i d o n X hd ⟨m,C,x5,B,rfl,rfl,G,x⟩ k';obtain⟨hi,rfl⟩:=rH hd;have a6:2*i+2<=l.length:=by lia
  clear hi hd hv hk;have eL:(2:Int)+(i:Int)*2=((2+2*i:Nat):Int):=by lia
  rw[eL];generalize hL:2+2*i=L at *
  have a3:L<=l.length:=by lia
  simp only[bV];walk_at"";refine⟨by lia,by lia,?_⟩;rw[show((l.length:Int)-(L:Int)+1).toNat=l.length-L+1 by lia];refine aG (λj o n=>∃(m:List (List Key×D)) (C B:Option D),o=[some (D.tup (ord.map aJ)),some (D.tup (l.map aD)),some (D.int l.length),some (D.ref p),C,some (D.int L),B]/\n=ay M p (.dT m)/\Tab (rel ord) l L j m/\m.length<=100+10000*i+100*j)
   ⟨m,_,_,rfl,rfl,G,x⟩ ?_ ?_
  ·rintro j d o n X' U ⟨m,C,B,rfl,rfl,G,x⟩ k2;obtain⟨hj,rfl⟩:=cD U;have a4:j+L<=l.length:=by lia
   clear hj U;rw[an4];simp only[bV];walk_at"";refine⟨_,_,_,⟨rfl,rfl,rfl⟩,R8 rfl,⟨by lia,by lia,by lia,by lia⟩,?_⟩;rw[JW];refine aG (λt o n=>∃(m:List (List Key×D)) (B:Option D),o=[some (D.tup (ord.map aJ)),some (D.tup (l.map aD)),some (D.int l.length),some (D.ref p),some (D.int j),some (D.int L),B]/\n=ay M p (.dT m) /\
     (∀b e:Nat,¬ (b=j/\e=j+L)->bM m [.inl (b:Int),.inl (e:Int)]=tab (rel ord) l L j b e) /\
     (bM m [.inl (j:Int),.inl ((j+L:Nat):Int)]=none∨bM m [.inl (j:Int),.inl ((j+L:Nat):Int)]=some (.bl true)) /\
     ((bM m [.inl (j:Int),.inl ((j+L:Nat):Int)]).isSome=true↔∃u<t,rel ord (sg l j) (sg l (j+1+2*u))=true/\W (rel ord) (seg l (j+1) (j+1+2*u))≠0/\W (rel ord) (seg l (j+1+2*u+1) (j+L))≠0)/\m.length<=100+10000*i+100*j+t)
    ⟨m,_,rfl,rfl,λb e _=>G b e,?_,?_,x⟩ ?_ ?_
   ·left;rw[G];unfold tab;rw[if_neg (by lia)]
   ·rw[G,mz];constructor
    ·intro h;lia
    ·rintro⟨u,hu,_⟩;lia
   ·rintro t d o n X3 Z ⟨m,B,rfl,rfl,O,h2,h3,h4⟩ k3;obtain⟨ht,rfl⟩:=rH Z;have a8:2*t+2<=L:=by lia
    clear ht Z;have et:(j:Int)+1+(t:Int)*2=((j+1+2*t:Nat):Int):=by lia
    rw[et];simp only[bV];walk_at"";have b1:j<l.length:=by lia
    have b2:j+1+2*t<l.length:=by lia
    have b3:m.length<16000000:=by lia
    have N:∀a,a<l.length->atI (l.map aD) (a:Int)=some (aD (sg l a)):=λa ha=>cf (by simp[sg,ha]);have v1:=O (j+1) (j+1+2*t) (by lia);have v2:=O (j+1+2*t+1) (j+L) (by lia);have c1:(bM m [.inl ((j:Int)+1),.inl ((j+1+2*t:Nat):Int)]).isSome=decide (W (rel ord) (seg l (j+1) (j+1+2*t))≠0):=by
     rw[show(j:Int)+1=((j+1:Nat):Int)by lia,v1,W0,mz,decide_eq_true_eq];exact⟨λh=>h.2.2.2.2,λh=>⟨by lia,by lia,by lia,by lia,h⟩⟩
    have c2:(bM m [.inl (((j+1+2*t:Nat):Int)+1),.inl ((j:Int)+(L:Int))]).isSome=decide (W (rel ord) (seg l (j+1+2*t+1) (j+L))≠0):=by
     rw[show((j+1+2*t:Nat):Int)+1=((j+1+2*t+1:Nat):Int)by lia,show(j:Int)+(L:Int)=((j+L:Nat):Int)by lia,v2,W0,mz,decide_eq_true_eq];exact⟨λh=>h.2.2.2.2,λh=>⟨by lia,by lia,by lia,by lia,h⟩⟩
    have a0:∀P:Nat->Prop,(∃u<t+1,P u)↔(∃u<t,P u)∨P t:=λP=>⟨λ⟨u,h,q⟩=>by
     by_cases c:u=t
     ·exact .inr (c▸q)
     ·exact .inl ⟨u,by lia,q⟩,λh=>h.elim (λ⟨u,h,q⟩=>⟨u,by lia,q⟩) λq=>⟨t,by lia,q⟩⟩
    have no:¬ (rel ord (sg l j) (sg l (j+1+2*t))=true/\W (rel ord) (seg l (j+1) (j+1+2*t))≠0/\W (rel ord) (seg l (j+1+2*t+1) (j+L))≠0)->X3 [some (D.tup (ord.map aJ)),some (D.tup (l.map aD)),some (D.int l.length),some (D.ref p),some (D.int j),some (D.int L),some (D.int ((j+1+2*t:Nat):Int))] (ay M p (.dT m)):=λhn =>
     k3 _ _ ⟨m,_,rfl,rfl,O,h2,by rw[a0,h3];exact⟨.inl,λz=>z.resolve_right hn⟩,by lia⟩
    refine⟨sz3 2,?_⟩;rw[c1,ae9];refine fw (λg1=>⟨sz3 2,?_⟩) (λg1=>no λz=>g1 (decide_eq_true z.2.1));rw[c2,ae9];refine fw (λg2=>?_) (λg2=>no λz=>g2 (decide_eq_true z.2.2));refine⟨_,N j b1,_,N _ b2,ord,sg l j,sg l (j+1+2*t),rfl,ho,_,rfl,?_⟩;refine fw (λg3=>⟨sz3 2,m,aq,O4 b3 (szB 16000000),?_⟩) (λg3=>no λz=>g3 z.1);rw[aF,show(j:Int)+(L:Int)=((j+L:Nat):Int)by lia];have J:bM (gV m [.inl (j:Int),.inl ((j+L:Nat):Int)] (.bl true)) [.inl (j:Int),.inl ((j+L:Nat):Int)]=some (.bl true):=by rw[qR,if_pos rfl]
    refine k3 _ _ ⟨_,_,rfl,rfl,λb e c=>?_,.inr J,?_,N3 (n5 _ _ _) (by lia)⟩
    ·rw[qR,if_neg (λz=>c (yL.mp z)),O b e c]
    ·rw[J,a0];exact⟨λ_=>.inr ⟨g3,of_decide_eq_true g1,of_decide_eq_true g2⟩,λ_=>rfl⟩
   ·rintro o n ⟨m,B,rfl,rfl,O,h2,h3,h4⟩;have e2:(vg ((j:Int)+1) 2 (L / 2)).length=L / 2:=by simp[vg]
    rw[e2]at h3 h4;refine k2 _ _ ⟨m,_,_,rfl,rfl,λb e=>?_,by lia⟩
    by_cases c:b=j/\e=j+L
    ·obtain⟨rfl,rfl⟩:=c;have hW:=Ap (R:=rel ord) (row:=l) (show b<b+L by lia) (by lia);rw[Nat.add_sub_cancel_left,<-h3]at hW
     by_cases g:W (rel ord) (seg l b (b+L))≠0
     ·unfold tab;rw[if_pos ⟨by lia,by lia,by lia,by lia,g⟩];rcases h2 with q|q
      ·rw[q]at hW;exact absurd (hW.mp g) (by simp)
      ·exact q
     ·unfold tab;rw[if_neg (λz=>g z.2.2.2.2)];rcases h2 with q|q
      ·exact q
      ·rw[q]at hW;exact absurd (hW.mpr rfl) g
    ·rw[O b e c];refine tH ⟨λz=>⟨z.1,z.2.1,z.2.2.1,by lia,z.2.2.2.2⟩,λz=>⟨z.1,z.2.1,z.2.2.1,by lia,z.2.2.2.2⟩⟩
  ·rintro o n ⟨m,C,B,rfl,rfl,G,x⟩;rw[bT]at G x;refine k' _ _ ⟨m,_,_,_,rfl,rfl,λb e=>?_,by lia⟩;rw[G b e];refine tH ⟨λz=>⟨z.1,z.2.1,z.2.2.1,by lia,z.2.2.2.2⟩,λz=>⟨z.1,z.2.1,z.2.2.1,by lia,z.2.2.2.2⟩⟩
 ·rintro o n ⟨m,C,x5,B,rfl,rfl,G,x⟩;have e2:(vg 2 2 (l.length / 2)).length=l.length / 2:=by simp[vg]
  rw[e2]at G;walk_at"";refine⟨sz3 2,M,o6 hp,?_⟩;have h:=G 0 l.length;have e:(bM m [am7 0,am7 (l.length:Int)]).isSome=decide (W (rel ord) l≠0):=by
   rw[show bM m [am7 0,am7 (l.length:Int)]=_ from h,W0,mz,decide_eq_true_eq,FX];refine⟨λz=>z.2.2.2.2,λz=>⟨by lia,by lia,?_,?_,z⟩⟩
   ·by_cases c:l.length % 2=0
    ·lia
    ·exact absurd (GF _ l (N2 _) (by lia)) z
   ·lia
  rw[e,ae9];exact k
def gA(ag:List (Str×List Row))(a:List Row)(w:Str):List Row:=(kin ag w).flatMap λk=>a.map λr=>r++k
def sC(ag:List (Str×List Row))(ws:List Str):List Row:=ws.foldl (gA ag) [[]]
theorem xw{w:Str}{g:Row->List Row}:∀{ag:List (Str×List Row)},(ag.map (·.1)).Nodup->(ag.flatMap λe=>if e.1=w then e.2.flatMap g else[])=(kin ag w).flatMap g
 |[],_=>rfl
 |e::l,h=>by
  rw[N5,Z1]at h;have ih:=xw (w:=w) (g:=g) h.2;rw[ae5,ih];unfold kin;rw[V3]
  by_cases c:e.1=w
  ·have f:l.lookup w=none:=by
    rw[List.lookup_eq_none_iff];intro p a;simpa using λq:w=p.1=>h.1 (by rw[c,q];exact P4.mpr ⟨p,a,rfl⟩)
   rw[if_pos c,f,show(w==e.1)=true by simp[c]];simp
  ·rw[if_neg c,show(w==e.1)=false by simpa using λq:w=e.1=>c q.symm];rfl
theorem g6{a c:Type}{f:a->List c}{m:Nat}{l:List a}(h:∀x∈l,(f x).length<=m):(l.flatMap f).length<=l.length*m:=by
 rw[al3];exact dQ h
theorem uF{ag:List (Str×List Row)}{K B:Nat}(he:jR ag K B):∀(ws:List Str) (a:List Row) (n m:Nat),a.length<=n->(∀r∈a,r.length<=m)->(ws.foldl (gA ag) a).length<=K ^ ws.length*n/\∀r∈ws.foldl (gA ag) a,r.length<=m+B*ws.length
 |[],a,n,m,e,f=>by simpa using⟨e,f⟩
 |w::ws,a,n,m,e,f=>by
  have i:=zQ (ag:=ag) (w:=w) (P:=λrs=>rs.length<=K/\∀r∈rs,r.length<=B) ⟨O3 _,λ_ h=>by cases h⟩ he;have ih:=uF he ws (gA ag a w) (K*n) (m+B) (by
   unfold gA;refine N3 (g6 (m:=n) λk _=>by rw[s0];exact e) (ag1 _ i.1)) (by
   intro r c;obtain⟨k,g,c⟩:=Z4.mp c;obtain⟨s,j,rfl⟩:=P4.mp c;rw[O6];exact Nat.add_le_add (f s j) (i.2 k g))
  rw[aa6,O2,ai6,Nat.mul_assoc,Nat.mul_succ];refine⟨ih.1,λr c=>?_⟩;have:=ih.2 r c
  lia
theorem uL{ag:List (Str×List Row)}{s:Row}:∀{ws:List Str}{c:List Row},s∈ws.foldl (gA ag) c↔∃a∈c,∃b∈chR ag ws,s=a++b
 |[],c=>by simp[chR]
 |w::ws,c=>by
  rw[aa6,uL];simp only[gA,chR,Z4,P4];constructor
  ·rintro⟨a,⟨k,hk,r,e,rfl⟩,b,hb,rfl⟩;exact⟨r,e,k++b,⟨k,hk,b,hb,rfl⟩,by simp⟩
  ·rintro⟨r,e,x,⟨k,hk,b,hb,rfl⟩,rfl⟩;exact⟨r++k,⟨k,hk,r,e,rfl⟩,b,hb,by simp⟩
theorem GY{l:List Bool}:E1 (.lst (l.map D.bl))=some (.bl (l.any id)):=by
 have a:(l.map D.bl).all wb=true:=by rw[an2,Z3];intro _ _;rfl
 simp only[E1,a,if_true];rw[as7];rfl
def eM:SpD:=λf M R=>∃(ord:List (Str×Str)) (e:Str) (a:List (Str×List Row)) (c:List Str),f=[bJ ord e a,wsD c]/\ord.length<=500/\a.length<=8/\(a.map (·.1)).Nodup/\jR a 2 3/\c.length<=4 /\
 R (.bl (decide (0<((chR a c).map λs=>W (rel ord) (s++[(e,1)])).sum))) M
theorem nA(F:Fun K "_law_is_sentence" "_law_is_sentence" cJ f Y)(T:Txt K I)(a8:FnD P w K I base "_law_wholly" 3 2 rG):aV P w K I base CX0 4 f Y ["_law_lexicon_here","_law_words"] (spD K 2 eM):=by
 have C:=gX.nd;refine F.okR rfl gX (λb4 A a6 s H E hr=>⟨_,(ak (aK (i:=2) C rfl (R8 rfl) (cU (ae (bt ah) ah)))
   (ak (bH Q5 rfl (aM (aa 1)) (aI (i:=3) C rfl (R8 rfl)) (ak (aK (i:=4) C rfl (R8 rfl) (cU ah))
   (ak (bH Q5 rfl (aM (aZ a7 (aa 0) am (λ_ _=>rfl))) (kQ rfl (bG (aI (i:=5) C rfl (R8 rfl)) (bG (aI (i:=6) C rfl (R8 rfl)) kE))) (ao (cV (bz (mm hr.units) (aa 5) (aa 3) nbh) (ao (bH Q5 rfl (aM (aa 6)) (aI (i:=7) C rfl (as5 rfl)) (ao (aK (i:=4) C rfl (R8 rfl) (aW aP (aa 4) (eR (ms:=[false,false,false,false,false,false,false,true]) (ar:=["_law_row"]) (aE rfl (show aS (aj cJ) cA _ _=true from by decide +kernel)) rfl (aM (aa 2)) (aC (i:=8) (show(cA++_).Nodup from by decide +kernel) rfl rfl) (λ_ _ _ _=>bh) (λ_ _ _ _=>(aW aP (aa 8) (aa 7))))))))) bW)))
   (ao (aK (i:=2) C rfl (R8 rfl) (aa 4))))))
   (ao (aN (aU (Ll rfl) rfl T.b_any (by kernel_rfl) (ae (eR (ms:=[true,false,false,false,false,false,false,false]) (ar:=["_law_row"]) (aE rfl (show aS (aj cJ) cA _ _=true from by decide +kernel)) rfl (aM (aa 2)) (aC (i:=8) (show(cA++_).Nodup from by decide +kernel) rfl rfl) (λ_ _ _ _=>bh) (λ_ _ _ _=>(qd a8 hr (ae (aZ a7 (aa 0) am (λ_ _=>rfl)) (ae (aW aP (aa 8) (bt (ae (bt (ae (aZ a7 (aa 0) am (λ_ _=>rfl)) (ae am ah))) ah))) ah))))) ah)))))),λds M R _ hS bk=>?_⟩)
 obtain⟨ord,B,n,p,rfl,ho,hl,a',he,hw,k⟩:=hS;refine bk ?_;clear bk;simp only[bJ,wsD];walk_at"";refine⟨O3 _,by rw[O7];decide,λ_=>?_⟩;refine aG (λi u M'=>∃x3 x4 U S J,u=[some (D.tup [D.tup (ord.map aJ),D.str B,D.tup (n.map bI)]),some (D.tup (p.map D.str)),some (D.lst ((sC n (p.take i)).map au)),x3,x4,U,S,J]/\M'=M) ⟨_,_,_,_,_,rfl,rfl⟩ ?_ ?_
 ·rintro i d u M' X hd ⟨x3,x4,U,S,J,rfl,rfl⟩ k';obtain⟨w,a2,rfl⟩:=bU hd;have hi:i<p.length:=(N4.mp a2).1;have a5:(p.take i).length=i:=by rw[S2];lia
  have Z:=uF he (p.take i) [[]] 1 0 (N2 _) (by simp);rw[a5]at Z;have b3:2 ^ i*1<=8:=by
   rw[Nat.mul_one];exact N3 (W3 (by decide) (show i<=3 by lia)) (by decide)
  have N:sC n (p.take (i+1))=gA n (sC n (p.take i)) w:=by
   unfold sC;rw[S1,a2,ao1];rfl
  change (sC n (p.take i)).length<=_/\(∀r∈sC n (p.take i),_)at Z
  generalize sC n (p.take i)=g at *
  have b2:g.length<=8:=by lia
  refine⟨_,rfl,?_⟩;simp only[vh,mR,BX,fk,yk,gK,bN,dOp,dC];refine⟨O3 _,_,rfl,_,rfl,_,rfl,λ_=>?_⟩;refine aG (λj u M1=>∃U S J m,u=[some (D.tup [D.tup (ord.map aJ),D.str B,D.tup (n.map bI)]),some (D.tup (p.map D.str)),some (D.lst (g.map au)),some (D.str w),some (D.lst (m.map au)),U,S,J]/\M1=M'/\m=((n.take j).flatMap λe=>if e.1=w then e.2.flatMap λk=>g.map λr=>r++k else[])/\m.length<=100*j) ⟨_,_,_,[],rfl,rfl,by simp,by simp⟩ ?_ ?_
  ·rintro j d u M1 X2 a4 ⟨y5,y6,y7,m,rfl,rfl,z,b0⟩ k2;obtain⟨e,Q,rfl⟩:=bU a4;have hj:j<n.length:=(N4.mp Q).1;obtain⟨b6,a3⟩:=he e (P3 Q);simp only[bI];refine⟨_,rfl,?_⟩;simp only[Fl,rS,dOp,bN];refine⟨_,rfl,_,rfl,_,rfl,_,rfl,?_⟩;have a0:(n.take (j+1)).flatMap (λe=>if e.1=w then e.2.flatMap λk=>g.map λr=>r++k else[])=m++if e.1=w then e.2.flatMap λk=>g.map λr=>r++k else[]:=by
    rw[S1,Q,ah4,z];simp
   refine fw (λc=>?_) (λc=>?_)
   ·have c':e.1=w:=by simpa[rdM,eqD]using c
    simp only[yk,gK,bN];refine⟨_,rfl,_,rfl,λ_=>?_⟩;refine aG (λt u M2=>∃J l,u=[some (D.tup [D.tup (ord.map aJ),D.str B,D.tup (n.map bI)]),some (D.tup (p.map D.str)),some (D.lst (g.map au)),some (D.str w),some (D.lst (l.map au)),some (D.str e.1),some (bq e.2),J]/\M2=M1/\l=m++((e.2.take t).flatMap λk=>g.map λr=>r++k)/\l.length<=100*j+8*t) ⟨_,m,rfl,rfl,by simp,by assumption⟩ ?_ ?_
    ·rintro t d u M2 X3 a9 ⟨z7,l,rfl,rfl,o,G⟩ k3;obtain⟨kd,L,rfl⟩:=bU a9;have ht:t<e.2.length:=(N4.mp L).1;have b5:=a3 kd (P3 L);refine⟨_,rfl,?_⟩;simp only[mR,dOp,dLc,gK,bN];refine⟨_,rfl,_,rfl,_,rfl,λ_=>⟨by rw[s0,O7];exact N3 (by assumption) (by decide),?_⟩⟩;refine aY au (λ_=>true) (λr=>au (r++kd)) (λu=>∃x,u=[none,none,none,none,none,none,none,some (au kd),x]) _ _ _ ?_ ⟨_,rfl⟩ ?_
     ·rintro r O u ⟨x,rfl⟩;refine⟨_,rfl,⟨_,rfl⟩,λQ1 q=>q,λ_ Q2 q=>?_⟩;have b1:=Z.2 r O;refine⟨_,rfl,_,rfl,au (r++kd),?_,q⟩;show gM (.tup (r.map aD)) (.tup (kd.map aD))=_;rw[fq,if_pos (by rw[s0,s0,O7];lia)];simp[au]
     ·rw[U0.mpr (λ_ _=>rfl),P1];have hz:(l++g.map λr=>r++kd).length<=100*j+8*(t+1):=by rw[O6,s0];lia
      refine⟨D.lst ((l++g.map λr=>r++kd).map au),?_,k3 _ _ ⟨some (au kd),_,rfl,rfl,?_,hz⟩⟩
      ·show gM (.lst (l.map au)) (.lst (g.map λr=>au (r++kd)))=_;refine(if_pos (show ad2 _+ad2 _<=N7 by rw[s0,s0,O7];lia)).trans ?_;rw[P7,P9];rfl
      ·rw[S1,L,ah4,o];simp
    ·rintro u M2 ⟨z7,l,rfl,rfl,o,G⟩;rw[s0,S6]at o;rw[s0]at G;refine k2 _ _ ⟨_,_,_,l,rfl,rfl,?_,by lia⟩;rw[a0,if_pos c',o]
   ·have c':¬ e.1=w:=λq=>c (by simp[rdM,eqD,q]);refine k2 _ _ ⟨_,_,_,m,rfl,rfl,?_,by lia⟩;rw[a0,if_neg c',aa4]
  ·rintro u M1 ⟨y5,y6,y7,m,rfl,rfl,z,b0⟩;rw[s0,S6,xw a']at z;have hx:sC n (p.take (i+1))=m:=by rw[N,z];rfl
   exact⟨_,rfl,k' _ _ ⟨some (D.str w),_,_,_,_,by rw[hx];rfl,rfl⟩⟩
 ·rintro u M' ⟨x3,x4,U,S,J,rfl,rfl⟩;rw[s0,S6];have Z:=uF he p [[]] 1 0 (N2 _) (by simp);have a1:((sC n p).map λs=>decide (W (rel ord) (s++[(B,1)])≠0)).any id=decide (0<((chR n p).map λs=>W (rel ord) (s++[(B,1)])).sum):=by
   rw[W0,as7,ab0,decide_eq_true_eq,Nat.pos_iff_ne_zero,uS];constructor
   ·rintro⟨s,hs,h⟩;obtain⟨a,ha,b,hb,rfl⟩:=uL.mp hs;rw[N8.mp ha,P1]at h;exact⟨b,hb,of_decide_eq_true h⟩
   ·rintro⟨s,hs,h⟩;exact⟨s,uL.mpr ⟨[],.head _,s,hs,rfl⟩,decide_eq_true h⟩
  walk_at"";refine λhz=>⟨hz,?_⟩;have hc:i4 [true,false,false,false,false,false,false,false] 1 [some (D.tup [D.tup (ord.map aJ),D.str B,D.tup (n.map bI)]),some (D.tup (p.map D.str)),some (D.lst ((sC n p).map au)),x3,x4,U,S,J]=[some (D.tup [D.tup (ord.map aJ),D.str B,D.tup (n.map bI)]),none,none,none,none,none,none,none,none]:=rfl;rw[hc];refine aY au (λ_=>true) (λs=>D.bl (decide (W (rel ord) (s++[(B,1)])≠0))) (λu=>∃x,u=[some (D.tup [D.tup (ord.map aJ),D.str B,D.tup (n.map bI)]),none,none,none,none,none,none,none,x]) _ _ _ ?_ ⟨_,rfl⟩ ?_
  ·rintro r O u ⟨x,rfl⟩;refine⟨_,rfl,⟨_,rfl⟩,λQ1 q=>q,λ_ Q2 q=>?_⟩;have b1:=Z.2 r O;walk_at"";refine⟨by rw[O7];decide,by rw[O7];decide,au (r++[(B,1)]),?_,ord,r++[(B,1)],rfl,ho,by rw[O6];simp;lia,q⟩;show gM (.tup (r.map aD)) (.tup [aD (B,1)])=_;rw[fq,if_pos (by rw[s0,O7];simp;lia)];simp[au]
  ·rw[U0.mpr (λ_ _=>rfl),P1];refine⟨_,?_,k⟩;rw[<-a1,<-GY,P9];rfl
theorem BR{x y:Str×Int}:eqD (aD x) (aD y)=decide (x=y):=by
 obtain⟨a,t⟩:=x;obtain⟨b,u⟩:=y;rw[W0];simp[aD,eqD,dh]
theorem rP:∀{r1 r2:List (Str×Int)},dh (r1.map aD) (r2.map aD)=decide (r1=r2)
 |[],[]=>by simp[dh]
 |[],_::_=>by simp[dh]
 |_::_,[]=>by simp[dh]
 |x::r1,y::r2=>by
  rw[N5,N5,dh,rP (r1:=r1) (r2:=r2),BR];simp
theorem fU{r:Row}:dLe (au r) 59=true:=by
 show cT (r.map aD) 58=true;rw[mF];intro d a;obtain⟨x,_,rfl⟩:=P4.mp a;rfl
def SgM(a:List Str)(t:Nat)(r:Row):Prop:=∀s∈r,s.1∈a/\-(t:Int)<=s.2/\s.2<=t
def ud:SpD:=λf M R=>∃(p:O1) (l:List D) (e:List Str) (a bB turns:Nat),f=[.ref p,.lst (e.map .str),.int (a:Int),.int (bB:Int),.int (turns:Int)]/\M p=some (.lst l)/\bu l/\e≠[]/\e.length<=1000/\1<=a/\a<=8/\bB<=8/\turns<=8 /\
 ∀(c:List Row) l',1<=c.length->c.length<=a->(∀r∈c,r.length<=bB/\SgM e turns r)->bu l'->R (bq c) (ay M p (.lst l'))
theorem yT(F:Fun K "_law_kinds" "_law_kinds" nL f Y)(T:Txt K I)(Y0:FnD P w K I base "_law_draw" 1 2 dw):aV P w K I base CX0 2 f Y ["_law_pool_here","_law_marks_here","_law_most","_law_signs","_law_turns"] (spD K 5 ud):=by
 have nd:=pN.nd;refine F.okR rfl pN (λc2 A b8 s H E hr=>⟨_,(ak (aK (i:=5) nd rfl (R8 rfl) (iK ah))
   (ak (bH Q5 rfl (b7 rfl T.b_range (ae (aW aP am (qd Y0 hr (ae (aa 0) (ae (aa 2) ah)))) ah)) (aI (i:=6) nd rfl (R8 rfl)) (ak (aK (i:=7) nd rfl (R8 rfl) (iK ah))
   (ak (bH Q5 rfl (b7 rfl T.b_range (ae (qd Y0 hr (ae (aa 0) (ae (aW aP (aa 3) am) ah))) ah)) (aI (i:=8) nd rfl (R8 rfl)) (ak (aK (i:=9) nd rfl (R8 rfl) (aZ a7 (aa 1) (qd Y0 hr (ae (aa 0) (ae (aU cM rfl T.b_len (by kernel_rfl) (ae (aa 1) ah)) ah))) (λ_ _=>rfl)))
   (ao (gb (og (aa 7) (bt (ae (aa 9) (ae (aW GM (qd Y0 hr (ae (aa 0) (ae (aW aP (aW nh am (aa 4)) am) ah))) (aa 4)) ah))))))))
   (ao (cV (bz (vI hr.units) (cB fB rfl T.b_tuple (by kernel_rfl) (ae (aa 7) ah)) (aa 5) rfl) (ao (gb (og (aa 5) (cB fB rfl T.b_tuple (by kernel_rfl) (ae (aa 7) ah))))) bW)))))
   (ao (iQ (cB fB rfl T.b_tuple (by kernel_rfl) (ae (aa 5) ah)))))),λds M R _ hS bk=>?_⟩)
 obtain⟨p,l,az,U,bB,turns,rfl,hM,hP,hm,c5,c6,c1,c4,c3,k⟩:=hS;refine bk ?_;clear bk;walk_at"";refine⟨O3 _,λq hq=>?_⟩;have N:p≠q:=by rintro rfl;rw[hM]at hq;cases hq
 refine⟨p,l,_,rfl,by rw[aA N];exact hM,hP,by lia,by lia,λv l1 h0 h1 b2=>?_⟩;obtain⟨n,rfl⟩:=Z0 h0;refine⟨.int (1+(n:Int)),rfl,_,rfl,by lia,by lia,?_⟩;rw[show(1+(n:Int)).toNat=n+1 by lia];refine aG (λi Δ o=>∃x6 x7 x8 x9 l B,Δ=[some (D.ref p),some (D.lst (az.map D.str)),some (D.int (U:Int)),some (D.int (bB:Int)),some (D.int (turns:Int)),some (D.ref q),x6,x7,x8,x9]/\o p=some (.lst l)/\bu l/\o q=some (.lst (B.map au))/\(∀a u,a≠p->M a=some u->o a=some u)/\B.length<=i/\(0<i->1<=B.length)/\∀r∈B,r.length<=bB/\SgM az turns r)
  ⟨_,_,_,_,l1,[],rfl,aq,b2,by rw[aA (aa3 N),aq];rfl,λa u ha e=>?_,O3 _,λh=>absurd h (by decide),λ_ h=>by cases h⟩ ?_ ?_
 ·have a6:a≠q:=λz=>by rw[z,hq]at e;cases e
  rw[aA ha,aA a6];exact e
 ·rintro i d Δ o X hd ⟨x6,x7,x8,x9,l2,B,rfl,Q,a4,S,G,a9,a5,O⟩ k';obtain⟨hi,rfl⟩:=cD hd;simp only[bV];walk_at"";refine⟨O3 _,λr C=>?_⟩;have j:p≠r:=by rintro rfl;rw[Q]at C;cases C
  have c0:q≠r:=by rintro rfl;rw[S]at C;cases C
  refine⟨p,l2,_,rfl,by rw[aA j];exact Q,a4,by lia,by lia,λv l3 g0 g1 b'=>⟨v,rfl,by lia,by lia,?_⟩⟩;obtain⟨m,rfl⟩:=Z0 g0;rw[U2];refine aG (λt Δ M2=>∃x8 x9 l g,Δ=[some (D.ref p),some (D.lst (az.map D.str)),some (D.int (U:Int)),some (D.int (bB:Int)),some (D.int (turns:Int)),some (D.ref q),some (D.int (0+(i:Int))),some (D.ref r),x8,x9]/\M2=ay (ay o p (.lst l)) r (.lst (g.map aD))/\bu l/\g.length<=t/\SgM az turns g)
   ⟨_,_,l3,[],rfl,cp (aa3 j),b',N2 _,λ_ h=>by cases h⟩ ?_ ?_
  ·rintro t d Δ M2 X2 b5 ⟨y8,y9,J,g,rfl,rfl,L,Z,a2⟩ k2;obtain⟨ht,rfl⟩:=cD b5;have bp:(0:Int)<((az.map D.str).length:Int):=by
    rw[s0];have:=ap1.mpr hm
    lia
   have a3:((az.map D.str).length:Int)<1073741824:=by
    rw[s0];lia
   have b3:∀l5,ay (ay (ay o p (.lst J)) r (.lst (g.map aD))) p (.lst l5)=ay (ay o p (.lst l5)) r (.lst (g.map aD)):=λl5=>by
    rw[<-cp j,aF]
   simp only[bV];walk_at"";refine⟨p,J,_,rfl,by rw[aA j,aq],L,bp,a3,λv1 l5 a0 a1 b9=>?_⟩;rw[s0]at a1;obtain⟨m1,a',e1⟩:=lV a0 a1;rw[b3];refine⟨_,e1,_,aq,p,l5,_,rfl,by rw[aA j,aq],b9,by lia,by lia,λv2 l6 b0 b1 b4=>?_⟩;have a8:ay (ay (ay o p (.lst l5)) r (.lst (g.map aD))) p (.lst l6)=ay (ay o p (.lst l6)) r (.lst (g.map aD)):=by
    rw[<-cp j,aF]
   rw[a8];refine⟨.int (v2-(turns:Int)),rfl,sz3 2,_,aq,?_,k2 _ _ ⟨_,_,l6,g++[(m1,v2-(turns:Int))],rfl,?_,b4,by simp;assumption,λs hs=>?_⟩⟩
   ·rw[s0,O7];lia
   ·rw[aF];simp[aD]
   ·rcases P0.mp hs with h|h
    ·exact a2 s h
    ·rw[N8.mp h];exact⟨a',by show -(turns:Int)<=v2-turns;lia,by show v2-(turns:Int)<=turns;lia⟩
  ·rintro Δ M2 ⟨y8,y9,J,g,rfl,rfl,L,Z,a2⟩;rw[bT]at Z;walk_at"";have eq:ay (ay o p (.lst J)) r (.lst (g.map aD)) q=some (.lst (B.map au)):=by rw[aA c0,aA (aa3 N)];exact S
   have ep:ay (ay o p (.lst J)) r (.lst (g.map aD)) p=some (.lst J):=by rw[aA j,aq]
   have eo:∀a u,a≠p->M a=some u->ay (ay o p (.lst J)) r (.lst (g.map aD)) a=some u:=λa u ha e=>by
    have h:=G a u ha e;have b6:a≠r:=by rintro rfl;rw[C]at h;cases h
    rw[aA b6,aA ha];exact h
   generalize ay (ay o p (.lst J)) r (.lst (g.map aD))=M3 at *
   refine⟨.bl (!((B.map au).any λd=>eqD d (au g))),?_,_,rfl,?_⟩
   ·rw[show rdM M3 (D.ref q)=D.lst (B.map au)by simp[rdM,eq]];show nq (au g) _=_;rw[DA,if_pos ⟨fU,eC au λ_=>fU⟩]
   refine fw (λc=>?_) (λc=>?_)
   ·refine⟨_,eq,_,eq,by rw[s0,O7];lia,k' _ _ ⟨_,_,_,_,J,B++[g],rfl,?_,L,?_,λa u ha e=>?_,by simp;assumption,λ_=>by simp,λx hx=>?_⟩⟩
    ·rw[aA N];exact ep
    ·rw[aq,P7];rfl
    ·have a6:a≠q:=λz=>by rw[z,hq]at e;cases e
     rw[aA a6];exact eo a u ha e
    ·rcases P0.mp hx with h|h
     ·exact O x h
     ·rw[N8.mp h];exact⟨by lia,a2⟩
   ·refine k' _ _ ⟨_,_,_,_,J,B,rfl,ep,L,eq,eo,by exact U7 (by assumption),λ_=>?_,O⟩;cases B with
    |nil=>exact absurd rfl c
    |cons _ _=>simp
 ·rintro Δ o ⟨x6,x7,x8,x9,l2,B,rfl,Q,a4,S,G,a9,a5,O⟩;rw[bT]at a9 a5;walk_at"";refine⟨bq B,by simp[rdM,S,E7,bq],ay M p (.lst l2),λa u e=>?_,k B l2 (a5 (by lia)) (by lia) O a4⟩
  by_cases c:a=p
  ·rw[c,aq]at e;rw[c,Q];exact e
  ·rw[aA c]at e;exact G a u c e
theorem B5{a b:TSd}{E:fZ}{f:DE}{M:DH}(C:DE->DH->Prop)(g:∀nx,(∀ c e,C c e->nx c e)->a { E with nx:=nx } f M)(h:∀ c e,C c e->b E c e):vh a b E f M:=g _ h
theorem zy{r a:Row}:eqD (au r) (au a)=decide (r=a):=by
 show dh (r.map aD) (a.map aD)=_;exact rP
def Ja(a:List Str)(ag:List (Str×List Row))(B:Nat):Prop:=∀e∈ag,1<=e.2.length/\e.2.length<=2/\e.2.Nodup/\∀r∈e.2,r.length<=B/\SgM a 1 r
theorem Fz{ks:List Row}{f:List Nat}(n:(Q0 ks.length).filter (λk=>!(((ks.take k).map au).any λd=>eqD d (au (ks.getD k []))))=f):(f.map λk=>ks.getD k []).Nodup/\(1<=ks.length->1<=f.length):=by
 subst n;constructor
 ·rw[List.nodup_iff_pairwise_ne,an8];refine(am4.filter _).imp_of_mem λ{a b} m l o e=>?_;obtain⟨g,_⟩:=W4.mp m;obtain⟨i,c⟩:=W4.mp l;have j:=R0.mp g;have p:=R0.mp i;rw[Bool.not_eq_true',List.any_eq_false]at c;refine c (au (ks.getD a [])) (al4 ?_) (by rw[zy,decide_eq_true e]);rw[S5,N0 j];exact List.mem_take_iff_getElem.mpr ⟨a,by lia,rfl⟩
 ·intro h;refine List.length_pos_of_mem (a:=0) (W4.mpr ⟨R0.mpr (by assumption),?_⟩);simp
def oj:SpD:=λg M R=>∃(p:O1) (l:List D) (c a:List Str) (bB:Nat),g=[.ref p,.lst (c.map .str),.lst (a.map .str),.int (bB:Int)]/\M p=some (.lst l)/\bu l/\c≠[]/\c.length<=1000/\a.length<=8/\2<=bB/\bB<=8 /\
 ∀(ord:List (Str×Str)) (f:Str) (e:List (Str×List Row)) l',ord.length<=2->e.map (·.1)=a->Ja c e bB->(∀x∈ord,x.1∈c/\x.2∈c)->f∈c->bu l'->R (bJ ord f e) (ay M p (.lst l'))
theorem uy(F:Fun K "_law_lexicon" "_law_lexicon" gC f Y)(T:Txt K I)(c1:FnD P w K I base "_law_order" 2 3 tJ)(Y0:FnD P w K I base "_law_draw" 1 2 dw)(b':FnD P w K I base "_law_kinds" 2 5 ud):aV P w K I base CX0 3 f Y ["_law_pool_here","_law_marks_here","_law_words","_law_signs"] (spD K 4 oj):=by
 have nd:=mM.nd;refine F.okR rfl mM (λc' A b9 s H E hr=>⟨_,(ak (aK (i:=4) nd rfl (R8 rfl) (qd c1 hr (ae (aa 0) (ae (aa 1) (ae am ah)))))
   (ak (aK (i:=5) nd rfl (R8 rfl) (aZ a7 (aa 1) (qd Y0 hr (ae (aa 0) (ae (aU cM rfl T.b_len (by kernel_rfl) (ae (aa 1) ah)) ah))) (λ_ _=>rfl)))
   (ak (aK (i:=6) nd rfl (R8 rfl) (iK ah))
   (ak (bH Q5 rfl (aM (aa 2)) (aI (i:=7) nd rfl (R8 rfl)) (ak (aK (i:=8) nd rfl (as5 rfl) (qd b' hr (ae (aa 0) (ae (aa 1) (ae am (ae (aa 3) (ae am ah)))))))
   (dn (ak (cV (bz (mm hr.units) (qd Y0 hr (ae (aa 0) (ae am ah))) am nbh) (ao (aK (i:=8) nd rfl (as5 rfl) (aW aP (bt (ae (aW aP (aW aP (eI (aZ a7 (aa 8) am (λ_ _=>rfl)) iH (fm am)) (bt (ae (bt (ae (aa 5) (ae am ah))) ah))) (eI (aZ a7 (aa 8) am (λ_ _=>rfl)) (fm am) iH)) ah)) (eI (aa 8) (fm am) iH)))) bW)
   (ao (gb (og (aa 6) (bt (ae (aa 7) (ae (cB fB rfl T.b_tuple (by kernel_rfl) (ae (eR (ms:=[false,false,false,false,false,false,false,false,true]) (ar:=["_law_k"]) (aE rfl (show aS (aj gC) jX _ _=true from by decide +kernel)) rfl (b7 rfl T.b_range (ae (aU cM rfl T.b_len (by kernel_rfl) (ae (aa 8) ah)) ah)) (aC (i:=9) (show(jX++_).Nodup from by decide +kernel) rfl rfl) (λ_ _ _ _=>(jN (bz (vI hr.units) (aZ a7 (aa 8) (aa 9) (λ_ _=>rfl)) (eI (aa 8) iH (fm (aa 9))) rfl))) (λ_ _ _ _=>(aZ a7 (aa 8) (aa 9) (λ_ _=>rfl)))) ah)) ah))))))))))
   (ao (iQ (bt (ae (aa 4) (ae (aa 5) (ae (cB fB rfl T.b_tuple (by kernel_rfl) (ae (aa 6) ah)) ah)))))))))),λds M R _ hS bk=>?_⟩)
 obtain⟨p,l,C,m,bB,rfl,hM,hP,hm,a6,c6,d0,c2,k⟩:=hS;refine bk ?_;clear bk;walk_at"";refine⟨p,l,C,2,rfl,hM,hP,hm,a6,by decide,by decide,λord l1 ho b4 b2=>?_⟩;have bp:(0:Int)<((C.map D.str).length:Int):=by
  rw[s0];have:=ap1.mpr hm
  lia
 have S:((C.map D.str).length:Int)<1073741824:=by
  rw[s0];lia
 refine⟨p,l1,_,rfl,aq,b2,bp,S,λv l2 h0 h1 b6=>?_⟩;rw[s0]at h1;obtain⟨u,a3,eg⟩:=lV h0 h1;rw[aF];refine⟨.str u,eg,O3 _,λq hq _=>?_⟩;have B:p≠q:=by rintro rfl;rw[aq]at hq;cases hq
 have c0:M q=none:=by rw[aA (aa3 B)]at hq;exact hq
 have a2:∀U l4 es,ay (ay (ay M p (.lst U)) q (.lst es)) p (.lst l4)=ay (ay M p (.lst l4)) q (.lst es):=λU l4 es=>by
  rw[<-cp B,aF]
 refine aG (λi Δ M'=>∃x7 x8 l N,Δ=[some (D.ref p),some (D.lst (C.map D.str)),some (D.lst (m.map D.str)),some (D.int (bB:Int)),some (D.tup (ord.map aJ)),some (D.str u),some (D.ref q),x7,x8]/\M'=ay (ay M p (.lst l)) q (.lst (N.map bI))/\bu l/\N.map (·.1)=m.take i/\Ja C N bB)
  ⟨_,_,l2,[],rfl,rfl,b6,rfl,λ_ h=>by cases h⟩ ?_ ?_
 ·rintro i d Δ M' X hd ⟨x7,x8,U,N,rfl,rfl,a0,hw,he⟩ k';obtain⟨wd,a5,rfl⟩:=bU hd;have hi:i<m.length:=(N4.mp a5).1;have c4:N.length<=8:=by
   have:=congrArg ad2 hw;rw[s0,S2]at this
   lia
  simp only[bV];walk_at"";refine⟨p,U,C,2,bB,1,rfl,by rw[aA B,aq],a0,hm,a6,by decide,by decide,c2,by decide,λg l4 G L o a'=>?_⟩;rw[a2];refine bL ?_;refine B5 (λa4 M'=>∃g l',a4=[some (D.ref p),some (D.lst (C.map D.str)),some (D.lst (m.map D.str)),some (D.int (bB:Int)),some (D.tup (ord.map aJ)),some (D.str u),some (D.ref q),some (D.str wd),some (bq g)]/\M'=ay (ay M p (.lst l')) q (.lst (N.map bI))/\bu l'/\1<=g.length/\g.length<=2/\∀r∈g,r.length<=bB/\SgM C 1 r) (λnx a1=>?_) ?_
  ·walk_at"";refine⟨p,l4,2,rfl,by rw[aA B,aq],a',by decide,by decide,λv2 l5 b0 b1 J=>?_⟩;rw[a2];refine⟨_,rfl,_,rfl,fw (λc=>?_) (λc=>a1 _ _ ⟨g,l5,rfl,rfl,J,G,L,o⟩)⟩;obtain⟨j,Q,rfl⟩:∃j Q,g=j::Q:=by
    cases g with
    |nil=>simp at G
    |cons a b=>exact⟨a,b,rfl⟩
   obtain⟨c5,O⟩:=o j (.head _);have e2:L2.cZ (j.map aD) none (some 1)=(j.map aD).take 1:=yK (n:=1);have e3:L2.cZ (j.map aD) (some 2) none=(j.map aD).drop 2:=pE (n:=2);have e4:L2.cZ ((j::Q).map au) (some 1) none=Q.map au:=by rw[show(some (1:Int))=some ((1:Nat):Int)from rfl,pE (n:=1)];rfl
   have e0:∀M1:DH,ixD (rdM M1 (bq (j::Q))) (D.int 0)=some (au j):=λM1=>(show atI ((j::Q).map au) ((0:Nat):Int)=_ from cf rfl);refine⟨au j,e0 _,_,rfl,sz3 2,sz3 1,au (j.take 1++[(u,0)]),?_,au j,e0 _,_,rfl,au (j.take 1++[(u,0)]++j.drop 2),?_,sz3 1,_,rfl,bq ((j.take 1++[(u,0)]++j.drop 2)::Q),?_,a1 _ _ ⟨_,l5,rfl,rfl,J,by simp,?_,?_⟩⟩
   ·show gM (.tup (L2.cZ (j.map aD) none (some 1))) (.tup [aD (u,0)])=_;rw[e2,fq,if_pos (by rw[S2,O7];simp;lia)];simp[au,at6]
   ·show gM (.tup ((j.take 1++[(u,0)]).map aD)) (.tup (L2.cZ (j.map aD) (some 2) none))=_;rw[e3,fq,if_pos (by rw[O7];simp;lia)];simp[au,aw6]
   ·show gM (.tup [au (j.take 1++[(u,0)]++j.drop 2)]) (.tup (L2.cZ ((j::Q).map au) (some 1) none))=_;simp only[O2]at L;rw[e4,fq,if_pos (by rw[O7];simp;lia)];rfl
   ·simpa using L
   ·intro r Z;rcases O9.mp Z with e|e
    ·rw[e];refine⟨?_,λs hs=>?_⟩
     ·simp only[O6,S2,al6,O2,V5]
      lia
     rcases P0.mp hs with z|z
     ·rcases P0.mp z with z|z
      ·exact O s (aj2 z)
      ·rw[N8.mp z];exact⟨a3,by show -((1:Nat):Int)<=(0:Int);decide,by show(0:Int)<=((1:Nat):Int);decide⟩
     ·exact O s (List.mem_of_mem_drop z)
    ·exact o r (.tail _ e)
  rintro a4 M' ⟨g,l5,rfl,rfl,J,G,L,o⟩;walk_at"";have hj:(g.length:Int).toNat=g.length:=U2 _;refine⟨.int (g.length:Int),by simp[rdM,bq,oT],_,rfl,by lia,by lia,by rw[bT,hj,O7];exact N3 (by assumption) (by decide),?_⟩;have hc:i4 [false,false,false,false,false,false,false,false,true] 1 [some (D.ref p),some (D.lst (C.map D.str)),some (D.lst (m.map D.str)),some (D.int (bB:Int)),some (D.tup (ord.map aJ)),some (D.str u),some (D.ref q),some (D.str wd),some (bq g)]=[none,none,none,none,none,none,none,none,some (bq g),none]:=rfl;rw[hc,hj,jm];refine aY (λ(k:Nat)=>D.int (0+(k:Int))) (λk=>!(((g.take k).map au).any λd=>eqD d (au (g.getD k [])))) (λk=>au (g.getD k [])) (λΔ=>∃x,Δ=[none,none,none,none,none,none,none,none,some (bq g),x]) _ _ _ ?_ ⟨_,rfl⟩ ?_
  ·rintro a ha Δ ⟨x,rfl⟩;have b3:=R0.mp ha;have a9:∀M1:DH,ixD (rdM M1 (bq g)) (rdM M1 (D.int (a:Int)))=some (au (g.getD a [])):=λM1=>cf (by simp[b3]);rw[an4];refine⟨_,rfl,⟨_,rfl⟩,λQ1 q1=>?_,λ_ Q2 q1=>⟨_,rfl,_,rfl,_,a9 _,q1⟩⟩;walk_at"";refine⟨_,a9 _,D.tup ((g.take a).map au),?_,_,(CJ).trans (if_pos ⟨fU,eC au λ_=>fU⟩),_,rfl,q1⟩;show some (D.tup (L2.cZ (g.map au) none (some (a:Int))))=_;rw[yK,at6]
  ·refine⟨sz3 2,_,aq,by rw[s0,O7];lia,?_⟩;rw[aF];generalize hf:(Q0 g.length).filter (λk=>!(((g.take k).map au).any λd=>eqD d (au (g.getD k []))))=ix;have b8:∀a∈ix,a<g.length:=λa ha=>by
    rw[<-hf]at ha;exact R0.mp (W4.mp ha).1
   have c3:ix.length<=g.length:=by
    rw[<-hf];refine N3 (aa8 _ _) ?_;rw[Z5];exact N2 _
   refine k' _ _ ⟨_,_,l5,N++[(wd,ix.map λk=>g.getD k [])],rfl,?_,J,?_,λe b5=>?_⟩
   ·simp[bI,bq,ag9]
   ·rw[P7,hw,S1,a5];rfl
   ·rcases P0.mp b5 with h|h
    ·exact he e h
    ·rw[N8.mp h];have a8:=Fz hf;refine⟨by rw[s0];exact a8.2 G,by rw[s0];exact N3 (by assumption) (by assumption),a8.1,λr Z=>?_⟩;obtain⟨a,ha,rfl⟩:=P4.mp Z;have:=b8 a ha;refine o _ ?_;rw[S5,N0 this];exact V0 _
 ·rintro Δ M' ⟨x7,x8,U,N,rfl,rfl,a0,hw,he⟩;rw[s0,S6]at hw;walk_at"";refine⟨sz3 3,ay M p (.lst U),o6 (by rw[aA (aa3 B)];exact c0),k ord u N U ho hw he b4 a3 a0⟩
noncomputable def kR(r:Row):List L2.KD:=r.map λx=>.tup [.str x.1,.int x.2]
theorem Fk(r:Row):Bq (kR r)=au r:=by
 unfold Bq kR au;rw[pj,P9];rfl
theorem Eo(ks:List Row):(ks.map kR).map Bq=ks.map au:=by
 rw[P9];exact R5 λr _=>Fk r
theorem G9{a b:Row}(h:kR a=kR b):a=b:=by
 unfold kR at h;refine(List.map_inj_right ?_).mp h;rintro⟨f,g⟩ ⟨i,c⟩ e;simp only[L2.KD.tup.injEq,af5,L2.KD.str.injEq,L2.KD.int.injEq,and_true]at e;rw[e.1,e.2]
theorem Lk(r:Row):dpK 8 (.tup (kR r)):=by
 intro k hk;obtain⟨x,_,rfl⟩:=P4.mp hk;intro j a;simp only[O9,ac3,or_false]at a;rcases a with rfl|rfl<;>trivial
theorem C8{rs:List Row}(h:rs.Nodup):(rs.map kR).Nodup:=by
 unfold List.Nodup at h ⊢;rw[an8];exact h.imp λa e=>a (G9 e)
theorem o4{e:Type}{enc:e->D}{M:DH}{Q:List D->DH->Prop}{xs:List e}{te:TEd}{Δ0:DE}{n:Nat}(f:e->D)(hn:n=Δ0.length)(g:∀x∈xs,∀y,∀a:D->DH->Prop,a (f x) M->te ((Δ0++[y]).set Δ0.length (some (enc x))) M a)
  (h:Q (xs.map f) M):cY (bV n) yz te (xs.map enc) (Δ0++[none]) M [] Q:=by
 subst hn;refine aY enc (λ_=>true) f (λi=>∃x,i=Δ0++[x]) xs _ _ (λx j i c=>?_) ⟨none,rfl⟩ ?_
 ·obtain⟨y,rfl⟩:=c;exact⟨_,rfl,⟨some (enc x),by simp⟩,λl q=>q,λ_ a q=>g x j y a q⟩
 ·rw[P1,U0.mpr (λ_ _=>rfl)];exact h
def cI:SpD:=λc M R=>∃a n,c=[.tup a,.int n]/\(a.length:Int)=n/\R (.bl true) M
theorem m9(F:Fun K "is_tuple_of" "is_tuple_of" eZ f Y)(T:Txt K I):aV P w K I base CX0 1 f Y ["thing","many"] (spD K 2 cI):=by
 have j:=ir.nd;refine F.okR rfl ir (λc A a s H E h=>⟨_,(ao (aN (cg (iu (Tn:="tuple") (by decide) rfl T.b_isinstance rfl T.b_tuple (by kernel_rfl) (aa 0)) (eE (fW (mm h.units) (aU cM rfl T.b_len (by kernel_rfl) (ae (aa 0) ah)) (aa 1) nbh))))),λi M R _ g bk=>?_⟩);obtain⟨l,n,rfl,e,k⟩:=g;refine bk ?_;clear bk;walk_at"";refine⟨true,rfl,?_⟩;rw[if_pos rfl,e,beq_self_eq_true];exact k
def mU:SpD:=λa M R=>∃i,a=[.int i]/\R (.bl true) M
theorem sy(F:Fun K "is_whole" "is_whole" iX f Y)(T:Txt K I):aV P w K I base CX0 1 f Y ["thing"] (spD K 1 mU):=by
 have h:=kS.nd;refine F.okR rfl kS (λc A a s H E j=>⟨_,(ao (aN (cg (iu (Tn:="int") (by decide) rfl T.b_isinstance rfl T.b_int (by kernel_rfl) (aa 0)) (eE (J3 (iu (Tn:="bool") (by decide) rfl T.b_isinstance rfl T.b_bool (by kernel_rfl) (aa 0))))))),λg M R _ e bk=>?_⟩);obtain⟨i,rfl,k⟩:=e;refine bk ?_;clear bk;walk_at"";exact⟨true,rfl,by simp only[if_true];exact⟨false,rfl,k⟩⟩
def gD:SpD:=cb
theorem uD(F:Fun K "is_mark" "is_mark" jx f Y)(T:Txt K I)(h:FnD P w K I base "is_short_word" 1 1 cb):aV P w K I base CX0 2 f Y ["thing"] (spD K 1 gD):=by
 have l:=mT.nd;refine F.okR rfl mT (λc A a s H E i=>⟨_,(ao (aN (qd h i (ae (aa 0) ah)))),λj M R _ e bk=>?_⟩);obtain⟨x,rfl,g,k⟩:=e;refine bk ?_;clear bk;walk_at"";exact⟨x,rfl,g,k⟩
def oA:SpD:=λa M R=>∃i:Int,a=[.int i]/\-99<=i/\i<=99/\R (.bl true) M
theorem u0(F:Fun K "is_turn" "is_turn" jL f Y)(T:Txt K I)(a:FnD P w K I base "is_whole" 1 1 mU):aV P w K I base CX0 2 f Y ["thing"] (spD K 1 oA):=by
 have n:=mv.nd;refine F.okR rfl mv (λe A c s H E h=>⟨_,(ao (aN (cg (qd a h (ae (aa 0) ah)) (eE (oY rV rV (G0 Ij (gf rfl T.g_MOST_TURN)) (aa 0) (gf rfl T.g_MOST_TURN)))))),λj M R _ g bk=>?_⟩);obtain⟨i,rfl,l,m,k⟩:=g;refine bk ?_;clear bk;walk_at"";refine⟨i,rfl,?_⟩;walk_at"";rw[if_pos (by assumption),decide_eq_true (by assumption)];exact k
def Kd(s:Str×Int):Prop:=bF s.1/\-99<=s.2/\s.2<=99
def oe:SpD:=λa M R=>∃s:Str×Int,a=[aD s]/\Kd s/\R (.bl true) M
theorem ux(F:Fun K "is_sign" "is_sign" jv f Y)(T:Txt K I)(l:FnD P w K I base "is_tuple_of" 1 2 cI)(g:FnD P w K I base "is_mark" 2 1 gD)(c:FnD P w K I base "is_turn" 2 1 oA):aV P w K I base CX0 3 f Y ["thing"] (spD K 1 oe):=by
 have p:=lZ.nd;refine F.okR rfl lZ (λi A a s H E e=>⟨_,(ao (aN (cg (qd l e (ae (aa 0) (ae am ah))) (cg (qd g e (ae (aZ a7 (aa 0) am (λ_ _=>rfl)) ah)) (eE (qd c e (ae (aZ a7 (aa 0) am (λ_ _=>rfl)) ah))))))),λm M R _ j bk=>?_⟩);obtain⟨s,rfl,⟨h,n,o⟩,k⟩:=j;refine bk ?_;clear bk;simp only[aD];walk_at"";refine⟨_,_,rfl,rfl,?_⟩;walk_at"";refine⟨_,rfl,h,?_⟩;walk_at"";exact⟨_,rfl,by assumption,by assumption,k⟩
def JT(r:Row):Prop:=r.length<=5/\∀s∈r,Kd s
def lI:SpD:=λa M R=>∃r,a=[au r]/\JT r/\R (.bl true) M
theorem xC(F:Fun K "is_row" "is_row" iU f Y)(T:Txt K I)(e:FnD P w K I base "is_sign" 3 1 oe):aV P w K I base CX0 4 f Y ["thing"] (spD K 1 lI):=by
 have p:=nX.nd;refine F.okR rfl nX (λh A a s H E m=>⟨_,(ao (aN (cg (iu (Tn:="tuple") (by decide) rfl T.b_isinstance rfl T.b_tuple (by kernel_rfl) (aa 0)) (eE (aU (sV rfl) rfl T.b_all (by kernel_rfl) (ae (eR (ms:=[false]) (ar:=["sign"]) (aE (n0:=0) rfl (show aS (aj iU) lh _ _=true from by decide +kernel)) rfl (aM (aa 0)) (aC (i:=1) (show(lh++_).Nodup from by decide +kernel) rfl rfl) (λ_ _ _ _=>bh) (λ_ _ _ _=>(qd e m (ae (aa 1) ah)))) ah)))))),λn M R _ j bk=>?_⟩);obtain⟨r,rfl,g,k⟩:=j;refine bk ?_;clear bk;simp only[au];walk_at"";refine⟨true,rfl,?_⟩;walk_at"";refine λl=>⟨l,o4 (enc:=aD) (Δ0:=[none]) (λ_=>.bl true) rfl (λs c y o q=>?_) ⟨_,hJ _,k⟩⟩;walk_at"";exact⟨s,rfl,g.2 s c,q⟩
def n4:SpD:=lI
theorem vt(F:Fun K "is_kind" "is_kind" jz f Y)(T:Txt K I)(e:FnD P w K I base "is_row" 4 1 lI):aV P w K I base CX0 5 f Y ["thing"] (spD K 1 n4):=by
 have j:=mI.nd;refine F.okR rfl mI (λg A c s H E a=>⟨_,(ao (aN (cg (qd e a (ae (aa 0) ah)) (eE (fW rV (aU cM rfl T.b_len (by kernel_rfl) (ae (aa 0) ah)) (gf rfl T.g_MOST_SIGNS) nbh))))),λi M R _ h bk=>?_⟩);obtain⟨r,rfl,a,k⟩:=h;refine bk ?_;clear bk;walk_at"";refine⟨r,rfl,a,?_⟩;simp only[au];walk_at"";rw[s0,decide_eq_true (by have:=a.1;lia)];exact k
def ot:SpD:=λa M R=>∃p:Str×Str,a=[aJ p]/\(bF p.1/\bF p.2)/\R (.bl true) M
theorem vo(F:Fun K "is_pair" "is_pair" jG f Y)(T:Txt K I)(j:FnD P w K I base "is_tuple_of" 1 2 cI)(e:FnD P w K I base "is_mark" 2 1 gD):aV P w K I base CX0 3 f Y ["thing"] (spD K 1 ot):=by
 have n:=mf.nd;refine F.okR rfl mf (λh A a s H E c=>⟨_,(ao (aN (cg (qd j c (ae (aa 0) (ae am ah))) (cg (qd e c (ae (aZ a7 (aa 0) am (λ_ _=>rfl)) ah)) (eE (qd e c (ae (aZ a7 (aa 0) am (λ_ _=>rfl)) ah))))))),λm M R _ i bk=>?_⟩);obtain⟨p,rfl,⟨g,l⟩,k⟩:=i;refine bk ?_;clear bk;simp only[aJ];walk_at"";refine⟨_,_,rfl,rfl,?_⟩;walk_at"";refine⟨_,rfl,g,?_⟩;walk_at"";exact⟨_,rfl,l,k⟩
def Gy(ord:List (Str×Str)):Prop:=ord.length<=8/\∀p∈ord,bF p.1/\bF p.2
def mP:SpD:=λa M R=>∃ord:List (Str×Str),a=[.tup (ord.map aJ)]/\Gy ord/\R (.bl true) M
theorem so(F:Fun K "is_order" "is_order" fj f Y)(T:Txt K I)(c:FnD P w K I base "is_pair" 3 1 ot):aV P w K I base CX0 4 f Y ["thing"] (spD K 1 mP):=by
 have x:=kC.nd;refine F.okR rfl kC (λg A a s H E m=>⟨_,(ao (aN (cg (iu (Tn:="tuple") (by decide) rfl T.b_isinstance rfl T.b_tuple (by kernel_rfl) (aa 0)) (cg (fW rV (aU cM rfl T.b_len (by kernel_rfl) (ae (aa 0) ah)) (gf rfl T.g_MOST_PAIRS) nbh) (eE (aU (sV rfl) rfl T.b_all (by kernel_rfl) (ae (eR (ms:=[false]) (ar:=["pair"]) (aE (n0:=0) rfl (show aS (aj fj) iF _ _=true from by decide +kernel)) rfl (aM (aa 0)) (aC (i:=1) (show(iF++_).Nodup from by decide +kernel) rfl rfl) (λ_ _ _ _=>bh) (λ_ _ _ _=>(qd c m (ae (aa 1) ah)))) ah))))))),λn M R _ h bk=>?_⟩);obtain⟨ord,rfl,e,k⟩:=h;have o:=e.1;refine bk ?_;clear bk;walk_at"";refine⟨true,rfl,?_⟩;walk_at"";rw[s0,if_pos (by lia)];refine λj=>⟨j,o4 (enc:=aJ) (Δ0:=[none]) (λ_=>.bl true) rfl (λp l y u q=>?_) ⟨_,hJ _,k⟩⟩;walk_at"";exact⟨p,rfl,e.2 p l,q⟩
theorem AG{e:Type}:∀{xs:List e},xs.Nodup->kq xs=xs:=by
 intro xs g;have c:∀(xs a:List e),(a++xs).Nodup->xs.foldl lQ a=a++xs:=by
  intro xs
  induction xs with
  |nil=>intro a _;simp
  |cons x xs ih =>
   intro a h;have f:x∉a:=λz=>by
    rw[ac7]at h;exact h.2.2 x z x (.head _) rfl
   rw[aa6,show lQ a x=a++[x]from if_neg f,ih _ (by simpa using h)];simp
 have:=c xs [] (by simpa using g);simpa[kq]using this
theorem xM:∀{xs:List Str},xs.Nodup->dg xs=xs:=by
 intro xs f;have c:∀(xs a:List Str),(a++xs).Nodup->xs.foldl ic a=a++xs:=by
  intro xs
  induction xs with
  |nil=>intro a _;simp
  |cons x xs ih =>
   intro a h;have e:x∉a:=λz=>by
    rw[ac7]at h;exact h.2.2 x z x (.head _) rfl
   rw[aa6,show ic a x=a++[x]from if_neg e,ih _ (by simpa using h)];simp
 have:=c xs [] (by simpa using f);simpa[dg]using this
def Ip(ks:List Row):Prop:=(1<=ks.length/\ks.length<=4)/\ks.Nodup/\∀r∈ks,JT r
def KS(es:List (Str×List Row)):Prop:=1<=es.length/\es.length<=10/\(es.map (·.1)).Nodup/\∀e∈es,bF e.1/\Ip e.2
def gh:SpD:=λe M R=>(∃c:List Row,e=[bq c]/\c.Nodup/\c.length<=4/\R (.bl true) M)∨∃a:List Str,e=[.lst (a.map .str)]/\a.Nodup/\a.length<=10/\R (.bl true) M
theorem oS(F:Fun K "are_unlike" "are_unlike" fS f Y)(T:Txt K I):aV P w K I base CX0 1 f Y ["things"] (spD K 1 gh):=by
 have n:=jf.nd;refine F.okR rfl jf (λg A a s H E e=>⟨_,(ao (aN (fW (mm e.units) (Mg rfl e.units rfl T.b_len rfl T.b_set (aa 0)) (aU cM rfl T.b_len (by kernel_rfl) (ae (aa 0) ah)) nbh))),λm M R _ h bk=>?_⟩);refine bk ?_;clear bk;rcases h with⟨i,rfl,c,j,k⟩|⟨ws,rfl,c,j,k⟩
 ·simp only[bq];walk_at"";refine .inl ⟨i.map kR,(Eo _).symm,λk l=>?_,by rw[s0];lia,?_⟩
  ·obtain⟨r,_,rfl⟩:=P4.mp l;exact Lk _
  ·rw[AG (C8 c)];rw[s0,s0,beq_self_eq_true];exact k
 ·walk_at"";refine .inr ⟨ws,rfl,by lia,?_⟩;rw[xM c];rw[s0,beq_self_eq_true];exact k
def kH:SpD:=λc M R=>∃a:List Row,c=[bq a]/\Ip a/\R (.bl true) M
theorem qL(F:Fun K "are_kinds" "are_kinds" dY f Y)(T:Txt K I)(m:FnD P w K I base "are_unlike" 1 1 gh)(e:FnD P w K I base "is_kind" 5 1 n4):aV P w K I base CX0 6 f Y ["thing"] (spD K 1 kH):=by
 have x:=jY.nd;refine F.okR rfl jY (λh A c s H E a=>⟨_,(ao (aN (cg (iu (Tn:="tuple") (by decide) rfl T.b_isinstance rfl T.b_tuple (by kernel_rfl) (aa 0)) (cg (oY rV rV am (aU cM rfl T.b_len (by kernel_rfl) (ae (aa 0) ah)) (gf rfl T.g_MOST_KINDS)) (cg (aU (sV rfl) rfl T.b_all (by kernel_rfl) (ae (eR (ms:=[false]) (ar:=["kind"]) (aE (n0:=0) rfl (show aS (aj dY) gP _ _=true from by decide +kernel)) rfl (aM (aa 0)) (aC (i:=1) (show(gP++_).Nodup from by decide +kernel) rfl rfl) (λ_ _ _ _=>bh) (λ_ _ _ _=>(qd e a (ae (aa 1) ah)))) ah)) (eE (qd m a (ae (aa 0) ah)))))))),λo M R _ j bk=>?_⟩);obtain⟨l,rfl,g,k⟩:=j;have p:=g.1;refine bk ?_;clear bk;simp only[bq];walk_at"";refine⟨true,rfl,?_⟩;rw[if_pos rfl,s0,if_pos (by lia),if_pos (by lia)];refine λn=>⟨n,o4 (enc:=au) (Δ0:=[none]) (λ_=>.bl true) rfl (λr a y u q=>?_) ⟨_,hJ _,_,rfl,?_⟩⟩
 ·walk_at"";exact⟨r,rfl,g.2.2 r a,q⟩
 ·rw[if_pos rfl];exact .inl ⟨l,rfl,g.2.1,by lia,k⟩
def mx:SpD:=λa M R=>∃e:Str×List Row,a=[bI e]/\(bF e.1/\Ip e.2)/\R (.bl true) M
theorem su(F:Fun K "is_entry" "is_entry" iA f Y)(T:Txt K I)(n:FnD P w K I base "is_tuple_of" 1 2 cI)(m:FnD P w K I base "is_short_word" 1 1 cb)(a:FnD P w K I base "are_kinds" 6 1 kH):aV P w K I base CX0 7 f Y ["thing"] (spD K 1 mx):=by
 have p:=kO.nd;refine F.okR rfl kO (λh A c s H E g=>⟨_,(ao (aN (cg (qd n g (ae (aa 0) (ae am ah))) (cg (qd m g (ae (aZ a7 (aa 0) am (λ_ _=>rfl)) ah)) (eE (qd a g (ae (aZ a7 (aa 0) am (λ_ _=>rfl)) ah))))))),λo M R _ l bk=>?_⟩);obtain⟨e,rfl,⟨j,i⟩,k⟩:=l;refine bk ?_;clear bk;simp only[bI];walk_at"";refine⟨_,_,rfl,rfl,?_⟩;walk_at"";refine⟨_,rfl,j,?_⟩;walk_at"";exact⟨_,rfl,i,k⟩
def ja:SpD:=λc M R=>∃a:List (Str×List Row),c=[.tup (a.map bI)]/\KS a/\R (.bl true) M
theorem nc(F:Fun K "are_entries" "are_entries" cH f Y)(T:Txt K I)(B:FnD P w K I base "are_unlike" 1 1 gh)(j:FnD P w K I base "is_entry" 7 1 mx):aV P w K I base CX0 8 f Y ["thing"] (spD K 1 ja):=by
 have Q:=ie.nd;refine F.okR rfl ie (λu A h s H E p=>⟨_,(ao (aN (cg (iu (Tn:="tuple") (by decide) rfl T.b_isinstance rfl T.b_tuple (by kernel_rfl) (aa 0)) (cg (oY rV rV am (aU cM rfl T.b_len (by kernel_rfl) (ae (aa 0) ah)) (gf rfl T.g_MOST_ENTRIES)) (cg (aU (sV rfl) rfl T.b_all (by kernel_rfl) (ae (eR (ms:=[false]) (ar:=["entry"]) (aE (n0:=0) rfl (show aS (aj cH) bY _ _=true from by decide +kernel)) rfl (aM (aa 0)) (aC (i:=1) (show(bY++_).Nodup from by decide +kernel) rfl rfl) (λ_ _ _ _=>bh) (λ_ _ _ _=>(qd j p (ae (aa 1) ah)))) ah)) (eE (qd B p (ae (eR (ms:=[false]) (ar:=["word","kinds"]) (aE (n0:=0) rfl (show aS (aj cH) bY _ _=true from by decide +kernel)) rfl (aM (aa 0)) (gS (n:=2) rfl (bC (aC (i:=1) (show(bY++_).Nodup from by decide +kernel) rfl rfl) (bC (aC (i:=2) (show(bY++_).Nodup from by decide +kernel) rfl rfl) gR))) (λ_ _ _ _=>bh) (λ_ _ _ _=>(aa 1))) ah)))))))),λL M R _ z bk=>?_⟩);obtain⟨m,rfl,a,k⟩:=z;have N:=a.1;have O:=a.2.1;refine bk ?_;clear bk;walk_at"";refine⟨true,rfl,?_⟩;rw[if_pos rfl,s0,if_pos (by lia),if_pos (by lia)];refine λG=>⟨G,o4 (enc:=bI) (Δ0:=[none]) (λ_=>.bl true) rfl (λe l y C q=>?_) ⟨_,hJ _,_,rfl,?_⟩⟩
 ·walk_at"";exact⟨e,rfl,a.2.2.2 e l,q⟩
 ·rw[if_pos rfl];refine λc=>⟨c,aY bI (λ_=>true) (λe=>D.str e.1) (λo=>∃x y,o=[none,x,y]) m _ _ (λe l o g=>?_) ⟨none,none,rfl⟩ ?_⟩
  ·obtain⟨x,y,rfl⟩:=g;refine⟨_,rfl,⟨_,_,rfl⟩,λJ q=>q,λ_ C q=>?_⟩;walk_at"";exact q
  ·rw[P1,U0.mpr (λ_ _=>rfl)];exact .inr ⟨m.map (·.1),by rw[P9];rfl,a.2.2.1,by rw[s0];assumption,k⟩
structure E4(ord:List (Str×Str)) (ai:Str) (es:List (Str×List Row)):Prop where
 o:Gy ord
 g:bF ai
 e:KS es
def jr:SpD:=λe M R=>∃ord c a,e=[bJ ord c a]/\E4 ord c a/\R (.bl true) M
theorem oH(F:Fun K "is_lexicon" "is_lexicon" gj f Y)(T:Txt K I)(m:FnD P w K I base "is_tuple_of" 1 2 cI)(g:FnD P w K I base "is_order" 4 1 mP)(i:FnD P w K I base "is_mark" 2 1 gD)(c:FnD P w K I base "are_entries" 8 1 ja):aV P w K I base CX0 9 f Y ["thing"] (spD K 1 jr):=by
 have q:=jj.nd;refine F.okR rfl jj (λj A e s H E a=>⟨_,(ao (aN (cg (qd m a (ae (aa 0) (ae am ah))) (cg (qd g a (ae (aZ a7 (aa 0) am (λ_ _=>rfl)) ah)) (cg (qd i a (ae (aZ a7 (aa 0) am (λ_ _=>rfl)) ah)) (eE (qd c a (ae (aZ a7 (aa 0) am (λ_ _=>rfl)) ah)))))))),λn M R _ l bk=>?_⟩);obtain⟨ord,o,p,rfl,h,k⟩:=l;refine bk ?_;clear bk;simp only[bJ];walk_at"";refine⟨_,_,rfl,rfl,?_⟩;walk_at"";refine⟨_,rfl,h.o,?_⟩;walk_at"";refine⟨_,rfl,h.g,?_⟩;walk_at"";exact⟨_,rfl,h.e,k⟩
def hV:SpD:=λf M R=>∃(ord:List (Str×Str)) (c:Str) (e a:List (Str×List Row)),f=[bJ ord c e,.tup (a.map bI)]/\E4 ord c a/\R (bJ ord c a) M
theorem lO(F:Fun K "lexicon_with" "lexicon_with" dU f Y)(T:Txt K I)(c:FnD P w K I base "is_lexicon" 9 1 jr):aV P w K I base CX0 10 f Y ["lexicon","entries"] (spD K 2 hV):=by
 have m:=gE.nd;refine F.okR rfl gE (λe A a s H E n=>⟨_,(ak (aK (i:=2) m rfl (R8 rfl) (bt (ae (aZ a7 (aa 0) am (λ_ _=>rfl)) (ae (aZ a7 (aa 0) am (λ_ _=>rfl)) (ae (cB fB rfl T.b_tuple (by kernel_rfl) (ae (aa 1) ah)) ah)))))
   (ak (cV (qq (dP (qd c n (ae (aa 2) ah)))) (ao zo) bW)
   (ao (aN (aa 2))))),λo M R _ j bk=>?_⟩)
 obtain⟨ord,l,p,g,rfl,h,k⟩:=j;refine bk ?_;clear bk;simp only[bJ];walk_at"";refine⟨sz3 3,ord,l,g,rfl,h,_,rfl,?_⟩;rw[if_neg (by simp)];exact k
noncomputable def bA(ag:List (Str×List Row))(w:Str)(ks:List Row):List (Str×List Row):=if w∈ag.map (·.1)then ag.map (λe=>if e.1=w then(w,ks)else e)else ag++[(w,ks)]
theorem Fe{w:Str}{ks:List Row}{ag:List (Str×List Row)}(hn:(ag.map (·.1)).Nodup){j:Nat}{e:Str×List Row}(he:ag[j]?=some e)(c:e.1=w):ag.take j++(w,ks)::ag.drop (j+1)=bA ag w ks:=by
 have n:=(N4.mp he).1;have i:w∈ag.map (·.1):=by rw[<-c];exact al4 (P3 he)
 unfold bA;rw[if_pos i];have h:ag=ag.take j++e::ag.drop (j+1):=by
  have:=N4.mp he;rw[<-this.2,List.getElem_cons_drop,ac8]
 have a:=hn;rw[h,P7,N5,ac7,Z1]at a;have l:(ag.take j).map (λe=>if e.1=w then(w,ks)else e)=ag.take j:=by
  rw[R5 (g:=id) λx f=>?_,List.map_id];exact if_neg λz=>a.2.2 x.1 (al4 f) e.1 (.head _) (z.trans c.symm)
 have m:(ag.drop (j+1)).map (λe=>if e.1=w then(w,ks)else e)=ag.drop (j+1):=by
  rw[R5 (g:=id) λx f=>?_,List.map_id];exact if_neg λz=>a.2.1.1 (by rw[c,<-z];exact al4 f)
 conv=>rhs;rw[h]
 rw[P7,N5,l,m,if_pos c]
theorem LB{w:Str}:∀{ag:List (Str×List Row)},ag.length<2 ^ 62->w∈ag.map (·.1)->∃j e,ui (ag.map λe=>D.str e.1) (.str w)=some j/\ag[j]?=some e/\e.1=w:=by
 intro ag n c;have m:cT (ag.map λe=>D.str e.1) 59=true:=eC _ λ_=>rfl;have i:dLe (.str w) 59=true:=rfl;unfold ui;rw[if_pos ⟨i,m,by rw[s0];exact n⟩];clear m i n
 induction ag with
 |nil=>cases c
 |cons e l ih =>
  obtain⟨a,u⟩:=e;rw[N5,List.findIdx?_cons]
  by_cases h:a=w
  ·subst h;exact⟨0,_,by simp[eqD],rfl,rfl⟩
  ·have f:eqD (.str a) (.str w)=false:=by simp[eqD,h]
   have g:w∈l.map (·.1):=by
    rw[N5]at c;rcases O9.mp c with q|q
    ·exact absurd q.symm h
    ·exact q
   obtain⟨j,e,s,p,o⟩:=ih g;refine⟨j+1,e,?_,by rw[ab4];exact p,o⟩;simp only[f,N9,if_false];rw[s];rfl
theorem t8{ag:List (Str×List Row)}{i:Nat}:L2.cZ (ag.map bI) none (some (i:Int))=(ag.take i).map bI:=by rw[yK,at6]
theorem vw{ag:List (Str×List Row)}{i:Nat}:L2.cZ (ag.map bI) (some ((i:Int)+1)) none=(ag.drop (i+1)).map bI:=by
 rw[show(i:Int)+1=((i+1:Nat):Int)by lia,pE,aw6]
def pP:SpD:=λf M R=>∃(ord:List (Str×Str)) (c:Str) (a:List (Str×List Row)) (w:Str) (e:List Row),f=[bJ ord c a,.str w,bq e]/\a.length<=8/\(a.map (·.1)).Nodup/\bF w/\E4 ord c (bA a w e)/\R (bJ ord c (bA a w e)) M
theorem wg(F:Fun K "put_in" "put_in" lC f Y)(T:Txt K I)(m:FnD P w K I base "lexicon_with" 10 2 hV)(u:FnD P w K I base "has_word" 2 2 iI)(O:FnD P w K I base "words_of" 1 1 fo):aV P w K I base CX0 11 f Y ["lexicon","word","kinds"] (spD K 3 pP):=by
 have B:=n6.nd;refine F.okR rfl n6 (λJ A o s H E g=>⟨_,(ak (aK (i:=3) B rfl (R8 rfl) (bt (ae (aa 1) (ae (aa 2) ah))))
   (ak (aK (i:=4) B rfl (R8 rfl) (aZ a7 (aa 0) am (λ_ _=>rfl)))
   (ak (aK (i:=5) B rfl (R8 rfl) (Kw (dP (qd u g (ae (aa 0) (ae (aa 1) ah)))) (Cs g.units (qd O g (ae (aa 0) ah)) (aa 1)) (aU cM rfl T.b_len (by kernel_rfl) (ae (aa 4) ah))))
   (ao (aN (qd m g (ae (aa 0) (ae (aW aP (aW aP (eI (aa 4) iH (fm (aa 5))) (bt (ae (aa 3) ah))) (eI (aa 4) (fm (aW aP (aa 5) am)) iH)) ah)))))))),λX M R _ N bk=>?_⟩)
 obtain⟨ord,l,a,w,c,rfl,q,S,L,h,k⟩:=N;refine bk ?_;clear bk;simp only[bJ];walk_at"";refine⟨sz3 2,ord,l,a,w,rfl,q,L,_,rfl,fw (λn=>?_) (λn=>?_)⟩
 ·obtain⟨j,e,U,C,G⟩:=LB (am5 q (by decide)) (of_decide_eq_true n);have Z:=(N4.mp C).1;refine⟨ord,l,a,rfl,q,⟨_,rfl⟩,_,rfl,j,U,sz3 1,_,if_pos (by rw[t8];exact sz3 _ (by simp;lia)),_,(if_pos (by rw[t8,vw];exact sz3 _ (by simp;lia)):gM (D.tup (L2.cZ (a.map bI) none (some (j:Int))++[D.tup [D.str w,bq c]])) (D.tup (L2.cZ (a.map bI) (some ((j:Int)+1)) none))=_),?_⟩;rw[t8,vw];have p:(a.take j).map bI++[D.tup [D.str w,bq c]]++(a.drop (j+1)).map bI=(bA a w c).map bI:=by rw[<-Fe S C G];simp[bI]
  rw[p];exact⟨ord,l,a,_,rfl,h,k⟩
 ·have x:w∉a.map (·.1):=λz=>n (decide_eq_true z);have Q:bA a w c=a++[(w,c)]:=if_neg x;rw[s0];refine⟨sz3 1,_,if_pos (by rw[t8];exact sz3 _ (by simp;exact N3 (by assumption) (by decide))),_,(if_pos (by rw[t8,vw];exact sz3 _ (by simp;exact N3 (by assumption) (by decide))):gM (D.tup (L2.cZ (a.map bI) none (some (a.length:Int))++[D.tup [D.str w,bq c]])) (D.tup (L2.cZ (a.map bI) (some ((a.length:Int)+1)) none))=_),?_⟩;rw[t8,vw];have p:(a.take a.length).map bI++[D.tup [D.str w,bq c]]++(a.drop (a.length+1)).map bI=(bA a w c).map bI:=by rw[Q,S6,Z8 (by lia)];simp[bI]
  rw[p];exact⟨ord,l,a,_,rfl,h,k⟩
noncomputable def inO(ord:List (Str×Str)):List Str:=ord.flatMap λp=>[p.1,p.2]
noncomputable def inK(ag:List (Str×List Row)):List Str:=ag.flatMap λe=>e.2.flatMap λr=>r.map (·.1)
def mks(ord:List (Str×Str))(ai:Str)(ag:List (Str×List Row)):List Str:=aT (dg (inO ord++[ai]++inK ag))
theorem pq{ord:List (Str×Str)}:(inO ord).length<=ord.length*2:=g6 λx _=>N2 _
theorem px{ag:List (Str×List Row)}(h:jR ag 2 3):(inK ag).length<=ag.length*6:=g6 λe a=>N3 (g6 (m:=3) λr c=>by rw[s0];exact(h e a).2 r c) (ag1 3 (h e a).1)
def mn:SpD:=λe M R=>∃(ord:List (Str×Str)) (c:Str) (a:List (Str×List Row)),e=[bJ ord c a]/\ord.length<=2/\a.length<=3/\jR a 2 3/\R (.lst ((mks ord c a).map .str)) M
theorem rX(F:Fun K "marks_of" "marks_of" dv f Y)(T:Txt K I):aV P w K I base CX0 1 f Y ["lexicon"] (spD K 1 mn):=by
 have o:=kG.nd;refine F.okR rfl kG (λS A B s H E hr=>⟨_,(ak (zr (aa 0) (kQ rfl (bG (aI (i:=1) o rfl (R8 rfl)) (bG (aI (i:=2) o rfl (R8 rfl)) (bG (aI (i:=3) o rfl (R8 rfl)) kE)))))
   (ak (pW (i:=4) o rfl rfl rfl (ms:=[false,false,false,false,false,false]) (ar:=["pair","mark"]) (aE (n0:=0) rfl (show aS (aj dv) bw _ _=true from by decide +kernel)) rfl (aM (aa 1)) (aC (i:=6) (show(bw++_).Nodup from by decide +kernel) rfl rfl) (λ_ _ _ _=>bh) (λ_ _ _ _=>(aM (aa 6))) (aC (i:=7) (show(bw++_).Nodup from by decide +kernel) rfl rfl) (λ_ _ _ _=>bh) (λ_ _ _ _=>(aa 7)))
   (ak (B6 (i:=5) o rfl rfl rfl (ms:=[false,false,false,false,false,false]) (ar:=["word","kinds","kind","mark","turn"]) (aE (n0:=0) rfl (show aS (aj dv) bw _ _=true from by decide +kernel)) rfl (aM (aa 3)) (gS (n:=2) rfl (bC (aC (i:=6) (show(bw++_).Nodup from by decide +kernel) rfl rfl) (bC (aC (i:=7) (show(bw++_).Nodup from by decide +kernel) rfl rfl) gR))) (λ_ _ _ _=>bh) (λ_ _ _ _=>(aM (aa 7))) (aC (i:=8) (show(bw++_).Nodup from by decide +kernel) rfl rfl) (λ_ _ _ _=>bh) (λ_ _ _ _=>(aM (aa 8))) (gS (n:=2) rfl (bC (aC (i:=9) (show(bw++_).Nodup from by decide +kernel) rfl rfl) (bC (aC (i:=10) (show(bw++_).Nodup from by decide +kernel) rfl rfl) gR))) (λ_ _ _ _=>bh) (λ_ _ _ _=>(aa 9)))
   (ao (aN (Jf rfl rfl T.b_sorted rfl T.b_set (aW aP (aW aP (aa 4) (cU (ae (aa 2) ah))) (aa 5)))))))),λds M R _ Z bk=>?_⟩)
 obtain⟨ord,ai,q,rfl,ho,hl,he,k⟩:=Z;refine bk ?_;clear bk;have X:=pq (ord:=ord);have a0:=px he;have N:(ord.flatMap λp=>[D.str p.1,D.str p.2])=(inO ord).map D.str:=by unfold inO;rw[ah9];rfl
 have O:(q.flatMap λe=>e.2.flatMap λr=>r.map λs=>D.str s.1)=(inK q).map D.str:=by
  unfold inK;simp only[ah9,P9];rfl
 simp only[bJ];walk_at"";refine⟨_,rfl,_,rfl,_,rfl,λ_=>?_⟩;refine bQ aJ (λp=>[D.str p.1,D.str p.2]) (λg=>∃a b,g=[none,none,none,none,none,none,a,b]) ord _ _ _ ?_ ⟨_,_,rfl⟩ ?_ ?_
 ·rintro⟨x,y⟩ hp g ⟨a,b,rfl⟩;refine⟨_,rfl,λC Q2 J G=>?_⟩;simp only[fI,gK,bN];refine⟨_,rfl,_,rfl,λ_=>?_⟩;refine bQ D.str (λx=>[D.str x]) (λg=>∃b,g=[none,none,none,none,none,none,some (aJ (x,y)),b]) [x,y] _ _ _ ?_ ⟨_,rfl⟩ J (by rintro h ⟨b,rfl⟩;exact G _ ⟨_,_,rfl⟩);rintro z Q g ⟨b,rfl⟩;refine⟨_,rfl,λm Q3 l u=>?_⟩;simp only[jS,bN];exact⟨_,rfl,u _ ⟨_,rfl⟩⟩
 ·rw[N,s0];exact sz3 _ (by simp;lia)
 rintro h -
 rw[N,P1];refine⟨_,rfl,_,rfl,λ_=>?_⟩;refine bQ bI (λe=>e.2.flatMap λr=>r.map λs=>D.str s.1) (λg=>∃a b c d e,g=[none,none,none,none,none,none,a,b,c,d,e]) q _ _ _ ?_ ⟨_,_,_,_,_,rfl⟩ ?_ ?_
 ·rintro e a1 g ⟨a,b,c,d,j,rfl⟩;refine⟨_,rfl,λC Q2 J G=>?_⟩;simp only[fI,gK,bN];refine⟨_,rfl,_,rfl,λ_=>?_⟩;refine bQ au (λr=>r.map λs=>D.str s.1) (λg=>∃c d j,g=[none,none,none,none,none,none,some (.str e.1),some (bq e.2),c,d,j]) e.2 _ _ _ ?_ ⟨_,_,_,rfl⟩ J (by rintro h ⟨c,d,j,rfl⟩;exact G _ ⟨_,_,_,_,_,rfl⟩);rintro r hr g ⟨c,d,j,rfl⟩;refine⟨_,rfl,λm Q3 l u=>?_⟩;simp only[fI,gK,bN];refine⟨_,rfl,_,rfl,λ_=>?_⟩;refine bQ aD (λs=>[D.str s.1]) (λg=>∃d j,g=[none,none,none,none,none,none,some (.str e.1),some (bq e.2),some (au r),d,j]) r _ _ _ ?_ ⟨_,_,rfl⟩ (by rw[h7];exact l) (by rintro h ⟨d,j,rfl⟩;rw[h7];exact u _ ⟨_,_,_,rfl⟩);rintro s hs g ⟨d,j,rfl⟩;refine⟨_,rfl,λL Q4 a2 U=>?_⟩;simp only[jS,bN];exact⟨_,rfl,U _ ⟨_,_,rfl⟩⟩
 ·rw[O,s0];exact sz3 _ (by simp;lia)
 rintro h -
 rw[O,P1];refine⟨_,rfl,_,rfl,sz3 1,_,if_pos (sz3 _ (by simp;lia)),_,rfl,_,if_pos (sz3 _ (by simp;lia)),inO ord++[ai]++inK q,?_,by simp;lia,k⟩;simp[rdM]
def kT:SpD:=λc M R=>∃a b:Str,c=[.str a,.str b]/\R (.bl (a==b)) M
theorem qz(F:Fun K "are_alike" "are_alike" gQ f Y)(T:Txt K I):aV P w K I base CX0 1 f Y ["one","other"] (spD K 2 kT):=by
 have j:=jT.nd;refine F.okR rfl jT (λe A c s H E h=>⟨_,(ak (cV (yI (zE (dP (iu (Tn:="str") (by decide) rfl T.b_isinstance rfl T.b_str (by kernel_rfl) (aa 0))) (u5 (dP (iu (Tn:="str") (by decide) rfl T.b_isinstance rfl T.b_str (by kernel_rfl) (aa 1)))))) (ao (aN (cg (iu (Tn:="str") (by decide) rfl T.b_isinstance rfl T.b_str (by kernel_rfl) (aa 0)) (cg (iu (Tn:="str") (by decide) rfl T.b_isinstance rfl T.b_str (by kernel_rfl) (aa 1)) (eE (fW (mm h.units) (aa 0) (aa 1) nbh)))))) bW)
   (ao (aN (fW pL (aa 0) (bt (ae (aa 1) ah)) rfl)))),λi M R _ g bk=>?_⟩)
 obtain⟨a,b,rfl,k⟩:=g;refine bk ?_;clear bk;walk_at"";refine⟨true,rfl,?_⟩;rw[if_pos rfl];refine⟨true,rfl,?_⟩;rw[if_pos rfl];refine⟨true,rfl,?_⟩;rw[if_pos rfl];exact k
def dD:SpD:=λe M R=>∃(ord:List (Str×Str)) (f:Str) (a:List (Str×List Row)) (c:List Str),e=[bJ ord f a,.lst (c.map .str)]/\a.length<=8/\(∀w∈c,w∈a.map (·.1)/\bF w)/\R .non M
theorem ia(F:Fun K "refuse_other_words" "refuse_other_words" cw f Y)(T:Txt K I)(e:FnD P w K I base "kinds_of" 3 2 iS):aV P w K I base CX0 4 f Y ["lexicon","words"] (spD K 2 dD):=by
 have C:=di.nd;refine F.okR rfl di (λn A c s H E G=>⟨_,(ao (bH Q5 rfl (aM (aa 1)) (aI (i:=2) C rfl (R8 rfl)) (ao (gb (qd e G (ae (aa 0) (ae (aa 2) ah))))))),λJ M R _ u bk=>?_⟩);obtain⟨ord,l,j,m,rfl,z,o,k⟩:=u;refine bk ?_;clear bk;walk_at"";intro L;refine aG (λi g a=>∃x,g=[some (bJ ord l j),some (D.lst (m.map D.str)),x]/\a=M) ⟨_,rfl,rfl⟩ ?_ ?_
 ·rintro i d g a X p ⟨x,rfl,rfl⟩ q;obtain⟨y,B,rfl⟩:=bU p;have h:=o y (P3 B);refine⟨_,rfl,?_⟩;walk_at"";exact⟨ord,l,j,y,rfl,z,h.1,h.2,q _ _ ⟨_,rfl,rfl⟩⟩
 ·rintro g a ⟨x,rfl,rfl⟩;walk_at"";exact k
def cq:SpD:=λe M R=>∃(ord:List (Str×Str)) (f:Str) (c:List (Str×List Row)) (w:Str) (a:List (List Str)),e=[bJ ord f c,.str w,.tup (a.map wsD)]/\c.length<=8/\(∀r∈a,∀x∈r,x=w∨(x∈c.map (·.1)/\bF x))/\R .non M
theorem dJ(F:Fun K "refuse_other_words_of_book" "refuse_other_words_of_book" bc f Y)(T:Txt K I)(Q:FnD P w K I base "refuse_other_words" 4 2 dD)(m:FnD P w K I base "are_alike" 1 2 kT):aV P w K I base CX0 5 f Y ["lexicon","word","book"] (spD K 3 cq):=by
 have Z:=ck.nd;refine F.okR rfl ck (λG A l s H E u=>⟨_,(ao (bH Q5 rfl (aM (aa 2)) (aI (i:=3) Z rfl (R8 rfl)) (ao (gb (qd Q u (ae (aa 0) (ae (eR (ms:=[false,true,false,false]) (ar:=["one"]) (aE rfl (show aS (aj bc) bv _ _=true from by decide +kernel)) rfl (aM (aa 3)) (aC (i:=4) (show(bv++_).Nodup from by decide +kernel) rfl rfl) (λ_ _ _ _=>(jN (qq (dP (qd m u (ae (aa 4) (ae (aa 1) ah))))))) (λ_ _ _ _=>(aa 4))) ah))))))),λds M R _ O bk=>?_⟩);obtain⟨ord,o,n,e,c,rfl,S,J,k⟩:=O;refine bk ?_;clear bk;walk_at"";intro hz;refine aG (λi a h=>∃x,a=[some (bJ ord o n),some (D.str e),some (D.tup (c.map wsD)),x]/\h=M) ⟨_,rfl,rfl⟩ ?_ ?_
 ·rintro i d a h X L ⟨x,rfl,rfl⟩ N;obtain⟨r,p,rfl⟩:=bU L;have B:=J r (P3 p);refine⟨_,rfl,?_⟩;walk_at"";refine⟨_,rfl,λg=>⟨g,?_⟩⟩;refine aY D.str (λx=>!(x==e)) D.str (λa=>∃x,a=[none,some (D.str e),none,none,x]) r _ _ (λy p a j=>?_) ⟨none,rfl⟩ ?_
  ·obtain⟨x,rfl⟩:=j;refine⟨_,rfl,⟨_,rfl⟩,λQ1 q=>?_,λ_ Q2 q=>?_⟩
   ·walk_at"";exact⟨y,e,rfl,_,rfl,q⟩
   ·walk_at"";exact q
  ·rw[P1];refine⟨ord,o,n,_,rfl,S,λx hx=>?_,N _ _ ⟨_,rfl,rfl⟩⟩;obtain⟨C,U⟩:=W4.mp hx;rcases B x C with z|z
   ·simp[z]at U
   ·exact z
 ·rintro a h ⟨x,rfl,rfl⟩;walk_at"";exact k
def xV(ord:List (Str×Str))(ai:Str)(ag:List (Str×List Row))(r:List Str):Nat:=((chR ag r).map λs=>W (rel ord) (s++[(ai,1)])).sum
theorem DX(n:Nat):decide ((0:Int)<(n:Int))=decide (0<n):=decide_eq_decide.mpr (by lia)
def jK(ord:List (Str×Str))(ai:Str)(ag:List (Str×List Row))(book:List (List Str)):Bool:=book.all λr=>decide (0<xV ord ai ag r)
def gJ:SpD:=λf M R=>∃(ord:List (Str×Str)) (e:Str) (c:List (Str×List Row)) (a:List (List Str)),f=[bJ ord e c,.tup (a.map wsD)]/\(∀r∈a,wz ord e c r ((xV ord e c r:Nat):Int))/\R (.bl (jK ord e c a)) M
theorem kZ(F:Fun K "are_sentences" "are_sentences" dF f Y)(T:Txt K I)(p:FnD P w K I base "is_sentence" 11 2 i8):aV P w K I base CX0 12 f Y ["lexicon","book"] (spD K 2 gJ):=by
 have Q:=fR.nd;refine F.okR rfl fR (λJ A o s H E l=>⟨_,(ak (bH Q5 rfl (aM (aa 1)) (aI (i:=2) Q rfl (R8 rfl)) (ao (cV (qq (dP (qd p l (ae (aa 0) (ae (aa 2) ah))))) (ao (aN Ax)) bW)))
   (ao (aN Ax))),λS M R _ O bk=>?_⟩)
 obtain⟨ord,j,g,a,rfl,h,k⟩:=O;refine bk ?_;clear bk;walk_at"";intro u;refine aG (λi q n=>∃x,q=[some (bJ ord j g),some (D.tup (a.map wsD)),x]/\n=M/\∀r∈a.take i,0<xV ord j g r) ⟨_,rfl,rfl,λr l=>by simp at l⟩ ?_ ?_
 ·rintro i d q n X N ⟨x,rfl,rfl,m⟩ L;obtain⟨r,G,rfl⟩:=bU N;have C:=P3 G;refine⟨_,rfl,?_⟩;walk_at"";refine⟨ord,j,g,r,_,rfl,h r C,_,rfl,?_⟩;rw[DX];refine fw (λc=>?_) (λc=>L _ _ ⟨_,rfl,rfl,λz u=>?_⟩)
  ·have e:jK ord j g a=false:=by
    unfold jK;rw[List.all_eq_false];exact⟨r,C,by simpa using c⟩
   rw[e]at k;exact k
  ·rw[S1,G]at u;rcases P0.mp u with B|B
   ·exact m z B
   ·have:z=r:=by simpa using B
    rw[this];exact Nat.pos_of_ne_zero (by simpa using c)
 ·rintro q n ⟨x,rfl,rfl,m⟩;walk_at"";rw[s0,S6]at m;have e:jK ord j g a=true:=by
   unfold jK;rw[Z3];exact λr l=>decide_eq_true (m r l)
  rw[e]at k;exact k
structure LQ(az:List Str) (ord:List (Str×Str)) (ai:Str) (ag:List (Str×List Row)):Prop where
 m:∀x∈az,bF x
 o:ord.length<=2
 om:∀x∈ord,x.1∈az/\x.2∈az
 g:ai∈az
 n:(ag.map (·.1)).Nodup
 w:∀x∈ag.map (·.1),bF x
 l:1<=ag.length/\ag.length<=3
 e:Ja az ag 2
theorem LQ.ok{c:List Str}{ord:List (Str×Str)}{ai:Str}{ag:List (Str×List Row)}(h:LQ c ord ai ag):jR ag 2 3:=λe a=>let q:=h.e e a;⟨q.2.1,λr f=>U7 (q.2.2.2 r f).1⟩
theorem LQ.lx{i:List Str}{ord:List (Str×Str)}{ai:Str}{ag:List (Str×List Row)}(h:LQ i ord ai ag):E4 ord ai ag :=
 ⟨⟨by have:=h.o;exact N3 (by assumption) (by decide),λp c=>⟨h.m _ (h.om p c).1,h.m _ (h.om p c).2⟩⟩,h.m _ h.g,h.l.1,by have:=h.l.2;exact N3 (by assumption) (by decide),h.n,λe a=>⟨h.w _ (al4 a),⟨(h.e e a).1,by have:=(h.e e a).2.1;exact N3 (by assumption) (by decide)⟩,(h.e e a).2.2.1,λr f=>⟨by have:=((h.e e a).2.2.2 r f).1;exact N3 (by assumption) (by decide),λs g=>by
  obtain⟨j,m,l⟩:=((h.e e a).2.2.2 r f).2 s g;exact⟨h.m _ j,by lia,by lia⟩⟩⟩⟩
theorem LQ.sen{e:List Str}{ord:List (Str×Str)}{ai:Str}{ag:List (Str×List Row)}(h:LQ e ord ai ag){r:List Str}(hr:r.length<=2)(a:∀x∈r,x∈ag.map (·.1)):wz ord ai ag r ((xV ord ai ag r:Nat):Int):=by
 have f:=h.o;have g:=h.l.2;exact Ie (K:=2) (B:=3) h.ok (by decide) (by decide) (by decide) (by lia) (by lia) (by exact N3 (by assumption) (by decide)) (by exact N3 (by assumption) (by decide)) λx c=>⟨a x c,h.w x (a x c)⟩
theorem lq{ag:List (Str×List Row)}{w:Str}{ks:List Row}:(bA ag w ks).map (·.1)=if w∈ag.map (·.1)then ag.map (·.1)else ag.map (·.1)++[w]:=by
 unfold bA
 split
 ·rw[P9];refine R5 λe _=>?_;simp only[Function.comp]
  split
  ·rename_i z;exact z.symm
  ·rfl
 ·rw[P7];rfl
theorem wJ{ag:List (Str×List Row)}{w:Str}{ks:List Row}{x:Str}:x∈(bA ag w ks).map (·.1)↔x=w∨x∈ag.map (·.1):=by
 rw[lq]
 split
 ·rename_i z;exact⟨.inr,λh=>h.elim (λe=>e▸z) id⟩
 ·rw[P0,N8];exact Or.comm
theorem LQ.with{c:List Str}{ord:List (Str×Str)}{ai:Str}{ag:List (Str×List Row)}(h:LQ c ord ai ag)(q:ag.length<=2){w:Str}(j:bF w){kind:Row}(n:kind.length<=2)(hs:SgM c 1 kind):LQ c ord ai (bA ag w [kind]):=by
 refine⟨h.m,h.o,h.om,h.g,?_,λx o=>?_,?_,λe f=>?_⟩
 ·rw[lq]
  split
  ·exact h.n
  ·rename_i z;rw[ac7];exact⟨h.n,by simp,λa l b i=>by rw[N8]at i;subst i;rintro rfl;exact z l⟩
 ·rcases wJ.mp o with z|z
  ·rw[z];exact j
  ·exact h.w x z
 ·have e:=congrArg ad2 (lq (ag:=ag) (w:=w) (ks:=[kind]));rw[s0]at e;rw[e];have:=h.l
  split
  ·rw[s0];assumption
  ·simp;assumption
 ·have new:1<=[kind].length/\[kind].length<=2/\[kind].Nodup/\∀r∈[kind],r.length<=2/\SgM c 1 r:=⟨by simp,by simp,by simp,λr p=>by rw[N8.mp p];exact⟨n,hs⟩⟩;unfold bA at f
  split at f
  ·obtain⟨m,g,rfl⟩:=P4.mp f
   split
   ·exact new
   ·exact h.e m g
  ·rcases P0.mp f with z|z
   ·exact h.e e z
   ·rw[N8.mp z];exact new
noncomputable def sgs(ms:List Str):Row:=ms.flatMap λm=>[(m,-1),(m,0),(m,1)]
theorem lX(ms:List Str):(sgs ms).length<=ms.length*3:=g6 λ_ _=>N2 _
noncomputable def se(f:Nat->List Row):List Nat->List Row
 |[]=>[]
 |n::a=>if f n=[]then se f a else f n
theorem rF{f:Nat->List Row}:∀{l m:List Nat},(∀j∈l,f j=[])->se f (l++m)=se f m
 |[],_,_=>rfl
 |n::l,m,h=>by
  rw[at0,se,if_pos (h n (.head _))];exact rF λj a=>h j (.tail _ a)
theorem v8{f:Nat->List Row}{n i:Nat}(g:i<n)(h:∀j,j<i->f j=[])(l:f i≠[]):se f (Q0 n)=f i:=by
 have e:Q0 n=Q0 i++i::(Q0 n).drop (i+1):=by
  have c:(Q0 n).take i=Q0 i:=by rw[List.take_range,ak1 (by exact T8 (by assumption))]
  have a:=ac8 i (Q0 n);rw[c,T5 (by simpa using g)]at a;simpa using a.symm
 rw[e,rF λj m=>h j (R0.mp m),se,if_neg l]
theorem tE{f:Nat->List Row}{n:Nat}(h:∀j,j<n->f j=[]):se f (Q0 n)=[]:=by
 have:=rF (f:=f) (l:=Q0 n) (m:=[]) λj a=>h j (R0.mp a);rw[aa4]at this;exact this
def pG(ord:List (Str×Str))(ai:Str)(ag:List (Str×List Row))(w:Str)(book:List (List Str))(n:Nat):List Row:=(aB (sgs (mks ord ai ag)) n).filter λk=>jK ord ai (bA ag w [k]) book
def lrn(ord:List (Str×Str))(ai:Str)(ag:List (Str×List Row))(w:Str)(book:List (List Str))(size:Nat):List Row:=se (pG ord ai ag w book) (Q0 (size+1))
theorem Cz{c:List Str}{ord:List (Str×Str)}{ai:Str}{ag:List (Str×List Row)}(h:LQ c ord ai ag):∀x∈mks ord ai ag,x∈c:=λx a=>by
 rw[mks,(br _).mem_iff,mH,P0,P0,N8]at a;rcases a with(a|a)|a
 ·obtain⟨p,f,z⟩:=Z4.mp a;simp only[O9,ac3,or_false]at z;rcases z with rfl|rfl
  ·exact(h.om p f).1
  ·exact(h.om p f).2
 ·rw[a];exact h.g
 ·obtain⟨e,i,z⟩:=Z4.mp a;obtain⟨r,j,z⟩:=Z4.mp z;obtain⟨s,g,rfl⟩:=P4.mp z;exact(((h.e e i).2.2.2 r j).2 s g).1
theorem u9{ord:List (Str×Str)}{ai:Str}{ag:List (Str×List Row)}(f:ord.length<=2)(c:ag.length<=2)(he:jR ag 2 3):(mks ord ai ag).length<=17:=by
 rw[mks,(br _).length_eq];have a:=mr (inO ord++[ai]++inK ag);have e:=pq (ord:=ord);have g:=px he;simp only[O6,af3]at a
 lia
theorem uY{c ms:List Str}(h:∀x∈ms,x∈c):SgM c 1 (sgs ms):=λs e=>by
 obtain⟨m,a,z⟩:=Z4.mp e;simp only[O9,ac3,or_false]at z;rcases z with rfl|rfl|rfl
 ·exact⟨h m a,by show -((1:Nat):Int)<=-1;decide,by show(-1:Int)<=((1:Nat):Int);decide⟩
 ·exact⟨h m a,by show -((1:Nat):Int)<=0;decide,by show(0:Int)<=((1:Nat):Int);decide⟩
 ·exact⟨h m a,by show -((1:Nat):Int)<=1;decide,by show(1:Int)<=((1:Nat):Int);decide⟩
theorem iE{e:Type}{xs:List e}:∀{n:Nat}{r:List e},r∈aB xs n->∀w∈r,w∈xs
 |0,r,h,w,a=>by simp[aB]at h;rw[h]at a;cases a
 |n+1,r,h,w,a=>by
  simp only[aB,Z4,P4]at h;obtain⟨q,f,x,g,rfl⟩:=h;rcases P0.mp a with c|c
  ·exact iE f w c
  ·rw[N8.mp c];exact g
theorem leU{M c:DH}{p:O1}{o:HD}(h:LeM M c)(f:M p=none):LeM M (ay c p o):=λa u e=>by
 unfold ay
 split
 ·rename_i z;rw[z,f]at e;cases e
 ·exact h a u e
theorem leB{M c:DH}{p:O1}{o:HD}(h:LeM M c):LeM (ay M p o) (ay c p o):=λa u e=>by
 unfold ay at e ⊢
 split
 ·rename_i z;rw[if_pos z]at e;exact e
 ·rename_i z;rw[if_neg z]at e;exact h a u e
def Jt(ag:List (Str×List Row))(w:Str)(book:List (List Str)):Prop:=book.length<=100/\∀r∈book,r.length<=2/\∀x∈r,x=w∨x∈ag.map (·.1)
def rD:SpD:=λf M R=>∃(g:List Str) (ord:List (Str×Str)) (e:Str) (c:List (Str×List Row)) (w:Str) (a:List (List Str)) (size:Nat),f=[bJ ord e c,.str w,.tup (a.map wsD),.int (size:Int)]/\LQ g ord e c/\c.length<=2/\bF w/\Jt c w a/\size<=2 /\
 ∀p,M p=none->R (.ref p) (ay M p (.lst ((lrn ord e c w a size).map au)))
theorem wu(F:Fun K "learnt" "learnt" gc f Y)(T:Txt K I)(Y5:FnD P w K I base "refuse_other_words_of_book" 5 3 cq)(a2:FnD P w K I base "marks_of" 1 1 mn)(Q:FnD P w K I base "tuples_of" 1 2 kB)(a3:FnD P w K I base "are_sentences" 12 2 gJ)(Z:FnD P w K I base "put_in" 11 3 pP):aV P w K I base CX0 13 f Y ["lexicon","word","book","size"] (spD K 4 rD):=by
 have nd:=oz.nd;refine F.okR rfl oz (λa9 A a4 s H E C=>⟨_,(ak (gb (qd Y5 C (ae (aa 0) (ae (aa 1) (ae (aa 2) ah)))))
   (ak (pW (i:=4) nd rfl rfl rfl (ms:=[false,false,false,false,false,false,false]) (ar:=["mark","turn"]) (aE rfl (show aS (aj gc) dR _ _=true from by decide +kernel)) rfl (aM (qd a2 C (ae (aa 0) ah))) (aC (i:=7) (show(dR++_).Nodup from by decide +kernel) rfl rfl) (λ_ _ _ _=>bh) (λ_ _ _ _=>(aM (vi rfl T.g_TURNS))) (aC (i:=8) (show(dR++_).Nodup from by decide +kernel) rfl rfl) (λ_ _ _ _=>bh) (λ_ _ _ _=>(bt (ae (aa 7) (ae (aa 8) ah)))))
   (ak (bH Q5 rfl (b7 rfl T.b_range (ae (aW aP (aa 3) am) ah)) (aI (i:=5) nd rfl (R8 rfl)) (ak (wI (i:=6) nd rfl rfl rfl (ms:=[true,true,true,false,false,false,false]) (ar:=["kind"]) (aE rfl (show aS (aj gc) dR _ _=true from by decide +kernel)) rfl (aM (qd Q C (ae (aa 4) (ae (aa 5) ah)))) (aC (i:=7) (show(dR++_).Nodup from by decide +kernel) rfl rfl) (λ_ _ _ _=>(jN (dP (qd a3 C (ae (qd Z C (ae (aa 0) (ae (aa 1) (ae (bt (ae (aa 7) ah)) ah)))) (ae (aa 2) ah)))))) (λ_ _ _ _=>(aa 7)))
   (ao (cV (bz GZ (aU cM rfl T.b_len (by kernel_rfl) (ae (aa 6) ah)) am nbh) (ao (iQ (aa 6))) bW))))
   (ao (iQ (iK ah)))))),λds M R _ hS bk=>?_⟩)
 obtain⟨az,ord,l,n,B,g,size,rfl,h,h2,hw,hb,hs,k⟩:=hS;refine bk ?_;clear bk;walk_at"";refine⟨ord,l,n,B,g,rfl,by exact N3 (by assumption) (by decide),λr C x hx=>((hb.2 r C).2 x hx).imp id λz=>⟨z,h.w x z⟩,?_⟩;refine⟨ord,l,n,rfl,h.o,by exact N3 (by assumption) (by decide),h.ok,?_⟩;walk_at"";have a':=u9 (ai:=l) h.o h2 h.ok;have b1:=lX (mks ord l n);have eS:((mks ord l n).flatMap λm=>[aD (m,-1),aD (m,0),aD (m,1)])=(sgs (mks ord l n)).map aD:=by unfold sgs;rw[ah9];rfl
 intro _;refine bQ D.str (λm=>[aD (m,-1),aD (m,0),aD (m,1)]) (λu=>∃a b,u=[none,none,none,none,none,none,none,a,b]) (mks ord l n) _ _ _ ?_ ⟨_,_,rfl⟩ ?_ ?_
 ·rintro m hm u ⟨a,b,rfl⟩;refine⟨_,rfl,λb0 Q2 hz q2=>?_⟩;simp only[fI,gK,dC];refine⟨_,rfl,λ_=>?_⟩;refine bQ (λt:Int=>D.int t) (λt=>[aD (m,t)]) (λu=>∃b,u=[none,none,none,none,none,none,none,some (.str m),b]) [-1,0,1] _ _ _ ?_ ⟨_,rfl⟩ hz (by rintro a0 ⟨b,rfl⟩;exact q2 _ ⟨_,_,rfl⟩);rintro t ht u ⟨b,rfl⟩;refine⟨_,rfl,λa5 Q3 a8 q3=>?_⟩;simp only[jS,vX,cE,bN,fk];exact⟨_,rfl,_,rfl,sz3 2,q3 _ ⟨_,rfl⟩⟩
 ·rw[eS,s0];exact sz3 _ (by simp;lia)
 rintro a0 -
 rw[eS,P1];refine⟨by lia,by lia,?_⟩;rw[show((size:Int)+1).toNat=size+1 by lia];refine aG (λi u N=>∃x5 U,u=[some (bJ ord l n),some (D.str B),some (D.tup (g.map wsD)),some (D.int (size:Int)),some (D.lst ((sgs (mks ord l n)).map aD)),x5,U]/\LeM M N/\∀j,j<i->pG ord l n B g j=[]) ⟨_,_,rfl,LeM.refl,λj G=>by lia⟩ ?_ ?_
 ·rintro i d u N X hd ⟨x5,U,rfl,o,G⟩ k';obtain⟨hi,rfl⟩:=cD hd;refine⟨_,rfl,?_⟩;walk_at"";rw[an4];refine⟨sgs (mks ord l n),i,rfl,by lia,by lia,_,rfl,λhz=>⟨hz,?_⟩⟩;refine aY au (λkd=>jK ord l (bA n B [kd]) g) au (λu=>∃x,u=[some (bJ ord l n),some (D.str B),some (D.tup (g.map wsD)),none,none,none,none,x]) (aB (sgs (mks ord l n)) i) _ _ (λkd J u O=>?_) ⟨none,rfl⟩ ?_
  ·obtain⟨x,rfl⟩:=O;have S:kd.length<=2:=by rw[de J];lia
   have a1:SgM az 1 kd:=λs hs=>uY (Cz h) s (iE J s hs);have hq:=h.with h2 hw S a1
   refine⟨_,rfl,⟨_,rfl⟩,λQ1 q=>?_,λ_ Q2 q=>?_⟩
   ·walk_at"";exact⟨sz3 1,ord,l,n,B,[kd],rfl,by exact N3 (by assumption) (by decide),h.n,hw,hq.lx,ord,l,_,g,rfl,λr C=>hq.sen (hb.2 r C).1 λx hx=>wJ.mpr ((hb.2 r C).2 x hx),_,rfl,q⟩
   ·walk_at"";exact q
  ·rw[P1];intro p hp;rw[s0];have L:M p=none:=o.none hp;refine fw (λc=>⟨ay M p (.lst ((lrn ord l n B g size).map au)),?_,k p L⟩) (λc=>k' _ _ ⟨_,_,rfl,leU o L,λj a6=>?_⟩)
   ·have e:lrn ord l n B g size=pG ord l n B g i:=v8 (by assumption) G λz=>by
     unfold pG at z;rw[z]at c;simp at c
    rw[e];exact leB o
   ·rcases U6 j i with z|z
    ·exact G j z
    ·have:j=i:=by lia
     rw[this];unfold pG;rw[<-ag2]
     lia
 ·rintro u N ⟨x5,U,rfl,o,G⟩;walk_at"";rw[bT]at G;refine⟨O3 _,λp hp=>⟨ay M p (.lst ((lrn ord l n B g size).map au)),?_,k p (o.none hp)⟩⟩;rw[show lrn ord l n B g size=[]from tE G];exact leB o
def pH:SpD:=λf M R=>∃(ord:List (Str×Str)) (e:Str) (c:List (Str×List Row)) (w:Str) (a:Row),f=[bJ ord e c,.str w,au a]/\c.length<=8/\R (bJ ord e (bA c w [a])) M
theorem AR(F:Fun K "_law_with" "_law_with" jO f Y)(T:Txt K I):aV P w K I base CX0 1 f Y ["_law_lexicon_here","_law_word_here","_law_kind"] (spD K 3 pH):=by
 have z:=sS.nd;refine F.okR rfl sS (λG A o s H E O=>⟨_,(ak (zr (aa 0) (kQ rfl (bG (aI (i:=3) z rfl (R8 rfl)) (bG (aI (i:=4) z rfl (R8 rfl)) (bG (aI (i:=5) z rfl (R8 rfl)) kE)))))
   (dn (ak (cV (bz ma (aa 1) (eR (ms:=[false,false,false,false,false,false]) (ar:=["_law_one","_law_kinds_here"]) (aE rfl (show aS (aj jO) fM _ _=true from by decide +kernel)) rfl (aM (aa 5)) (gS (n:=2) rfl (bC (aC (i:=6) (show(fM++_).Nodup from by decide +kernel) rfl rfl) (bC (aC (i:=7) (show(fM++_).Nodup from by decide +kernel) rfl rfl) gR))) (λ_ _ _ _=>bh) (λ_ _ _ _=>(aa 6))) rfl) (ao (aN (bt (ae (aa 3) (ae (aa 4) (ae (aW aP (aa 5) (bt (ae (bt (ae (aa 1) (ae (bt (ae (aa 2) ah)) ah))) ah))) ah)))))) bW)
   (ao (aN (bt (ae (aa 3) (ae (aa 4) (ae (cB fB rfl T.b_tuple (by kernel_rfl) (ae (eR (ms:=[false,true,true,false,false,false]) (ar:=["_law_one","_law_kinds_here"]) (aE rfl (show aS (aj jO) fM _ _=true from by decide +kernel)) rfl (aM (aa 5)) (gS (n:=2) rfl (bC (aC (i:=6) (show(fM++_).Nodup from by decide +kernel) rfl rfl) (bC (aC (i:=7) (show(fM++_).Nodup from by decide +kernel) rfl rfl) gR))) (λ_ _ _ _=>bh) (λ_ _ _ _=>(bt (ae (aa 6) (ae (aZ a7 (cU (ae (aa 7) (ae (bt (ae (aa 2) ah)) ah))) (cB Ls rfl T.b_int (by kernel_rfl) (ae (fW (mm O.units) (aa 6) (aa 1) nbh) ah)) (λ_ _=>rfl)) ah))))) ah)) ah))))))))),λQ M R _ J bk=>?_⟩)
 obtain⟨ord,B,h,g,a,rfl,S,k⟩:=J;refine bk ?_;clear bk;simp only[bJ];walk_at"";refine⟨[some (D.tup [D.tup (ord.map aJ),D.str B,D.tup (h.map bI)]),some (D.str g),some (au a),some (D.tup (ord.map aJ)),some (D.str B),some (D.tup (h.map bI))],rfl,bL ?_⟩;walk_at"";refine λp=>⟨p,aY bI (λ_=>true) (λe=>D.str e.1) (λm=>∃x y,m=[none,none,none,none,none,none,x,y]) h _ _ (λe l m j=>?_) ⟨none,none,rfl⟩ ?_⟩
 ·obtain⟨x,y,rfl⟩:=j;refine⟨_,rfl,⟨_,_,rfl⟩,λC q=>q,λ_ N q=>?_⟩;walk_at"";exact q
 rw[P1,U0.mpr (λ_ _=>rfl)];refine⟨_,if_pos ⟨rfl,sN⟩,_,rfl,?_⟩;rw[zT];refine fw (λc=>?_) (λc=>?_)
 ·have l:g∉h.map (·.1):=by simpa using c
  have u:bA h g [a]=h++[(g,[a])]:=if_neg l;refine⟨sz3 1,sz3 2,sz3 1,.tup ((bA h g [a]).map bI),?_,sz3 3,k⟩;rw[u,P7];exact if_pos (sz3 _ (by simp;exact N3 (by assumption) (by decide)))
 ·have l:g∈h.map (·.1):=by simpa using c
  refine λp=>⟨p,aY bI (λ_=>true) (λe=>bI (if e.1=g then(g,[a])else e)) (λm=>∃x y,m=[none,some (D.str g),some (au a),none,none,none,x,y]) h _ _ (λe l m j=>?_) ⟨none,none,rfl⟩ ?_⟩
  ·obtain⟨x,y,rfl⟩:=j;refine⟨_,rfl,⟨_,_,rfl⟩,λC q=>q,λ_ N q=>?_⟩;walk_at"";refine⟨sz3 1,sz3 2,bq (if e.1=g then(g,[a])else e).2,?_,sz3 2,?_⟩
   ·by_cases c:e.1=g
    ·rw[if_pos c,if_pos (by simpa using c)];rfl
    ·rw[if_neg c,if_neg (by simpa using c)];rfl
   ·have L:D.tup [D.str e.1,bq (if e.1=g then(g,[a])else e).2]=bI (if e.1=g then(g,[a])else e):=by
     by_cases c:e.1=g
     ·rw[if_pos c,c];rfl
     ·rw[if_neg c];rfl
    rw[L];exact q
  ·rw[P1,U0.mpr (λ_ _=>rfl)];have u:(h.map λe=>bI (if e.1=g then(g,[a])else e))=(bA h g [a]).map bI:=by
    unfold bA;rw[if_pos l,P9];rfl
   rw[u];exact⟨sz3 3,k⟩
def t7:SpD:=λe M R=>∃(ord:List (Str×Str)) (c:Str) (a:List (Str×List Row)),e=[bJ ord c a]/\ord.length<=2/\a.length<=3/\jR a 2 3/\R (.lst ((mks ord c a).map .str)) M
theorem yg(F:Fun K "_law_marks" "_law_marks" kf f Y)(T:Txt K I):aV P w K I base CX0 1 f Y ["_law_lexicon_here"] (spD K 1 t7):=by
 have m:=qC.nd;refine F.okR rfl qC (λa3 A O s H E z=>⟨_,(ak (aK (i:=1) m rfl (R8 rfl) (cU (ae (aZ a7 (aa 0) am (λ_ _=>rfl)) ah)))
   (ak (bH Q5 rfl (aM (aZ a7 (aa 0) am (λ_ _=>rfl))) (aI (i:=2) m rfl (R8 rfl)) (ao (aK (i:=1) m rfl (R8 rfl) (aW aP (aa 1) (cB G4 rfl T.b_list (by kernel_rfl) (ae (aa 2) ah))))))
   (ak (bH Q5 rfl (aM (aZ a7 (aa 0) am (λ_ _=>rfl))) (kQ rfl (bG (aI (i:=3) m rfl (R8 rfl)) (bG (aI (i:=4) m rfl (R8 rfl)) kE))) (ao (bH Q5 rfl (aM (aa 4)) (aI (i:=5) m rfl (R8 rfl)) (ao (aK (i:=1) m rfl (R8 rfl) (aW aP (aa 1) (eR (ms:=[false,false,false,false,false,false]) (ar:=["_law_mark","_law_turn"]) (aE (n0:=0) rfl (show aS (aj kf) j6 _ _=true from by decide +kernel)) rfl (aM (aa 5)) (gS (n:=2) rfl (bC (aC (i:=6) (show(j6++_).Nodup from by decide +kernel) rfl rfl) (bC (aC (i:=7) (show(j6++_).Nodup from by decide +kernel) rfl rfl) gR))) (λ_ _ _ _=>bh) (λ_ _ _ _=>(aa 6)))))))))
   (ao (aN (Jf rfl rfl T.b_sorted rfl T.b_set (aa 1))))))),λds M R _ hS bk=>?_⟩)
 obtain⟨ord,h,g,rfl,ho,hl,B,k⟩:=hS;refine bk ?_;clear bk;have a4:=pq (ord:=ord);have a6:=px B;simp only[bJ];walk_at"";refine⟨sz3 1,λ_=>?_⟩;refine aG (λi c G=>∃C,c=[some (D.tup [D.tup (ord.map aJ),D.str h,D.tup (g.map bI)]),some (D.lst ((h::inO (ord.take i)).map D.str)),C,none,none,none]/\G=M) ⟨_,rfl,rfl⟩ ?_ ?_
 ·rintro i d c G X Q ⟨C,rfl,rfl⟩ N;obtain⟨p,u,rfl⟩:=bU Q;have hi:i<ord.length:=(N4.mp u).1;have a1:=pq (ord:=ord.take i);rw[S2]at a1;refine⟨_,rfl,?_⟩;simp only[aJ];walk_at"";have e:inO (ord.take (i+1))=inO (ord.take i)++[p.1,p.2]:=by rw[S1,u];simp[inO]
  refine⟨_,rfl,_,if_pos (sz3 _ (by simp;lia)),N _ _ ⟨some (D.tup [D.str p.1,D.str p.2]),?_,rfl⟩⟩;rw[e,N5,P7];rfl
 rintro c G ⟨C,rfl,rfl⟩;rw[s0,S6];walk_at"";refine λ_=>?_;refine aG (λi c M1=>∃U S o,c=[some (D.tup [D.tup (ord.map aJ),D.str h,D.tup (g.map bI)]),some (D.lst ((h::inO ord++inK (g.take i)).map D.str)),C,U,S,o]/\M1=G) ⟨none,none,none,by simp[inK],rfl⟩ ?_ ?_
 ·rintro i d c M1 X Q ⟨U,S,o,rfl,rfl⟩ N;obtain⟨e,u,rfl⟩:=bU Q;have l:=P3 u;have hi:i<g.length:=(N4.mp u).1;have J:=px (ag:=g.take i) λe a0=>B e (aj2 a0);rw[S2]at J;simp only[bI];refine⟨_,rfl,?_⟩;simp only[bq];walk_at"";refine λ_=>?_;refine aG (λj c M2=>∃o,c=[some (D.tup [D.tup (ord.map aJ),D.str h,D.tup (g.map bI)]),some (D.lst ((h::inO ord++inK (g.take i)++(e.2.take j).flatMap λr=>r.map (·.1)).map D.str)),C,some (D.str e.1),some (D.tup (e.2.map au)),o]/\M2=M1) ⟨o,by simp,rfl⟩ ?_ ?_
  ·rintro j d c M2 X2 Z ⟨y5,rfl,rfl⟩ k2;obtain⟨r,z,rfl⟩:=bU Z;have hj:j<e.2.length:=(N4.mp z).1;have a5:=(B e l).2 r (P3 z);have a8:=(B e l).1;have a2:((e.2.take j).flatMap λr=>r.map (·.1)).length<=(e.2.take j).length*3:=g6 λr z=>by rw[s0];exact(B e l).2 r (aj2 z)
   rw[S2]at a2;refine⟨_,rfl,?_⟩;simp only[au];walk_at"";refine λhz=>⟨hz,aY aD (λ_=>true) (λs=>D.str s.1) (λc=>∃x y,c=[none,none,none,none,none,none,x,y]) r _ _ (λs hs c L=>?_) ⟨none,none,rfl⟩ ?_⟩
   ·obtain⟨x,y,rfl⟩:=L;refine⟨_,rfl,⟨_,_,rfl⟩,λQ1 q=>q,λ_ Q2 q=>?_⟩;walk_at"";exact q
   ·rw[P1,U0.mpr (λ_ _=>rfl)];refine⟨_,if_pos (sz3 _ (by simp only[s0,O6,O2];lia)),k2 _ _ ⟨some (D.tup (r.map aD)),?_,rfl⟩⟩;rw[S1,z];simp
  ·rintro c M2 ⟨y5,rfl,rfl⟩;rw[s0,S6];have e3:inK (g.take (i+1))=inK (g.take i)++e.2.flatMap λr=>r.map (·.1):=by rw[S1,u];simp[inK]
   refine N _ _ ⟨some (D.str e.1),some (D.tup (e.2.map au)),y5,?_,rfl⟩;rw[e3,<-aj7]
 ·rintro c M1 ⟨U,S,o,rfl,rfl⟩;rw[s0,S6];walk_at"";refine⟨h::inO ord++inK g,rfl,by simp;lia,?_⟩;have e:aT (dg (h::inO ord++inK g))=mks ord h g:=A8 λx=>by simp only[at0,O9,P0,ac3,or_false];rw[<-or_assoc,or_comm (a:=x=h)]
  rw[e];exact k
def fH:SpD:=λc M R=>∃(a:List Str) (n:Nat),c=[.lst (a.map .str),.int (n:Int)]/\a.length<=20/\n<=2/\R (.lst ((aB (sgs (aT a)) n).map au)) M
theorem oO(F:Fun K "_law_candidates" "_law_candidates" dA f Y)(T:Txt K I):aV P w K I base CX0 1 f Y ["_law_marks_here","_law_size"] (spD K 2 fH):=by
 have g:=jc.nd;refine F.okR rfl jc (λZ A B s H E O=>⟨_,(ak (aK (i:=2) g rfl (R8 rfl) (cU ah))
   (ak (bH Q5 rfl (aM (aU zO rfl T.b_sorted (by kernel_rfl) (ae (aa 0) ah))) (aI (i:=3) g rfl (R8 rfl)) (ao (aK (i:=2) g rfl (R8 rfl) (aW aP (aa 2) (cU (ae (bt (ae (aa 3) (ae (G0 Ij am) ah))) (ae (bt (ae (aa 3) (ae am ah))) (ae (bt (ae (aa 3) (ae am ah))) ah))))))))
   (ak (aK (i:=4) g rfl (R8 rfl) (cU (ae (bt ah) ah)))
   (ak (bH Q5 rfl (b7 rfl T.b_range (ae (aa 1) ah)) (aI (i:=5) g rfl (R8 rfl)) (ak (aK (i:=6) g rfl (R8 rfl) (cU ah))
   (ak (bH Q5 rfl (aM (aa 4)) (aI (i:=7) g rfl (as5 rfl)) (ao (aK (i:=6) g rfl (R8 rfl) (aW aP (aa 6) (eR (ms:=[false,false,false,false,false,false,false,true]) (ar:=["_law_sign"]) (aE rfl (show aS (aj dA) fG _ _=true from by decide +kernel)) rfl (aM (aa 2)) (aC (i:=8) (show(fG++_).Nodup from by decide +kernel) rfl rfl) (λ_ _ _ _=>bh) (λ_ _ _ _=>(aW aP (aa 7) (bt (ae (aa 8) ah)))))))))
   (ao (aK (i:=4) g rfl (R8 rfl) (aa 6))))))
   (ao (aN (aa 4))))))),λds M R _ hS bk=>?_⟩)
 obtain⟨c,n,rfl,S,hn,k⟩:=hS;refine bk ?_;clear bk;walk_at"";have a0:(aT c).length<=20:=by rw[(br _).length_eq];exact S
 refine⟨O3 _,_,zp (by lia),_,rfl,λ_=>?_⟩;refine aG (λi a p=>∃m,a=[some (D.lst (c.map D.str)),some (D.int (n:Int)),some (D.lst ((sgs ((aT c).take i)).map aD)),m,none,none,none,none]/\p=M) ⟨_,rfl,rfl⟩ ?_ ?_
 ·rintro i d a p X C ⟨m,rfl,rfl⟩ z;obtain⟨y,hy,rfl⟩:=bU C;have h3:=lX ((aT c).take i);rw[S2]at h3;refine⟨_,rfl,?_⟩;walk_at"";have e:sgs ((aT c).take (i+1))=sgs ((aT c).take i)++[(y,-1),(y,0),(y,1)]:=by rw[S1,hy];simp[sgs]
  refine⟨sz3 2,sz3 2,sz3 2,sz3 3,_,if_pos (sz3 _ (by rw[s0];lia)),z _ _ ⟨some (D.str y),?_,rfl⟩⟩;rw[e,P7];rfl
 rintro a p ⟨m,rfl,rfl⟩;rw[s0,S6];have Q:(sgs (aT c)).length<=60:=by have:=lX (aT c);lia
 generalize sgs (aT c)=sg at Q k ⊢;walk_at"";refine⟨O3 _,sz3 1,by lia,by lia,?_⟩;rw[U2];refine aG (λi a M1=>∃u N h,a=[some (D.lst (c.map D.str)),some (D.int (n:Int)),some (D.lst (sg.map aD)),m,some (D.lst ((aB sg i).map au)),u,N,h]/\M1=p) ⟨_,_,_,rfl,rfl⟩ ?_ ?_
 ·rintro i d a M1 X C ⟨u,N,h,rfl,rfl⟩ z;obtain⟨hi,rfl⟩:=cD C;have h8:60 ^ (i+1)<=3600:=by
   have:i+1<=2:=by exact O4 (by assumption) (by assumption)
   exact N3 (W3 (by decide) this) (by decide)
  have bp:=eJ Q (i+1);refine⟨_,rfl,?_⟩;simp only[vh,mR,BX,fk,yk,gK,bN];refine⟨O3 _,_,rfl,_,rfl,λ_=>?_⟩;refine aG (λj a M2=>∃h,a=[some (D.lst (c.map D.str)),some (D.int (n:Int)),some (D.lst (sg.map aD)),m,some (D.lst ((aB sg i).map au)),some (D.int (0+(i:Int))),some (D.lst ((((aB sg i).take j).flatMap λr=>sg.map λx=>r++[x]).map au)),h]/\M2=M1) ⟨_,rfl,rfl⟩ ?_ ?_
  ·rintro j d a M2 X2 L ⟨y7,rfl,rfl⟩ k2;obtain⟨r,O,rfl⟩:=bU L;have G:=P3 O;refine⟨_,rfl,?_⟩;simp only[dOp,dLc,gK,dCB,cE,bN,fk];refine⟨_,rfl,_,rfl,_,rfl,λ_=>⟨by rw[s0,O7];exact N3 (by assumption) (by decide),?_⟩⟩;refine aY aD (λ_=>true) (λx=>au (r++[x])) (λa=>∃x,a=[none,none,none,none,none,none,none,some (au r),x]) _ _ _ ?_ ⟨_,rfl⟩ ?_
   ·rintro x U a ⟨b,rfl⟩;refine⟨_,rfl,⟨_,rfl⟩,λQ1 q=>q,λ_ Q2 q=>?_⟩;have a1:r.length<=2:=by rw[de G];lia
    refine⟨_,rfl,_,rfl,by simp only[O2,V5];rw[O7];decide,au (r++[x]),?_,q⟩;show gM (.tup (r.map aD)) (.tup [aD x])=_;rw[fq,if_pos (by rw[s0,O7];simp;exact N3 (by assumption) (by decide))];simp[au]
   ·rw[U0.mpr (λ_ _=>rfl),P1];have o:((aB sg i).take (j+1)).flatMap (λr=>sg.map λx=>r++[x])=(((aB sg i).take j).flatMap λr=>sg.map λx=>r++[x])++sg.map λx=>r++[x]:=by
     rw[S1,O,ah4];simp
    have J:(((aB sg i).take (j+1)).flatMap λr=>sg.map λx=>r++[x]).length<=(aB sg (i+1)).length:=by
     have e:=congrArg (λl=>(l.flatMap λr=>sg.map λx=>r++[x]).length) (ac8 (j+1) (aB sg i));simp only[ah4,O6]at e;show _<=((aB sg i).flatMap _).length
     lia
    rw[o,O6,s0]at J;refine⟨_,if_pos (show ad2 _+ad2 _<=N7 by rw[s0,s0,O7];lia),k2 _ _ ⟨some (au r),?_,rfl⟩⟩;rw[o,P7,P9];rfl
  ·rintro a M2 ⟨y7,rfl,rfl⟩;rw[s0,S6];exact⟨_,rfl,z _ _ ⟨_,_,_,rfl,rfl⟩⟩
 ·rintro a M1 ⟨u,N,h,rfl,rfl⟩;rw[show(jm 0 n).length=n by simp[jm]];walk_at"";exact k
theorem xX{ord:List (Str×Str)}{ai:Str}{ag:List (Str×List Row)}:aT (mks ord ai ag)=mks ord ai ag:=kJ (br _)
theorem IQ{a:Type}{xs:List a}{f:a->Bool}:Bh (.lst (xs.map λx=>D.bl (f x)))=some (.bl (xs.all f)):=by
 have c:(xs.map λx=>D.bl (f x)).all wb=true:=by rw[an2,Z3];intro _ _;rfl
 simp only[Bh,c,if_true,an2];rfl
theorem Iw{l:List Row}:neF (.lst (l.map au)) (.lst [])=some (.bl (!decide (l=[]))):=by
 have c:dLe (.lst (l.map au)) 60=true:=eC au λ_=>fU;have a:dLe (.lst []) 60=true:=rfl;simp only[neF,c,a,and_self,if_true];cases l<;>simp[eqD,dh]
def zU:SpD:=λg M R=>∃(h:List Str) (ord:List (Str×Str)) (e:Str) (c:List (Str×List Row)) (w:Str) (a:List (List Str)) (size:Nat),g=[bJ ord e c,.str w,.tup (a.map wsD),.int (size:Int)]/\LQ h ord e c/\c.length<=2/\bF w/\Jt c w a/\size<=2/\∀f,LeM M f->R (.lst ((lrn ord e c w a size).map au)) f
theorem Cp(F:Fun K "_law_due" "_law_due" oZ f Y)(T:Txt K I)(Y7:FnD P w K I base "_law_candidates" 1 2 fH)(a0:FnD P w K I base "_law_marks" 1 1 t7)(a2:FnD P w K I base "_law_with" 1 3 pH)(Y8:FnD P w K I base "_law_is_sentence" 4 2 eM):aV P w K I base CX0 5 f Y ["_law_lexicon_here","_law_word_here","_law_book_here","_law_size"] (spD K 4 zU):=by
 have N:=xB.nd;refine F.okR rfl xB (λa' A a3 s H E C=>⟨_,(ak (bH Q5 rfl (b7 rfl T.b_range (ae (aW aP (aa 3) am) ah)) (aI (i:=4) N rfl (R8 rfl)) (ak (aK (i:=5) N rfl (R8 rfl) (iK ah))
   (ak (bH Q5 rfl (aM (qd Y7 C (ae (qd a0 C (ae (aa 0) ah)) (ae (aa 4) ah)))) (aI (i:=6) N rfl (R8 rfl)) (ak (aK (i:=7) N rfl (as5 rfl) (qd a2 C (ae (aa 0) (ae (aa 1) (ae (aa 6) ah)))))
   (ao (cV (dP (aU (sV rfl) rfl T.b_all (by kernel_rfl) (ae (eR (ms:=[false,false,false,false,false,false,false,true]) (ar:=["_law_row"]) (aE rfl (show aS (aj oZ) um _ _=true from by decide +kernel)) rfl (aM (aa 2)) (aC (i:=8) (show(um++_).Nodup from by decide +kernel) rfl rfl) (λ_ _ _ _=>bh) (λ_ _ _ _=>(qd Y8 C (ae (aa 7) (ae (aa 8) ah))))) ah))) (ao (gb (og (aa 5) (aa 6)))) bW))))
   (ao (cV (bz (Iz C.units) (aa 5) (cU ah) nbh) (ao (yD (aa 5))) bW)))))
   (ao (iQ (cU ah)))),λds M R _ hS bk=>?_⟩)
 obtain⟨az,ord,g,l,n,e,size,rfl,h,h2,hw,hb,hs,k⟩:=hS;refine bk ?_;clear bk;have b0:=u9 (ai:=g) h.o h2 h.ok;have ho:=h.o;walk_at"";refine⟨by lia,by lia,?_⟩;rw[show((size:Int)+1).toNat=size+1 by lia];refine aG (λi p B=>∃x4 x5 x6 x7,p=[some (bJ ord g l),some (D.str n),some (D.tup (e.map wsD)),some (D.int (size:Int)),x4,x5,x6,x7]/\LeM M B/\∀j,j<i->pG ord g l n e j=[]) ⟨_,_,_,_,rfl,LeM.refl,λj J=>by lia⟩ ?_ ?_
 ·rintro i d p B X hd ⟨x4,x5,x6,x7,rfl,o,J⟩ k';obtain⟨hi,rfl⟩:=cD hd;refine⟨_,rfl,?_⟩;walk_at"";refine⟨sz3 0,λq hq=>?_⟩;have a4:M q=none:=o.none hq;refine⟨ord,g,l,rfl,h.o,by exact N3 (by assumption) (by decide),h.ok,mks ord g l,i,by rw[an4],by exact N3 (by assumption) (by decide),by lia,_,rfl,λ_=>?_⟩;rw[xX];refine aG (λj p M2=>∃Q U,p=[some (bJ ord g l),some (D.str n),some (D.tup (e.map wsD)),some (D.int (size:Int)),some (D.int (0+(i:Int))),some (D.ref q),Q,U]/\M2=ay B q (.lst ((((aB (sgs (mks ord g l)) i).take j).filter λk=>jK ord g (bA l n [k]) e).map au))) ⟨_,_,rfl,rfl⟩ ?_ ?_
  ·rintro j d p M2 X2 Z ⟨Q,U,rfl,rfl⟩ k2;obtain⟨kd,u,rfl⟩:=bU Z;have L:=P3 u;have S:kd.length<=2:=by rw[de L];lia
   have a1:SgM az 1 kd:=λs hs=>uY (Cz h) s (iE L s hs);have G:=h.with h2 hw S a1
   have a6:=G.l.2;refine⟨_,rfl,?_⟩;walk_at"";refine⟨ord,g,l,n,kd,rfl,by exact N3 (by assumption) (by decide),λhz=>⟨hz,?_⟩⟩;refine aY wsD (λ_=>true) (λr=>D.bl (decide (0<xV ord g (bA l n [kd]) r))) (λp=>∃x,p=[none,none,none,none,none,none,none,some (bJ ord g (bA l n [kd])),x]) e _ _ (λr C p O=>?_) ⟨none,rfl⟩ ?_
   ·obtain⟨x,rfl⟩:=O;have a8:=(hb.2 r C).1;refine⟨_,rfl,⟨_,rfl⟩,λQ1 q=>q,λ_ Q2 q=>?_⟩;walk_at"";exact⟨ord,g,_,r,rfl,by exact N3 (by assumption) (by decide),by exact N3 (by assumption) (by decide),G.n,G.ok,by exact N3 (by assumption) (by decide),q⟩
   ·rw[P1,U0.mpr (λ_ _=>rfl)];refine⟨_,IQ,_,rfl,?_⟩;have et:((aB (sgs (mks ord g l)) i).take (j+1)).filter (λk=>jK ord g (bA l n [k]) e)=(((aB (sgs (mks ord g l)) i).take j).filter λk=>jK ord g (bA l n [k]) e)++if jK ord g (bA l n [kd]) e=true then[kd]else[]:=by
     rw[S1,u,List.filter_append];congr 1;show ay8 _ [kd]=_;cases hc:jK ord g (bA l n [kd]) e<;>simp[hc]
    have bp:(((aB (sgs (mks ord g l)) i).take j).filter λk=>jK ord g (bA l n [k]) e).length<=3600:=by
     have a:=aa8 (λk=>jK ord g (bA l n [k]) e) ((aB (sgs (mks ord g l)) i).take j);have b:=List.length_take_le j (aB (sgs (mks ord g l)) i);have c:=eJ (m:=60) (xs:=sgs (mks ord g l)) (by have:=lX (mks ord g l);lia) i;have d:60 ^ i<=3600:=N3 (W3 (by decide) (show i<=2 by lia)) (by decide);rw[S2]at a
     lia
    refine fw (λc=>?_) (λc=>k2 _ _ ⟨_,_,rfl,?_⟩)
    ·refine⟨_,aq,_,aq,by rw[s0,O7];lia,k2 _ _ ⟨_,_,rfl,?_⟩⟩;rw[aF,et,if_pos (show jK ord g (bA l n [kd]) e=true from c),P7];rfl
    ·rw[et,if_neg (show ¬ jK ord g (bA l n [kd]) e=true from c),aa4]
  ·rintro p M2 ⟨Q,U,rfl,rfl⟩;rw[s0,S6];walk_at"";refine⟨sz3 0,_,Iw,_,rfl,fw (λc=>?_) (λc=>k' _ _ ⟨_,_,_,_,rfl,leU o a4,λj a9=>?_⟩)⟩
   ·have a5:pG ord g l n e i≠[]:=λz=>by unfold pG at z;rw[z]at c;simp at c
    rw[ju hq];have:=k B o;rw[show lrn ord g l n e size=pG ord g l n e i from v8 (by assumption) J a5]at this;exact this
   ·rcases U6 j i with z|z
    ·exact J j z
    ·have:j=i:=by lia
     rw[this];unfold pG;simpa using c
 ·rintro p B ⟨x4,x5,x6,x7,rfl,o,J⟩;walk_at"";rw[bT]at J;rw[show lrn ord g l n e size=[]from tE J]at k;exact⟨O3 _,B,LeM.refl,k B o⟩
theorem LO{w:Str}{r:List Str}:((r.map D.str).any λd=>eqD d (.str w))=decide (w∈r):=by
 rw[W0,as7,ab0,decide_eq_true_eq];constructor
 ·rintro⟨e,a,h⟩;have:e=w:=by simpa[eqD]using h
  exact this▸a
 ·intro h;exact⟨w,h,by simp[eqD]⟩
theorem Mj{r:List Str}:(r.map D.str).all bD=true:=by rw[an2,Z3];intro _ _;rfl
theorem K2{r:List Str}:dLe (wsD r) 59=true:=by
 show cT (r.map D.str) 58=true;rw[mF];intro d a;obtain⟨x,_,rfl⟩:=P4.mp a;rfl
theorem JK{l:List (List Str)}:eqF (.lst (l.map wsD)) (.lst [])=some (.bl (decide (l=[]))):=by
 have c:dLe (.lst (l.map wsD)) 60=true:=eC wsD λ_=>K2;have a:dLe (.lst []) 60=true:=rfl;simp only[eqF,c,a,and_self,if_true];cases l<;>simp[eqD,dh]
theorem Dy(g:Str):aT [g]=[g]:=List.perm_singleton.mp (br _)
def wX:SpD:=λg M R=>∃(p:O1) (l:List D) (h:List Str) (ord:List (Str×Str)) (f:Str) (e:List (Str×List Row)) (w:Str) (c:List Str),g=[.ref p,bJ ord f e,.str w,.lst (c.map .str)]/\M p=some (.lst l)/\bu l/\LQ h ord f e/\e.length<=2/\bF w/\w∈c/\c.length<=3 /\
 ∀(a:List (List Str)) l',a.length<=2->(∀r∈a,r.length<=2/\∀x∈r,x∈c)->bu l'->R (.tup (a.map wsD)) (ay M p (.lst l'))
theorem Bi(F:Fun K "_law_book" "_law_book" il f Y)(T:Txt K I)(d7:FnD P w K I base "_law_with" 1 3 pH)(Y7:FnD P w K I base "_law_candidates" 1 2 fH)(a2:FnD P w K I base "_law_rows" 1 2 wy)(Y0:FnD P w K I base "_law_draw" 1 2 dw)(Y8:FnD P w K I base "_law_is_sentence" 4 2 eM):aV P w K I base CX0 5 f Y ["_law_pool_here","_law_lexicon_here","_law_word_here","_law_words"] (spD K 4 wX):=by
 have nd:=tW.nd;refine F.okR rfl tW (λe8 A d8 s H E e=>⟨_,(ak (FR (i:=4) nd rfl rfl rfl (ms:=[false,false,true,false,false,false,false,false,false,false]) (ar:=["_law_row"]) (aE rfl (show aS (aj il) fO _ _=true from by decide +kernel)) rfl (aM (aW aP (qd a2 e (ae (aa 3) (ae am ah))) (qd a2 e (ae (aa 3) (ae am ah))))) (aC (i:=10) (show(fO++_).Nodup from by decide +kernel) rfl rfl) (λ_ _ _ _=>(jN (bz pL (aa 2) (aa 10) rfl))) (λ_ _ _ _=>(aa 10)))
   (dn (ak (aK (i:=5) nd rfl (R8 rfl) (aW aP (qd Y7 e (ae (cU (ae (aZ a7 (aa 1) am (λ_ _=>rfl)) ah)) (ae am ah))) (qd Y7 e (ae (cU (ae (aZ a7 (aa 1) am (λ_ _=>rfl)) ah)) (ae am ah)))))
   (dn (ak (aK (i:=6) nd rfl (as5 rfl) (qd d7 e (ae (aa 1) (ae (aa 2) (ae (aZ a7 (aa 5) (qd Y0 e (ae (aa 0) (ae (aU cM rfl T.b_len (by kernel_rfl) (ae (aa 5) ah)) ah))) (λ_ _=>rfl)) ah)))))
   (dn (ak (aK (i:=7) nd rfl (as5 rfl) (eR (ms:=[false,false,false,false,false,false,true,false,false,false]) (ar:=["_law_row"]) (aE rfl (show aS (aj il) fO _ _=true from by decide +kernel)) rfl (aM (aa 4)) (aC (i:=10) (show(fO++_).Nodup from by decide +kernel) rfl rfl) (λ_ _ _ _=>(jN (dP (qd Y8 e (ae (aa 6) (ae (aa 10) ah)))))) (λ_ _ _ _=>(aa 10))))
   (dn (ak (cV (yI (zE (bz (mm e.units) (aa 7) (cU ah) nbh) (u5 (bz (mm e.units) (qd Y0 e (ae (aa 0) (ae am ah))) am nbh)))) (ao (aK (i:=7) nd rfl (as5 rfl) (aa 4))) bW)
   (dn (ak (wI (i:=8) nd rfl rfl rfl (ms:=[true,false,false,false,false,false,false,true,false,false]) (ar:=["_law_k"]) (aE rfl (show aS (aj il) fO _ _=true from by decide +kernel)) rfl (b7 rfl T.b_range (ae (aW aP am (qd Y0 e (ae (aa 0) (ae am ah)))) ah)) (aC (i:=10) (show(fO++_).Nodup from by decide +kernel) rfl rfl) (λ_ _ _ _=>bh) (λ_ _ _ _=>(aZ a7 (aa 7) (qd Y0 e (ae (aa 0) (ae (aU cM rfl T.b_len (by kernel_rfl) (ae (aa 7) ah)) ah))) (λ_ _=>rfl))))
   (dn (ak (aK (i:=9) nd rfl (R8 rfl) (aW aP (qd a2 e (ae (aa 3) (ae am ah))) (qd a2 e (ae (aa 3) (ae am ah)))))
   (dn (ak (cV (bz (mm e.units) (qd Y0 e (ae (aa 0) (ae am ah))) am nbh) (ao (z8 (aa 8) (G0 Ij am) (aZ a7 (aa 9) (qd Y0 e (ae (aa 0) (ae (aU cM rfl T.b_len (by kernel_rfl) (ae (aa 9) ah)) ah))) (λ_ _=>rfl)))) bW)
   (ao (iQ (cB fB rfl T.b_tuple (by kernel_rfl) (ae (aa 8) ah))))))))))))))))))),λds M R _ hS bk=>?_⟩)
 obtain⟨p,l,az,ord,u,ag,O,J,rfl,hM,hP,h,h2,hw,d6,d5,k⟩:=hS;have ho:=h.o;refine bk ?_;clear bk;walk_at"";have hx:(aT J).length<=3:=by rw[(br _).length_eq];exact d5
 obtain⟨N,S⟩:∃N,N=aB (aT J) 1++aB (aT J) 2:=⟨_,rfl⟩;have a6:∀r∈N,r.length<=2/\∀x∈r,x∈J:=λr e=>by
  rw[S]at e;rcases P0.mp e with z|z
  ·exact⟨by rw[de z];decide,λx Q=>(br J).mem_iff.mp (iE z x Q)⟩
  ·exact⟨by rw[de z];decide,λx Q=>(br J).mem_iff.mp (iE z x Q)⟩
 have c5:N.length<=12:=by
  rw[S,O6];have a:=eJ hx 1;have b:=eJ hx 2
  lia
 have d2:[O]∈N:=by
  rw[S];refine ab5 _ ?_;simp only[aB,Z4,P4];exact⟨[],by simp,O,(br J).mem_iff.mpr d6,rfl⟩
 have a8:gM (D.lst ((aB (aT J) 1).map wsD)) (D.lst ((aB (aT J) 2).map wsD))=some (D.lst (N.map wsD)):=by
  rw[S,P7];exact if_pos (sz3 _ (by rw[S,O6]at c5;simp;exact N3 (by assumption) (by decide)))
 refine⟨J,1,rfl,by exact N3 (by assumption) (by decide),by decide,J,2,rfl,by exact N3 (by assumption) (by decide),by decide,_,a8,_,rfl,λhz=>⟨hz,?_⟩⟩;refine aY wsD (λr=>decide (O∈r)) wsD (λΔ=>∃x,Δ=[none,none,some (D.str O),none,none,none,none,none,none,none,x]) N _ _ (λr e Δ a'=>?_) ⟨none,rfl⟩ ?_
 ·obtain⟨x,rfl⟩:=a';refine⟨_,rfl,⟨_,rfl⟩,λQ1 q=>?_,λ_ Q2 q=>?_⟩
  ·simp only[wsD];walk_at"";refine⟨_,if_pos ⟨rfl,Mj⟩,_,rfl,?_⟩;rw[LO,ae9];exact q
  ·walk_at"";exact q
 rw[P1];obtain⟨g,j⟩:∃g,g=N.filter λr=>decide (O∈r):=⟨_,rfl⟩;have B:∀r∈g,r∈N:=λr e=>by rw[j]at e;exact(W4.mp e).1
 have Z:[O]∈g:=by rw[j];exact W4.mpr ⟨d2,by simp⟩
 have b4:g.length<=12:=by rw[j];exact N3 (aa8 _ _) c5
 rw[<-j];clear j d2;refine bL ?_;simp only[bJ];walk_at"";simp only[<-bJ.eq_1];obtain⟨C,G⟩:∃C,C=aB (sgs [u]) 2++aB (sgs [u]) 1:=⟨_,rfl⟩;have c6:C.length=12:=by rw[G];rfl
 have c2:∀x∈[u],x∈az:=λx Q=>by rw[N8.mp Q];exact h.g
 have b8:∀kd∈C,kd.length<=2/\SgM az 1 kd:=λkd hk=>by
  rw[G]at hk;rcases P0.mp hk with z|z
  ·exact⟨by rw[de z];decide,λs hs=>uY c2 s (iE z s hs)⟩
  ·exact⟨by rw[de z];decide,λs hs=>uY c2 s (iE z s hs)⟩
 have U:gM (D.lst ((aB (sgs (aT [u])) 2).map au)) (D.lst ((aB (sgs (aT [u])) 1).map au))=some (D.lst (C.map au)):=by
  have e2:(aB (sgs [u]) 2).length=9:=rfl;have e1:(aB (sgs [u]) 1).length=3:=rfl;have hz:((aB (sgs [u]) 2).map au).length+((aB (sgs [u]) 1).map au).length<=N7:=by rw[s0,s0,e2,e1];exact sz3 12
  rw[Dy,G,P7];exact(if_pos hz:(if((aB (sgs [u]) 2).map au).length+((aB (sgs [u]) 1).map au).length<=N7 then some (D.lst ((aB (sgs [u]) 2).map au++(aB (sgs [u]) 1).map au))else none)=_)
 refine⟨sz3 1,[u],2,rfl,by simp,by decide,sz3 1,[u],1,rfl,by simp,by decide,_,U,bL ?_⟩;clear G U;walk_at"";rw[s0,c6];refine⟨p,l,12,rfl,hM,hP,by decide,by decide,λv l1 v0 v1 b'=>?_⟩;obtain⟨n,rfl⟩:=Z0 v0;obtain⟨kd,c3⟩:∃kd,C[n]?=some kd:=⟨_,N0 (by lia)⟩;have b6:=b8 kd (P3 c3);have hq:=h.with h2 hw b6.1 b6.2
 have e5:=hq.l.2;refine⟨au kd,cf (by rw[Q6,c3];rfl),ord,u,ag,O,kd,rfl,by exact N3 (by assumption) (by decide),bL ?_⟩;walk_at"";refine λhz=>⟨hz,aY wsD (λr=>decide (0<xV ord u (bA ag O [kd]) r)) wsD (λΔ=>∃x,Δ=[none,none,none,none,none,none,some (bJ ord u (bA ag O [kd])),none,none,none,x]) g _ _ (λr e Δ a'=>?_) ⟨none,rfl⟩ ?_⟩
 ·obtain⟨x,rfl⟩:=a';have e6:=(a6 r (B r e)).1;refine⟨_,rfl,⟨_,rfl⟩,λQ1 q=>?_,λ_ Q2 q=>?_⟩
  ·walk_at"";exact⟨ord,u,_,r,rfl,by exact N3 (by assumption) (by decide),by exact N3 (by assumption) (by decide),hq.n,hq.ok,by exact N3 (by assumption) (by decide),_,rfl,q⟩
  ·walk_at"";exact q
 rw[P1];obtain⟨L,a1⟩:∃L,L=g.filter λr=>decide (0<xV ord u (bA ag O [kd]) r):=⟨_,rfl⟩;have b3:∀r∈L,r∈g:=λr e=>by rw[a1]at e;exact(W4.mp e).1
 have c':L.length<=12:=by rw[a1];exact N3 (aa8 _ _) b4
 rw[<-a1];clear a1;refine bL ?_;refine B5 (λc4 M'=>∃L l',c4=[some (D.ref p),some (bJ ord u ag),some (D.str O),some (D.lst (J.map D.str)),some (D.lst (g.map wsD)),some (D.lst (C.map au)),some (bJ ord u (bA ag O [kd])),some (D.lst (L.map wsD)),none,none]/\M'=ay M p (.lst l')/\bu l'/\L≠[]/\L.length<=12/\∀r∈L,r∈g) (λnx a9=>?_) ?_
 ·walk_at"";refine⟨O3 _,_,JK,_,rfl,fw (λc=>a9 _ _ ⟨g,l1,rfl,rfl,b',List.ne_nil_of_mem Z,b4,λr e=>e⟩) (λc=>?_)⟩;refine⟨p,l1,4,rfl,aq,b',by decide,by decide,λv2 l2 b0 b1 a3=>?_⟩;rw[aF];exact⟨_,rfl,_,rfl,fw (λ_=>a9 _ _ ⟨g,l2,rfl,rfl,a3,List.ne_nil_of_mem Z,b4,λr e=>e⟩) (λ_=>a9 _ _ ⟨L,l2,rfl,rfl,a3,by simpa using c,c',b3⟩)⟩
 rintro c4 M' ⟨L,l2,rfl,rfl,a3,b9,c',b3⟩;refine bL ?_;walk_at"";have e4:=ap1.mpr b9;refine⟨p,l2,2,rfl,aq,a3,by decide,by decide,λv3 l3 c0 c1 d'=>⟨.int (1+v3),rfl,_,rfl,by lia,by lia,by rw[bT];exact sz3 _ (by lia),?_⟩⟩;rw[aF];refine C4 (λi b2 Δ M'=>∃x fs l',Δ=[some (D.ref p),none,none,none,none,none,none,some (D.lst (L.map wsD)),none,none,x]/\M'=ay M p (.lst l')/\bu l'/\b2=fs.map wsD/\fs.length=i/\∀r∈fs,r∈N) ⟨none,[],l3,rfl,rfl,d',rfl,rfl,λ_ z=>by cases z⟩ ?_ ?_
 ·rintro i d b2 Δ M' X' hd ⟨x,fs,l',rfl,rfl,e3,rfl,b5,a0⟩ k2;obtain⟨hi,rfl⟩:=cD hd;refine⟨_,rfl,?_⟩;simp only[yz];walk_at"";rw[s0];refine⟨p,l',_,rfl,aq,e3,by lia,by lia,λv4 l5 d0 d1 a5=>?_⟩;obtain⟨m,rfl⟩:=Z0 d0;obtain⟨r,e⟩:∃r,L[m]?=some r:=⟨_,N0 (by lia)⟩;rw[aF];refine⟨wsD r,cf (by rw[Q6,e];rfl),k2 _ _ _ ⟨_,fs++[r],l5,rfl,rfl,a5,by rw[P7];rfl,by rw[O6,b5];rfl,λz hz=>?_⟩⟩;rcases P0.mp hz with z'|z'
  ·exact a0 z z'
  ·rw[N8.mp z'];exact B r (b3 r (P3 e))
 rintro b2 Δ M' ⟨x,fs,l4,rfl,rfl,d3,rfl,b5,a0⟩ q a4;rw[bT]at b5;have X:p≠q:=by rintro rfl;rw[aq]at a4;cases a4
 have d9:M q=none:=by rw[aA (aa3 X)]at a4;exact a4
 refine bL ?_;walk_at"";refine⟨J,1,rfl,by exact N3 (by assumption) (by decide),by decide,J,2,rfl,by exact N3 (by assumption) (by decide),by decide,_,a8,bL ?_⟩;walk_at"";have e7:0<N.length:=List.length_pos_of_mem (B _ Z);refine⟨p,l4,4,rfl,by rw[aA X,aq],d3,by decide,by decide,λv5 l5 e0 e1 a5=>?_⟩;have em:∀l l' o,ay (ay (ay M p (.lst l)) q o) p (.lst l')=ay (ay M p (.lst l')) q o:=λl l' o=>by rw[<-cp X,aF]
 have le:∀l o,LeM (ay M p (.lst l)) (ay (ay M p (.lst l)) q o):=λl o=>o6 (by rw[aA (aa3 X)];exact d9);rw[em];refine⟨_,rfl,_,rfl,fw (λ_=>?_) (λ_=>?_)⟩
 ·rw[s0];refine⟨p,l5,_,rfl,by rw[aA X,aq],a5,by lia,by lia,λv6 l6 f0 f1 d4=>?_⟩;rw[em];obtain⟨m,rfl⟩:=Z0 f0;obtain⟨r,e⟩:∃r,N[m]?=some r:=⟨_,N0 (by lia)⟩;refine⟨wsD r,cf (by rw[Q6,e];rfl),_,aq,fs.length-1,?_,ay M p (.lst l6),?_,?_⟩
  ·rw[s0];unfold ixN;simp
   lia
  ·rw[aF];exact le _ _
  ·rw[show(fs.map wsD).set (fs.length-1) (wsD r)=(fs.set (fs.length-1) r).map wsD by rw[List.map_set]];refine k _ l6 (by rw[List.length_set];lia) (λz hz=>?_) d4;rcases List.mem_or_eq_of_mem_set hz with z'|z'
   ·exact a6 z (a0 z z')
   ·rw[z'];exact a6 r (P3 e)
 ·exact⟨.tup (fs.map wsD),by rw[pd aq];rfl,ay M p (.lst l5),le _ _,k fs l5 (by lia) (λr e=>a6 r (a0 r e)) a5⟩
theorem uo{w:Str}(h:eX w):bF w:=by
 obtain⟨g,i,a⟩:=h;have e:w.length=w.cps.toList.length:=by show w.cps.size=_;simp
 refine⟨by assumption,by assumption,λc f=>?_⟩;have:=a c f;unfold qu at this;unfold gU;rw[List.mem_range'_1]
 lia
theorem rm:∀{a b:List Row},dh (a.map au) (b.map au)=decide (a=b)
 |[],[]=>by simp[dh]
 |[],_::_=>by simp[dh]
 |_::_,[]=>by simp[dh]
 |x::a,y::b=>by
  rw[N5,N5,dh,rm (a:=a) (b:=b),zy];simp
theorem Ia{l:List Row}:neF (.lst (l.map au)) (.lst (l.map au))=some (.bl false):=by
 have a:dLe (.lst (l.map au)) 60=true:=eC au λ_=>fU;simp only[neF,a,and_self,if_true,eqD,rm];simp
theorem HL{l:List Row}:eqF (.lst (l.map au)) (.lst (l.map au))=some (.bl true):=by
 have a:dLe (.lst (l.map au)) 60=true:=eC au λ_=>fU;simp only[eqF,a,and_self,if_true,eqD,rm];simp
theorem xq{f:Nat->List Row}{m:Nat}:∀{l:List Nat},(∀n∈l,(f n).length<=m)->(se f l).length<=m
 |[],_=>O3 _
 |n::l,h=>by
  unfold se
  split
  ·exact xq λj a=>h j (.tail _ a)
  ·exact h n (.head _)
theorem E6{g:List Str}{ord:List (Str×Str)}{ai:Str}{ag:List (Str×List Row)}{w:Str}{book:List (List Str)}{size:Nat}(h:LQ g ord ai ag)(i:ag.length<=2)(hs:size<=2):(lrn ord ai ag w book size).length<=3600:=by
 refine xq λn j=>?_;have f:=R0.mp j;have a:=aa8 (λk=>jK ord ai (bA ag w [k]) book) (aB (sgs (mks ord ai ag)) n);have e:=u9 (ai:=ai) h.o i h.ok;have c:=eJ (m:=60) (xs:=sgs (mks ord ai ag)) (by have:=lX (mks ord ai ag);lia) n;have d:60 ^ n<=3600:=N3 (W3 (by decide) (show n<=2 by lia)) (by decide);unfold pG
 lia
def S_law:SpD:=λe M R=>∃a:List Int,e=[.scr (a.map .int)]/\M=noM/\a.length<=63/\∀c,R (.bl true) c
theorem IP(F:Fun K "law" "law" Cw f Y)(T:Txt K I)(c3:FnD P w K I base "_law_pool" 1 1 wR)(a8:FnD P w K I base "_law_some_words" 3 2 jJ)(c6:FnD P w K I base "_law_lexicon" 3 4 oj)(c4:FnD P w K I base "_law_book" 5 4 wX)(Y0:FnD P w K I base "_law_draw" 1 2 dw)(a':FnD P w K I base "_law_due" 5 4 zU)(a4:FnD P w K I base "learnt" 13 4 rD)(b5:FnD P w K I base "_law_cell" 1 2 wf)(b6:FnD P w K I base "_law_word" 2 2 lT):aV P w K I base CX0 14 f Y ["_law_script"] (spD K 1 S_law):=by
 have o:=DF.nd;refine F.okR rfl DF (λd' A b9 s H E j=>⟨_,(ak (aK (i:=1) o rfl (R8 rfl) (qd c3 j (ae (qd b5 j (ae (aa 0) (ae am ah))) ah)))
   (dn (ak (aK (i:=2) o rfl (R8 rfl) (qd a8 j (ae (aa 1) (ae (aW aP am (qd Y0 j (ae (aa 1) (ae am ah)))) ah))))
   (dn (ak (aK (i:=3) o rfl (R8 rfl) (qd a8 j (ae (aa 1) (ae (aW aP am (qd Y0 j (ae (aa 1) (ae am ah)))) ah))))
   (dn (ak (aK (i:=4) o rfl (R8 rfl) (qd c6 j (ae (aa 1) (ae (aa 2) (ae (aa 3) (ae am ah))))))
   (dn (ak (aK (i:=5) o rfl (R8 rfl) (aZ a7 (cU (ae (aZ a7 (aa 3) am (λ_ _=>rfl)) (ae (qd b6 j (ae (aa 1) (ae (aa 3) ah))) ah))) (qd Y0 j (ae (aa 1) (ae am ah))) (λ_ _=>rfl)))
   (dn (ak (aK (i:=6) o rfl (R8 rfl) (qd c4 j (ae (aa 1) (ae (aa 4) (ae (aa 5) (ae (Jf rfl rfl T.b_sorted rfl T.b_set (aW aP (aa 3) (cU (ae (aa 5) ah)))) ah))))))
   (dn (ak (aK (i:=7) o rfl (R8 rfl) (qd Y0 j (ae (aa 1) (ae am ah))))
   (dn (ak (aK (i:=8) o rfl (R8 rfl) (qd a' j (ae (aa 4) (ae (aa 5) (ae (aa 6) (ae (aa 7) ah))))))
   (dn (ak (aK (i:=9) o rfl (R8 rfl) (qd a4 j (ae (aa 4) (ae (aa 5) (ae (aa 6) (ae (aa 7) ah))))))
   (dn (ak (cV (yI (zE (qq (dP (iu (Tn:="list") (by decide) rfl T.b_isinstance rfl T.b_list (by kernel_rfl) (aa 9)))) (u5 (bz (Iz j.units) (aa 9) (aa 8) nbh)))) (ao (aN Ax)) bW)
   (dn (ak (gb (og (aa 9) (bt ah)))
   (ao (aN (fW (mm j.units) (qd a4 j (ae (aa 4) (ae (aa 5) (ae (aa 6) (ae (aa 7) ah))))) (aa 8) nbh)))))))))))))))))))))))),λds M R _ hS bk=>?_⟩)
 obtain⟨ns,rfl,rfl,hn,k⟩:=hS;refine bk ?_;clear bk;walk_at"";refine⟨ns,0,rfl,by decide,by exact N3 (by assumption) (by decide),_,rfl,λp l hp hP=>bL ?_⟩;have a3:∀l',bu l'->∀a k,ay noM p (.lst l') a=some k->noC k=true:=λl' h' a k e=>by
  by_cases c:a=p
  ·rw[c,aq]at e;cases e;exact sQ h'
  ·rw[aA c]at e;cases e
 walk_at"";refine⟨p,l,3,rfl,aq,hP,by decide,by decide,λv l1 h0 h1 O=>?_⟩;rw[aF];refine⟨.int (1+v),rfl,p,l1,_,rfl,aq,O,by lia,by lia,λa k e _=>a3 l1 O a k e,λu l2 a9 e1 d9 d1=>bL ?_⟩;rw[aF];have a5:1<=u.length/\u.length<=3:=by lia
 walk_at"";refine⟨p,l2,2,rfl,aq,d1,by decide,by decide,λv2 l3 a0 a1 U=>?_⟩;rw[aF];refine⟨.int (1+v2),rfl,p,l3,_,rfl,aq,U,by lia,by lia,λa k e _=>a3 l3 U a k e,λg l4 a6 b8 d7 b2=>bL ?_⟩;rw[aF];have d6:1<=g.length/\g.length<=2:=by lia
 have a2:u≠[]:=λz=>by rw[z]at a5;simp at a5
 walk_at"";refine⟨p,l4,u,g,2,rfl,aq,b2,a2,by lia,by lia,by decide,by decide,λord Z C l5 ho m he c' c5 b'=>bL ?_⟩;rw[aF];have e2:C.length=g.length:=by rw[<-m,s0]
 have X:LQ u ord Z C:=⟨λx hx=>uo (a9 x hx),ho,c',c5,by rw[m];exact b8,λx hx=>uo (a6 x (by rw[<-m];exact hx)),by lia,he⟩;walk_at"";obtain⟨J,N⟩:∃J,g[0]?=some J:=⟨_,N0 (by lia)⟩;refine⟨.str J,cf (by rw[Q6,N];rfl),p,l5,g,rfl,aq,b',by lia,λwn l6 L d4 b3=>⟨sz3 2,?_⟩⟩;rw[aF];refine⟨p,l6,2,rfl,aq,b3,by decide,by decide,λv3 l7 b0 b1 d0=>?_⟩;rw[aF];obtain⟨n,d2,b4⟩:∃n,atI [D.str J,D.str wn] v3=some (.str n)/\eX n:=by
  rcases(show v3=0∨v3=1 by lia)with z|z
  ·rw[z];exact⟨J,CU,a6 J (P3 N)⟩
  ·rw[z];exact⟨wn,GG,L⟩
 have B:=uo b4;refine⟨.str n,d2,bL ?_⟩;walk_at"";have d3:(aT (dg (g++[n]))).length<=3:=by
  rw[(br _).length_eq];have:=mr (g++[n]);simp only[O6,af3]at this
  lia
 have Q:∀x,x∈aT (dg (g++[n]))↔x∈g∨x=n:=λx=>by rw[(br _).mem_iff,mH];simp
 refine⟨sz3 1,_,if_pos (sz3 _ (by simp;lia)),g++[n],by rw[P7];rfl,by simp;lia,?_⟩;refine⟨p,l7,u,ord,Z,C,n,_,rfl,aq,d0,X,by lia,B,(Q _).mpr (.inr rfl),d3,λh l8 d8 S c2=>bL ?_⟩;rw[aF];have G:Jt C n h:=⟨by exact N3 (by assumption) (by decide),λr j=>⟨(S r j).1,λx hx=>((Q x).mp ((S r j).2 x hx)).elim (λz=>.inr (by rw[m];exact z)) .inl⟩⟩;walk_at"";refine⟨p,l8,3,rfl,aq,c2,by decide,by decide,λv4 l9 c0 c1 d5=>bL ?_⟩;rw[aF];obtain⟨size,rfl⟩:=Z0 c0;walk_at"";refine⟨u,ord,Z,C,n,h,size,rfl,X,by lia,B,G,by lia,λM2 e3=>bL ?_⟩;walk_at"";refine⟨u,ord,Z,C,n,h,size,rfl,X,by lia,B,G,by lia,λq hq=>bL ?_⟩;walk_at"";refine⟨true,rfl,?_⟩;rw[if_neg (by simp)];refine⟨_,Ia,_,rfl,?_⟩;rw[if_neg (by simp)];refine bL ?_;walk_at"";have e4:=E6 (w:=n) (book:=h) X (by lia) (show size<=2 by lia);refine⟨O3 _,by rw[s0,O7];lia,u,ord,Z,C,n,h,size,rfl,X,by lia,B,G,by lia,λq2 e0=>⟨.bl true,by rw[pd aq];exact HL,k _⟩⟩
end
theorem Lc:JZ S_law:=λc R e a=>⟨c,rfl,rfl,e,a⟩
theorem Jb{l:PySem.W.OpenLaw}{w:U9}{K:u8}{h:Q9}{mg:Str->Option M0}{fa:O1}(X:K.In h)(G:h.Ns R3 mg)(r9:mg "law"=some (.ref fa))
  {C:O1}
  {f0:O1} {d0:P5}
  {f1:O1} {d1:P5}
  {f2:O1} {d2:P5}
  {f3:O1} {d3:P5}
  {f4:O1} {d4:P5}
  {f5:O1} {d5:P5}
  {f6:O1} {d6:P5}
  {f7:O1} {d7:P5}
  {f8:O1} {d8:P5}
  {f9:O1} {d9:P5}
  {s3:O1} {d10:P5}
  {f11:O1} {d11:P5}
  {s2:O1} {p4:P5}
  {f13:O1} {d13:P5}
  {f14:O1} {z1:P5}
  {f15:O1} {s1:P5}
  {t3:O1} {p2:P5}
  {s4:O1} {d17:P5}
  {q6:O1} {v2:P5}
  {f19:O1} {d19:P5}
  {v5:O1} {n0:P5}
  {r0:O1} {s6:P5}
  {p5:O1} {v':P5}
  {f23:O1} {r3:P5}
  {q1:O1} {d24:P5}
  {f25:O1} {d25:P5}
  {y9:O1} {s':P5}
  {y6:O1} {v0:P5}
  {s8:O1} {v4:P5}
  {f29:O1} {d29:P5}
  {f30:O1} {d30:P5}
  {f31:O1} {s7:P5}
  {f32:O1} {q3:P5}
  {y':O1} {o2:P5}
  {f34:O1} {t0:P5}
  {z2:O1} {w8:P5}
  {u2:O1} {q':P5}
  {w3:O1} {w4:P5}
  {n7:O1} {d38:P5}
  {f39:O1} {d39:P5}
  {l':O1} {w7:P5}
  {f41:O1} {d41:P5}
  {v3:O1} {d42:P5}
  {w2:O1} {t1:P5}
  {f44:O1} {d44:P5}
  {q8:O1} {d45:P5}
  {m':O1} {l9:P5}
  {f47:O1} {y8:P5}
  {f48:O1} {d48:P5}
  {f49:O1} {q4:P5}
  {f50:O1} {t2:P5}
  {f51:O1} {d51:P5}
  {f52:O1} {l8:P5}
  {f53:O1} {d53:P5}
  {v6:O1} {q9:P5}
  {l0:O1} {d55:P5}
  {s5:O1} {y7:P5}
  {z7:O1} {d57:P5}
  {r1:O1} {d58:P5}
  {v1:O1} {n2:P5}
  {p0:O1} {d60:P5}
  {t':O1} {d61:P5}
  {f62:O1} {d62:P5}
  {w5:O1} {d63:P5}
  {r6:O1} {u':P5}
  {z:O1} {Q:Nat} {S:Array (Option M0)} {I L J:Tok}
  {A:O1} {a0:Nat} {R:Array (Option M0)} {O N M:Tok}
  {a:Tok}
  {e:Tok}
  {j:Tok}
  {o:Tok}
  {c:Tok}
  {m:Tok}
  {n:Tok}
  (x0:bf K "is_whole" iX f0 d0)
  (x1:bf K "is_tuple_of" eZ f1 d1)
  (x2:bf K "is_short_word" cL f2 d2)
  (x3:bf K "are_alike" gQ f3 d3)
  (x4:bf K "tuples_of" eB f4 d4)
  (x5:bf K "reached_from" dS f5 d5)
  (x6:bf K "are_unlike" fS f6 d6)
  (x7:bf K "words_of" ft f7 d7)
  (x8:bf K "marks_of" dv f8 d8)
  (x9:bf K "goals_wish" fV f9 d9)
  (h0:bf K "places_of" eh s3 d10)
  (k1:bf K "last_place" fJ f11 d11)
  (e2:bf K "sign_behind" eW s2 p4)
  (b2:bf K "next_place" fF f13 d13)
  (g5:bf K "begins_behind" cO f14 z1)
  (c':bf K "counts_from" fb f15 s1)
  (b1:bf K "count_of_all" dW t3 p2)
  (c5:bf K "_law_cell" pO s4 d17)
  (k4:bf K "_law_pool" rC q6 v2)
  (k2:bf K "_law_draw" qM f19 d19)
  (k0:bf K "_law_at_most" gG v5 n0)
  (i3:bf K "_law_rows" lS r0 s6)
  (h3:bf K "_law_with" jO p5 v')
  (d':bf K "_law_candidates" dA f23 r3)
  (g':bf K "_law_marks" kf q1 d24)
  (e5:bf K "is_mark" jx f25 d25)
  (e8:bf K "at_most" jW y9 s')
  (k':bf K "is_turn" jL y6 v0)
  (j1:bf K "has_word" iW s8 v4)
  (h1:bf K "_law_word" iw f29 d29)
  (b6:bf K "_law_order" nM f30 d30)
  (e0:bf K "_law_kinds" nL f31 s7)
  (c6:bf K "_law_cancels" jU f32 q3)
  (g0:bf K "is_pair" jG y' o2)
  (e7:bf K "is_sign" jv f34 t0)
  (b':bf K "mark_leads" gk z2 w8)
  (e4:bf K "kinds_of" iP u2 q')
  (g1:bf K "_law_some_words" fL w3 w4)
  (i':bf K "_law_lexicon" gC n7 d38)
  (j':bf K "_law_wholly" lA f39 d39)
  (c3:bf K "is_order" fj l' w7)
  (i1:bf K "is_row" iU f41 d41)
  (h9:bf K "cancel" lg v3 d42)
  (e6:bf K "refuse_other_words" cw w2 t1)
  (f':bf K "kinds_by_number" c7 f44 d44)
  (c4:bf K "_law_is_sentence" cJ q8 d45)
  (h2:bf K "is_kind" jz m' l9)
  (h6:bf K "are_joined" gq f47 y8)
  (e9:bf K "refuse_other_words_of_book" bc f48 d48)
  (g4:bf K "_law_book" il f49 q4)
  (g3:bf K "_law_due" oZ f50 t2)
  (b5:bf K "are_kinds" dY f51 d51)
  (i0:bf K "first_steps" cG f52 l8)
  (b4:bf K "is_entry" iA f53 d53)
  (h5:bf K "are_entries" cH v6 q9)
  (m0:T7 K R3 "Chart"=some (some (.ref C))) (m1:PySem.W.makesIn K C=true) (m2:aa9 K (.ref C) "__init__"=some (some (.ref l0))) (m3:PySem.W.isFn K (.ref l0)=true) (m4:ag5 K (.ref C)=true)
  (y1:as8 K C Str.empty=true) (y2:ar0 K C=true) (y3:PySem.W.plainOver K C=true) (y4:aa9 K (.ref C) "__setattr__"=some (some (.builtin "object.__setattr__")))
  (a5:aa9 K (.ref C) "kinds"=some none)
  (b9:aa9 K (.ref C) "end"=some none)
  (a3:aa9 K (.ref C) "steps"=some none)
  (U:aa9 K (.ref C) "counts"=some none)
  (l6:Fun K "__init__" "Chart.__init__" nT l0 d55)
  (h4:bf K "is_lexicon" gj s5 y7)
  (g2:bf K "chart_of" iD z7 d57)
  (c1:bf K "many" pJ r1 d58)
  (c2:bf K "lexicon_with" dU v1 n2)
  (e1:bf K "is_sentence" eY p0 d60)
  (e3:bf K "put_in" lC t' d61)
  (e':bf K "are_sentences" dF f62 d62)
  (l1:bf K "learnt" gc w5 d63)
  (l5:bf K "law" Cw r6 u')
  (u:T7 K R3 "isinstance"=some none)
  (j2:T7 K R3 "int"=some none)
  (a':T7 K R3 "bool"=some none)
  (a8:T7 K R3 "tuple"=some none)
  (c0:T7 K R3 "len"=some none)
  (i2:T7 K R3 "str"=some none)
  (k3:T7 K R3 "all"=some none)
  (a1:T7 K R3 "range"=some none)
  (h':T7 K R3 "set"=some none)
  (Y:T7 K R3 "sorted"=some none)
  (E:T7 K R3 "enumerate"=some none)
  (b3:T7 K R3 "max"=some none)
  (b0:T7 K R3 "list"=some none)
  (b8:T7 K R3 "abs"=some none)
  (h8:T7 K R3 "any"=some none)
  (H:T7 K R3 "reversed"=some none)
  (a4:T7 K R3 "START"=some (some (.ref z))) (a9:K.lookup z=some ⟨.type "tuple",none,.seq #[.int (-1) I,.int (0) L,.int (0) J] Q,S⟩)
  (a6:T7 K R3 "TURNS"=some (some (.ref A))) (a2:K.lookup A=some ⟨.type "tuple",none,.seq #[.int (-1) O,.int (0) N,.int (1) M] a0,R⟩)
  (f:T7 K R3 "SMALL_LETTERS"=some (some (.str "abcdefghijklmnopqrstuvwxyz" a)))
  (i:T7 K R3 "MOST_LETTERS"=some (some (.int 8 e)))
  (x:T7 K R3 "MOST_PAIRS"=some (some (.int 8 j)))
  (B:T7 K R3 "MOST_TURN"=some (some (.int 99 o)))
  (g:T7 K R3 "MOST_ENTRIES"=some (some (.int 10 c)))
  (p:T7 K R3 "MOST_KINDS"=some (some (.int 4 m)))
  (q:T7 K R3 "MOST_SIGNS"=some (some (.int 5 n)))
 :∃fd:P5,(∀(s:N1) (v:M0),az5 s fd ⟨[v],[]⟩ [("_law_script",v)])/\∀base:Q9,K.In base->base.Ns R3 mg->aV l.prog w K mg base CX0 14 fa fd ["_law_script"] (spD K 1 S_law):=by
 have T:Txt K mg:=⟨⟨_,ac1 X G a4,.inr ⟨_,_,_,a9,⟨rfl,rfl⟩,rfl,szB 3,(.cons ⟨_,rfl⟩ (.cons ⟨_,rfl⟩ (.cons ⟨_,rfl⟩ .nil)))⟩⟩,⟨_,ac1 X G a6,.inr ⟨_,_,_,a2,⟨rfl,rfl⟩,rfl,szB 3,(.cons ⟨_,rfl⟩ (.cons ⟨_,rfl⟩ (.cons ⟨_,rfl⟩ .nil)))⟩⟩,U1 X G u,U1 X G j2,U1 X G a',U1 X G a8,U1 X G c0,U1 X G i2,U1 X G k3,U1 X G a1,U1 X G h',U1 X G Y,U1 X G E,U1 X G b3,U1 X G b0,U1 X G b8,U1 X G h8,U1 X G H,⟨_,ac1 X G f⟩,⟨_,ac1 X G i⟩,⟨_,ac1 X G x⟩,⟨_,ac1 X G B⟩,⟨_,ac1 X G g⟩,⟨_,ac1 X G p⟩,⟨_,ac1 X G q⟩⟩;have Z:mN K C:=⟨⟨y1,y2,y3,y4⟩,a5,b9,a3,U⟩;refine HH X G r9 l5 (λ_ _ _ _ _ _ _=>rfl) λbase=>?_;have p3:=fg X G x0 (sy (P:=l.prog) (w:=w) (base:=base) x0.F T ) (bd1 x0.F λ_ _ _ _ _ _ _=>rfl);have Y1:=fg X G x1 (m9 (P:=l.prog) (w:=w) (base:=base) x1.F T ) (bd2 x1.F λ_ _ _ _ _ _ _ _=>rfl);have Y3:=fg X G x2 (lE (P:=l.prog) (w:=w) (base:=base) x2.F T ) (bd1 x2.F λ_ _ _ _ _ _ _=>rfl);have gc5:=fg X G x3 (qz (P:=l.prog) (w:=w) (base:=base) x3.F T ) (bd2 x3.F λ_ _ _ _ _ _ _ _=>rfl);have q0:=fg X G x4 (qU (P:=l.prog) (w:=w) (base:=base) x4.F T ) (bd2 x4.F λ_ _ _ _ _ _ _ _=>rfl);have ga8:=fg X G x5 (mh (P:=l.prog) (w:=w) (base:=base) x5.F T ) (bd2 x5.F λ_ _ _ _ _ _ _ _=>rfl);have Y9:=fg X G x6 (oS (P:=l.prog) (w:=w) (base:=base) x6.F T ) (bd1 x6.F λ_ _ _ _ _ _ _=>rfl);have Y6:=fg X G x7 (sj (P:=l.prog) (w:=w) (base:=base) x7.F T ) (bd1 x7.F λ_ _ _ _ _ _ _=>rfl);have gd3:=fg X G x8 (rX (P:=l.prog) (w:=w) (base:=base) x8.F T ) (bd1 x8.F λ_ _ _ _ _ _ _=>rfl);have gb8:=fg X G x9 (oB (P:=l.prog) (w:=w) (base:=base) x9.F T ) (bd1 x9.F λ_ _ _ _ _ _ _=>rfl);have r2:=fg X G h0 (p6 (P:=l.prog) (w:=w) (base:=base) h0.F T ) (bd1 h0.F λ_ _ _ _ _ _ _=>rfl);have n1:=fg X G k1 (oC (P:=l.prog) (w:=w) (base:=base) k1.F T ) (bd1 k1.F λ_ _ _ _ _ _ _=>rfl);have ga3:=fg X G e2 (nK (P:=l.prog) (w:=w) (base:=base) e2.F T ) (bd2 e2.F λ_ _ _ _ _ _ _ _=>rfl);have z0:=fg X G b2 (oP (P:=l.prog) (w:=w) (base:=base) b2.F T ) (bd1 b2.F λ_ _ _ _ _ _ _=>rfl);have ga7:=fg X G g5 (lD (P:=l.prog) (w:=w) (base:=base) g5.F T ) (bd2 g5.F λ_ _ _ _ _ _ _ _=>rfl);have gb2:=fg X G c' (nz (P:=l.prog) (w:=w) (base:=base) c'.F T Z ) (bd2 c'.F λ_ _ _ _ _ _ _ _=>rfl);have ga9:=fg X G b1 (mQ (P:=l.prog) (w:=w) (base:=base) b1.F T Z ) (bd1 b1.F λ_ _ _ _ _ _ _=>rfl);have z':=fg X G c5 (Bo (P:=l.prog) (w:=w) (base:=base) c5.F T ) (bd2 c5.F λ_ _ _ _ _ _ _ _=>rfl);have gf3:=fg X G k4 (A5 (P:=l.prog) (w:=w) (base:=base) k4.F T ) (bd1 k4.F λ_ _ _ _ _ _ _=>rfl);have Y0:=fg X G k2 (AI (P:=l.prog) (w:=w) (base:=base) k2.F T ) (bd2 k2.F λ_ _ _ _ _ _ _ _=>rfl);have gc4:=fg X G k0 (uP (P:=l.prog) (w:=w) (base:=base) k0.F T ) (bd3 k0.F λ_ _ _ _ _ _ _ _ _=>rfl);have n':=fg X G i3 (Bk (P:=l.prog) (w:=w) (base:=base) i3.F T ) (bd2 i3.F λ_ _ _ _ _ _ _ _=>rfl);have l3:=fg X G h3 (AR (P:=l.prog) (w:=w) (base:=base) h3.F T ) (bd3 h3.F λ_ _ _ _ _ _ _ _ _=>rfl);have Y7:=fg X G d' (oO (P:=l.prog) (w:=w) (base:=base) d'.F T ) (bd2 d'.F λ_ _ _ _ _ _ _ _=>rfl);have ge7:=fg X G g' (yg (P:=l.prog) (w:=w) (base:=base) g'.F T ) (bd1 g'.F λ_ _ _ _ _ _ _=>rfl);have Y4:=fg X G e5 (uD (P:=l.prog) (w:=w) (base:=base) e5.F T Y3) (bd1 e5.F λ_ _ _ _ _ _ _=>rfl);have z3:=fg X G e8 (uh (P:=l.prog) (w:=w) (base:=base) e8.F T ga8) (bd3 e8.F λ_ _ _ _ _ _ _ _ _=>rfl);have q5:=fg X G k' (u0 (P:=l.prog) (w:=w) (base:=base) k'.F T p3) (bd1 k'.F λ_ _ _ _ _ _ _=>rfl);have l7:=fg X G j1 (sk (P:=l.prog) (w:=w) (base:=base) j1.F T Y3 Y6) (bd2 j1.F λ_ _ _ _ _ _ _ _=>rfl);have l2:=fg X G h1 (AH (P:=l.prog) (w:=w) (base:=base) h1.F T Y0) (bd2 h1.F λ_ _ _ _ _ _ _ _=>rfl);have r5:=fg X G b6 (yv (P:=l.prog) (w:=w) (base:=base) b6.F T Y0) (bd3 b6.F λ_ _ _ _ _ _ _ _ _=>rfl);have ge8:=fg X G e0 (yT (P:=l.prog) (w:=w) (base:=base) e0.F T Y0) (bd5 e0.F λ_ _ _ _ _ _ _ _ _ _ _=>rfl);have y5:=fg X G c6 (vf (P:=l.prog) (w:=w) (base:=base) c6.F T gc4) (bd3 c6.F λ_ _ _ _ _ _ _ _ _=>rfl);have o':=fg X G g0 (vo (P:=l.prog) (w:=w) (base:=base) g0.F T Y1 Y4) (bd1 g0.F λ_ _ _ _ _ _ _=>rfl);have gd9:=fg X G e7 (ux (P:=l.prog) (w:=w) (base:=base) e7.F T Y1 Y4 q5) (bd1 e7.F λ_ _ _ _ _ _ _=>rfl);have r7:=fg X G b' (oE (P:=l.prog) (w:=w) (base:=base) b'.F T z3) (bd4 b'.F λ_ _ _ _ _ _ _ _ _ _=>rfl);have l4:=fg X G e4 (sA (P:=l.prog) (w:=w) (base:=base) e4.F T l7 Y6) (bd2 e4.F λ_ _ _ _ _ _ _ _=>rfl);have r4:=fg X G g1 (oK (P:=l.prog) (w:=w) (base:=base) g1.F T l2) (bd2 g1.F λ_ _ _ _ _ _ _ _=>rfl);have gd8:=fg X G i' (uy (P:=l.prog) (w:=w) (base:=base) i'.F T r5 Y0 ge8) (bd4 i'.F λ_ _ _ _ _ _ _ _ _ _=>rfl);have w1:=fg X G j' (xv (P:=l.prog) (w:=w) (base:=base) j'.F T y5) (bd2 j'.F λ_ _ _ _ _ _ _ _=>rfl);have gd1:=fg X G c3 (so (P:=l.prog) (w:=w) (base:=base) c3.F T o') (bd1 c3.F λ_ _ _ _ _ _ _=>rfl);have p':=fg X G i1 (xC (P:=l.prog) (w:=w) (base:=base) i1.F T gd9) (bd1 i1.F λ_ _ _ _ _ _ _=>rfl);have ge4:=fg X G h9 (we (P:=l.prog) (w:=w) (base:=base) h9.F T r7) (bd3 h9.F λ_ _ _ _ _ _ _ _ _=>rfl);have Y2:=fg X G e6 (ia (P:=l.prog) (w:=w) (base:=base) e6.F T l4) (bd2 e6.F λ_ _ _ _ _ _ _ _=>rfl);have s9:=fg X G f' (jQ (P:=l.prog) (w:=w) (base:=base) f'.F T l4 gb8) (bd2 f'.F λ_ _ _ _ _ _ _ _=>rfl);have Y8:=fg X G c4 (nA (P:=l.prog) (w:=w) (base:=base) c4.F T w1) (bd2 c4.F λ_ _ _ _ _ _ _ _=>rfl);have n3:=fg X G h2 (vt (P:=l.prog) (w:=w) (base:=base) h2.F T p') (bd1 h2.F λ_ _ _ _ _ _ _=>rfl);have gb5:=fg X G h6 (oM (P:=l.prog) (w:=w) (base:=base) h6.F T ge4) (bd3 h6.F λ_ _ _ _ _ _ _ _ _=>rfl);have Y5:=fg X G e9 (dJ (P:=l.prog) (w:=w) (base:=base) e9.F T Y2 gc5) (bd3 e9.F λ_ _ _ _ _ _ _ _ _=>rfl);have q2:=fg X G g4 (Bi (P:=l.prog) (w:=w) (base:=base) g4.F T l3 Y7 n' Y0 Y8) (bd4 g4.F λ_ _ _ _ _ _ _ _ _ _=>rfl);have r':=fg X G g3 (Cp (P:=l.prog) (w:=w) (base:=base) g3.F T Y7 ge7 l3 Y8) (bd4 g3.F λ_ _ _ _ _ _ _ _ _ _=>rfl);have w':=fg X G b5 (qL (P:=l.prog) (w:=w) (base:=base) b5.F T Y9 n3) (bd1 b5.F λ_ _ _ _ _ _ _=>rfl);have gb1:=fg X G i0 (nS (P:=l.prog) (w:=w) (base:=base) i0.F T Z ga3 z0 gb5 ga7) (bd3 i0.F λ_ _ _ _ _ _ _ _ _=>rfl);have w0:=fg X G b4 (su (P:=l.prog) (w:=w) (base:=base) b4.F T Y1 Y3 w') (bd1 b4.F λ_ _ _ _ _ _ _=>rfl);have u1:=fg X G h5 (nc (P:=l.prog) (w:=w) (base:=base) h5.F T Y9 w0) (bd1 h5.F λ_ _ _ _ _ _ _=>rfl);have q7:MkD l.prog w K mg base "Chart" C 7 3 (nP C):=⟨_,_,_,⟨m1,m2,m3,m4⟩,xZ l6 T Z n1 r2 gb1 gb2,ac1 X G m0,bd3 l6 λ_ _ _ _ _ _ _ _ _=>rfl⟩;have gc0:=fg X G h4 (oH (P:=l.prog) (w:=w) (base:=base) h4.F T Y1 gd1 Y4 u1) (bd1 h4.F λ_ _ _ _ _ _ _=>rfl);have gd4:=fg X G g2 (sx (P:=l.prog) (w:=w) (base:=base) g2.F T q7 s9) (bd2 g2.F λ_ _ _ _ _ _ _ _=>rfl);have p1:=fg X G c1 (Bb (P:=l.prog) (w:=w) (base:=base) c1.F T ga9 gd4) (bd2 c1.F λ_ _ _ _ _ _ _ _=>rfl);have gb0:=fg X G c2 (lO (P:=l.prog) (w:=w) (base:=base) c2.F T gc0) (bd2 c2.F λ_ _ _ _ _ _ _ _=>rfl);have gb4:=fg X G e1 (nH (P:=l.prog) (w:=w) (base:=base) e1.F T p1) (bd2 e1.F λ_ _ _ _ _ _ _ _=>rfl);have ge3:=fg X G e3 (wg (P:=l.prog) (w:=w) (base:=base) e3.F T gb0 l7 Y6) (bd3 e3.F λ_ _ _ _ _ _ _ _ _=>rfl);have ga6:=fg X G e' (kZ (P:=l.prog) (w:=w) (base:=base) e'.F T gb4) (bd2 e'.F λ_ _ _ _ _ _ _ _=>rfl);have x':=fg X G l1 (wu (P:=l.prog) (w:=w) (base:=base) l1.F T Y5 gd3 q0 ga6 ge3) (bd4 l1.F λ_ _ _ _ _ _ _ _ _ _=>rfl);exact IP l5.F T gf3 r4 gd8 q2 Y0 r' x' z' l2
end My
namespace PySem.W.Fast
def tw10063072882595924472:=Nat
def tw10086326460393530726:=Nat
def tw1009219100288512863:=Nat
def tw10101409290373877812:=Nat
def tw10123151281433909630:=Nat
def tw10128604063759266585:=Nat
def tw10138347546462286781:=Nat
def tw10236757893309709373:=Nat
def tw10276601153183428635:=Nat
def tw10349606315833549073:=Nat
def tw10418845442459331105:=Nat
def tw10491981978159371868:=Nat
def tw10516770755664747668:=Nat
def tw10543397451324392640:=Nat
def tw10574156586974304619:=Nat
def tw10592093087785022362:=Nat
def tw10599232292505254579:=Nat
def tw10620390327107184884:=Nat
def tw10659409640293835262:=Nat
def tw10672348750553271483:=Nat
def tw1078588549357470446:=Nat
def tw10825787989823980558:=Nat
def tw10942368999678175597:=Nat
def tw10957990190320930928:=Nat
def tw10980748946670842600:=Nat
def tw11081372649597594712:=Nat
def tw11113738500234821402:=Nat
def tw11131661142463516490:=Nat
def tw11243894581516351966:=Nat
def tw11294911587794391894:=Nat
def tw11295233373519985240:=Nat
def tw11336025444746463134:=Nat
def tw11558341760259065404:=Nat
def tw11576899143494078348:=Nat
def tw11587626317290676488:=Nat
def tw11711777875198887258:=Nat
def tw1171375446476537585:=Nat
def tw11734787809369034979:=Nat
def tw1176623537439364441:=Nat
def tw11820955588398516044:=Nat
def tw11838483253787913719:=Nat
def tw1193696184267691687:=Nat
def tw11982503333035908355:=Nat
def tw11997242318154905745:=Nat
def tw12017255486199424864:=Nat
def tw12055347097815766163:=Nat
def tw1212487102772186374:=Nat
def tw12195410676719877526:=Nat
def tw12252832699363553187:=Nat
def tw12287503970187199584:=Nat
def tw12330592942307647632:=Nat
def tw12353587173560773093:=Nat
def tw12388944446197639583:=Nat
def tw12535783331165189044:=Nat
def tw12578473042349441771:=Nat
def tw12627243019262175825:=Nat
def tw12707906615922518090:=Nat
def tw12709085872035714518:=Nat
def tw12721495182677718908:=Nat
def tw12743544029248051978:=Nat
def tw1275460721282233086:=Nat
def tw12813563632318709284:=Nat
def tw1291649701686749891:=Nat
def tw12995693867140642166:=Nat
def tw13008647737265916091:=Nat
def tw13033685124173038127:=Nat
def tw13037517630060140183:=Nat
def tw13042582045367798302:=Nat
def tw13212829030678668922:=Nat
def tw13289558612462310534:=Nat
def tw13327953030824852467:=Nat
def tw13336165322437474014:=Nat
def tw13351995284348982128:=Nat
def tw13475810274480502968:=Nat
def tw13479432854354554683:=Nat
def tw13541867327437157129:=Nat
def tw1354406979833264251:=Nat
def tw13565463830171601198:=Nat
def tw13575722845301498555:=Nat
def tw1380895112014344143:=Nat
def tw13837645055081873240:=Nat
def tw13930474940282915929:=Nat
def tw13956057750318282616:=Nat
def tw13970721412977383464:=Nat
def tw13980535455066934722:=Nat
def tw1404573441617268921:=Nat
def tw14091229907043490031:=Nat
def tw14183279520233419070:=Nat
def tw14272171788610122490:=Nat
def tw14284379765106430028:=Nat
def tw14341724747688908461:=Nat
def tw14369791804985817574:=Nat
def tw14395539767621973657:=Nat
def tw1440056636187255547:=Nat
def tw14445206794530076443:=Nat
def tw14449979827919006356:=Nat
def tw14466871001220334176:=Nat
def tw14524668225649054863:=Nat
def tw14539378775453563781:=Nat
def tw14612155069183624260:=Nat
def tw14695740714955718749:=Nat
def tw14734538845199943556:=Nat
def tw14737667830034411155:=Nat
def tw1475456049004511509:=Nat
def tw14951184920063464726:=Nat
def tw15010584805198675126:=Nat
def tw15063668393452393131:=Nat
def tw15129536560564383827:=Nat
def tw15213223994435336507:=Nat
def tw15232623666736029837:=Nat
def tw15378093331742920085:=Nat
def tw15390589797309661982:=Nat
def tw15442206130120111870:=Nat
def tw15470349967521115869:=Nat
def tw15476774687799810420:=Nat
def tw15550056166622655180:=Nat
def tw15566318437334577217:=Nat
def tw15600498592189545800:=Nat
def tw15607093502988966680:=Nat
def tw15631312697791315626:=Nat
def tw15658363304910349574:=Nat
def tw15720335837892674696:=Nat
def tw15801723015551661274:=Nat
def tw159112144069241480:=Nat
def tw16114547871888336020:=Nat
def tw16172080089953279482:=Nat
def tw16191267196304494366:=Nat
def tw16233735262916402558:=Nat
def tw16243967807497905637:=Nat
def tw16300812890575470762:=Nat
def tw16308392217671738695:=Nat
def tw16311374888023335930:=Nat
def tw16386141859756102391:=Nat
def tw16421104152712427383:=Nat
def tw16445639264516784307:=Nat
def tw16473003712053301669:=Nat
def tw16493505938628637414:=Nat
def tw16567435078151814087:=Nat
def tw16707462684958826098:=Nat
def tw16716637588421814627:=Nat
def tw16726264109875687826:=Nat
def tw16876137003245261:=Nat
def tw16986754095268048147:=Nat
def tw17105667564832822706:=Nat
def tw1717827379922729917:=Nat
def tw17181773294529873216:=Nat
def tw17245373290449296833:=Nat
def tw17274098701773124686:=Nat
def tw17281454901294883530:=Nat
def tw17288302354417950541:=Nat
def tw17335525845060191913:=Nat
def tw17366774945125654090:=Nat
def tw1736988249759171181:=Nat
def tw17401712095987731852:=Nat
def tw17407259066362831907:=Nat
def tw17465069615449198176:=Nat
def tw17551395293142646091:=Nat
def tw17595143387870648591:=Nat
def tw17619756509492819122:=Nat
def tw17626865304206723202:=Nat
def tw17644570962774111268:=Nat
def tw17750685821806823942:=Nat
def tw17912849570113600754:=Nat
def tw17916800404685399281:=Nat
def tw18055948344214490527:=Nat
def tw180639048005956849:=Nat
def tw2020580481720580868:=Nat
def tw2060113267347025275:=Nat
def tw2097376109912331370:=Nat
def tw2125163671109500078:=Nat
def tw2168341304746189498:=Nat
def tw2203576870666161536:=Nat
def tw2204577489545156612:=Nat
def tw2212026543337829767:=Nat
def tw222055972407171999:=Nat
def tw2221427159165458511:=Nat
def tw2344229391618798704:=Nat
def tw2518919953423051462:=Nat
def tw2526960824903057050:=Nat
def tw259148380423644531:=Nat
def tw2593533660745662532:=Nat
def tw2699596405653201580:=Nat
def tw2751373619086001278:=Nat
def tw2792532435647138499:=Nat
def tw2807819308663759748:=Nat
def tw2831925905518273376:=Nat
def tw2964754358489418803:=Nat
def tw297191674225848591:=Nat
def tw3065357158909891986:=Nat
def tw3068624208531885844:=Nat
def tw3128432349595208450:=Nat
def tw3215463120497381099:=Nat
def tw3239786862230657468:=Nat
def tw3258318742056669185:=Nat
def tw3297650060428808507:=Nat
def tw3331289276471541182:=Nat
def tw3337550854107734194:=Nat
def tw3353309213334726029:=Nat
def tw3397656900586444454:=Nat
def tw3531455997276347933:=Nat
def tw3544620429503929001:=Nat
def tw3627728590663055195:=Nat
def tw3679144710224534216:=Nat
def tw3696816334964075737:=Nat
def tw3783731176310609867:=Nat
def tw3801276770958218991:=Nat
def tw3839268441988407205:=Nat
def tw3856456989365936668:=Nat
def tw3942169059063393964:=Nat
def tw3953413525638856449:=Nat
def tw3988097967309491257:=Nat
def tw4107250338441974623:=Nat
def tw4129941137728811957:=Nat
def tw4189870909312448331:=Nat
def tw4202857404618508133:=Nat
def tw4314027665419284335:=Nat
def tw4393705526027402475:=Nat
def tw4445237241212627391:=Nat
def tw4453113679071049723:=Nat
def tw4526235506245213334:=Nat
def tw4646364489736935367:=Nat
def tw4654244778050688953:=Nat
def tw4689430206180629885:=Nat
def tw4820755087858912572:=Nat
def tw485678330441209849:=Nat
def tw49598305162423466:=Nat
def tw5013428036162199580:=Nat
def tw503874525096251553:=Nat
def tw5061138571251752827:=Nat
def tw5096968815077289416:=Nat
def tw516427346499133128:=Nat
def tw5180863223374649521:=Nat
def tw5270208900436491984:=Nat
def tw5342767165910057530:=Nat
def tw5347235755079881611:=Nat
def tw538137831423931940:=Nat
def tw5483309263815035339:=Nat
def tw553812107385125487:=Nat
def tw5541235363605292335:=Nat
def tw5581618243219437630:=Nat
def tw5661664033722474590:=Nat
def tw566644500093688585:=Nat
def tw5710363098417196213:=Nat
def tw5711998514807847481:=Nat
def tw5712311853640922569:=Nat
def tw5712849365945129800:=Nat
def tw5722867560045772364:=Nat
def tw5955337355551364898:=Nat
def tw5966023292067995580:=Nat
def tw6015663816304847393:=Nat
def tw6017438488105884018:=Nat
def tw6064264672403992003:=Nat
def tw6148499039109687831:=Nat
def tw6204940176476566685:=Nat
def tw6332786662945599369:=Nat
def tw6404637799306910409:=Nat
def tw6468922861630843567:=Nat
def tw6531932831277603434:=Nat
def tw6533066555581742801:=Nat
def tw6626481853956148769:=Nat
def tw6649296182303313418:=Nat
def tw6705852761934538739:=Nat
def tw673805567929322062:=Nat
def tw6795146115918648388:=Nat
def tw682529612418896427:=Nat
def tw6882176858286327806:=Nat
def tw6931078766725764617:=Nat
def tw6961744309164535587:=Nat
def tw6981961517273812180:=Nat
def tw7020388475126923777:=Nat
def tw7040646699210470887:=Nat
def tw7070037548536533401:=Nat
def tw7101929141532113228:=Nat
def tw7112542514426724094:=Nat
def tw713739960731004729:=Nat
def tw7163783156454867301:=Nat
def tw7355989360109961405:=Nat
def tw7422951297615174351:=Nat
def tw7450894373413121425:=Nat
def tw7523626343640013477:=Nat
def tw7556415086619373778:=Nat
def tw7617646838762420667:=Nat
def tw7632901298308599541:=Nat
def tw783601336744126039:=Nat
def tw8076644800437742664:=Nat
def tw8143991092242845070:=Nat
def tw8180662262888277100:=Nat
def tw8209929157206357460:=Nat
def tw8246362459413676204:=Nat
def tw8271884607662871162:=Nat
def tw8275965736852286124:=Nat
def tw8299394055182824052:=Nat
def tw8331288626540045171:=Nat
def tw8472885098727256035:=Nat
def tw8509633380412427372:=Nat
def tw8671339119051075756:=Nat
def tw8679597207120358410:=Nat
def tw8718553771683425975:=Nat
def tw8723893770180039644:=Nat
def tw875507329323483292:=Nat
def tw8810647835823564789:=Nat
def tw8839967705246285958:=Nat
def tw8938679786794660423:=Nat
def tw8957803838556324812:=Nat
def tw898711173568421765:=Nat
def tw8990297400636613254:=Nat
def tw9140156329732459708:=Nat
def tw9273016257531269329:=Nat
def tw9283349187801942330:=Nat
def tw9344613881008904622:=Nat
def tw937326010520197852:=Nat
def tw941104612390347:=Nat
def tw9420926992764648571:=Nat
def tw9439593992876078570:=Nat
def tw9456903963839505556:=Nat
def tw9507740473761967057:=Nat
def tw9611389083534574234:=Nat
def tw9622025045934902680:=Nat
def tw9668250231647710864:=Nat
def tw9674050417954230901:=Nat
def tw9699444968755358819:=Nat
def tw9868959286359408926:=Nat
def tw9973944259645086434:=Nat
end PySem.W.Fast
open PySem PySem.W PyProof.Rows
set_option maxRecDepth 100000 in
set_option maxHeartbeats 0 in
theorem PySem.Challenge.cw_wordwishes_k58_kinds_learnt_holds : PySem.Challenge.rw_wordwishes_k58_kinds_learnt.Holds := by
 w_on;o_law;z_head;(case hw=>w_witness2)
 k_fill
 refine L2.Do (fun _=>rfl) ?_;refine L2.Lo (S:=My.S_law) My.Lc (k:=14) (x:="_law_script") (l:=PySem.Challenge.rw_wordwishes_k58_kinds_learnt) ⟨rfl,by decide,by decide⟩ rfl rfl (fun w h Y=>Y) ?F
 case F =>
  intro w f e h c G a
  refine' My.Jb c G a ?_ ?_ ?_ ?_ ?_ ?_ ?_ ?_ ?_ ?_ ?_ ?_ ?_ ?_ ?_ ?_ ?_ ?_ ?_ ?_ ?_ ?_ ?_ ?_ ?_ ?_ ?_ ?_ ?_ ?_ ?_ ?_ ?_ ?_ ?_ ?_ ?_ ?_ ?_ ?_ ?_ ?_ ?_ ?_ ?_ ?_ ?_ ?_ ?_ ?_ ?_ ?_ ?_ ?_ ?_ ?_ ?_ ?_ ?_ ?_ ?_ ?_ ?_ ?_ ?_ ?_ ?_ ?_ ?_ ?_ ?_ ?_ ?_ ?_ ?_ ?_ ?_ ?_ ?_ ?_ ?_ ?_ ?_ ?_ ?_ ?_ ?_ ?_ ?_ ?_ ?_ ?_ ?_ ?_ ?_ ?_ ?_ ?_ ?_ ?_ ?_ ?_ ?_ ?_ ?_
  all_goals try first|exact L2.K0 (by k_is) (by k_is) (by k_is) (by k_is)|exact L2.CL (by k_is) (by k_is) (by k_is)|k_is|exact rfl
