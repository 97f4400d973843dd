import PyProof.Rows.All
import Wide.All
import OpenK.AllK
import Wide.FinOn
import Lean
import PyProof.EqAt
import PyProof.EqKinds
import PyProof.TupleCall
import KE.KRevIter
import PyProof.NeKinds
import PyProof.Draws
import PyProof.EnumMake
import KE.KSortTup
import PyProof.ZipIter
import KE.KDictList
import PyProof.AttrMissHeap
import KE.KDictOf
import PyProof.Rows.SetFrom
import PyProof.Rows.SortRunsK
import PyProof.IsRules
import PyProof.SetRoads
import KE.KSortKey
import PyProof.RulesDel
import PyProof.DelItemList
import PySem.Challenge.RW_wordwishes_k62_closed_rows_judged
set_option Elab.async false
set_option linter.all false
set_option maxRecDepth 100000
set_option maxHeartbeats 4000000
set_option bootstrap.genMatcherCode false
set_option compiler.extract_closed false
noncomputable section
open PySem renaming wpAny_bind->o0,wpAny_pure->J1,Value->J3,Shared->J5,sizeLine->K0,Addr->K1,wpAny->K5,starEach->K8,Builtin->L3,Heap->L5,mainGlobals->L9,Program->M9,wpAny_newObj_type->N0,FuncData->N2,model->N3,Spec->N8,Expr->O4,wpAny_call_entry->O7,Around->O9,wpAny_callSpecial?_slot->P2,World->P5,compareOp->Q9,SetTable->S0,wpAny_field->T8,wpAny_truthy_bool->U0,wpAny_Call_Name_kw->U3,wpAny_mono->U6,PassesOwn->U7,wpAny_holding->U8,NameKind->W4,rawInt->W5,mem_of_lookup->W6,wpAny_setField->W9,behindInMarks->X1,wpAny_pyIter_list->X5,codeAny_builtin->Z1,cLine->Z4,sysModules->Z6,foldedSetIterable->Z7,builtinLookup_eq_fast->aa0,backTo->aa2,sizeLine_eq->aa3,wpAny_pyIter_tuple->aa7,wpAny_isInstance->ab1,wpAny_attempt->ac3,firstArgMember->ac4,bootBuiltins->ac5,DictEntry->ac7,wpAny_specialOf->ac8,Paired->ad0,assignEach->ad2,binaryOp->ad3,wpAny_of_eq->ad6,wpAny_typeNameOfWhole_keyiter->ad8,wpAny_seqItems->ae3,Stmt->ae4,wpAny_setField_rec->af5,eval->af7,isSubtype_type->ag0,pyNext->ag3,wpAny_passesOwn->ag6,typeLookup_type->ag9,wpAny_setState_of->ah1,codeAny_mono->ah2,wpAny_typeOf->ah4,wpAny_getItem_str_slice->ah8,plainId_quiet->ai2,wpAny_setEntries_of->ai3,Scope->ai7,tupleKind_room_in1->ai9,letOwnedTupleGo->aj2,wpAny_loadPart'->aj3,pickOrder->aj7,attributeBase->aj9,wpAny_rule->ak0,codeAny->ak4,swapsWith->ak9,IsPair->al1,wpAny_fieldsOf->al2,wpAny_eqBool_int->al3,wpAny_forIn_list->al5,valueAt->al8,CmpOp->am8,sliceBounds->an0,wpAny_pyIter_slot->an4,fits_of_scanBound->an7,isSubtype_stop->an9,Comprehension->ao9,wpAny_handled->ap0,wpAny_execs_nil->ap2,getItem->ap4,post_val_or_str->ap8,wpAny_runValue->ar2,wpAny_load->ar3,call_meets->ar4,GenState->ar6,wpAny_standAt->as0,wpAny_throw->as1,unsupported->as2,wpAny_newList->as3,wpAny_onRaise->as5,setSearchFrom->as7,assign->at0,tupleKind->at2,Within->at3,spliced->at4,lastMarks->at5,Result->at6,seqItems?->at9,typeIs_int->au2,checkCount->au3,pyIter->au4,subscripted->au6,keywordEach->au7,Keyword->au8,callerA->au9,storedH->av0,IsZip->av2,Walks->av4,IsPart->av5,entryFor->av7,newTuple->av8,raiseNew->av9,ZipApart->aw0,BindsTo->aw1,wpAny_call->aw2,typeLookup->aw3,newExc->aw8,call->aw9,Operator->ax0,holding->ax4,inplaceOp->ax5,cellsFrom->ax6,argsOk->ax9,scanBound->ay0,setNext->ay1
open PySem.Heap renaming get?_push_of_some->u8,get?_push_size->J8,lt_size->K6,SameBut->O6,size_push->R6,get?_update_self->T5,get?_none_of_le->ad9,ExtBut->an3,IsTuple->at8
open List renaming length_map->J0,getElem?_eq_getElem->J6,mem_singleton->K2,size_toArray->K3,mem_cons->L1,mem_append->L4,getElem?_eq_some_iff->L6,map_cons->L7,map_map->M0,mem_map->M7,length_cons->M8,range->N5,mem_append_right->N6,length_append->N7,getElem?_map->N9,replicate->O0,map_append->O2,mem_of_getElem?->O5,nil_append->O8,mem_cons_of_mem->P4,mem_range->P6,getD_eq_getElem?_getD->Q3,filter_eq_self->Q4,getElem?_eq_none->Q5,filter_cons_of_pos->Q6,mem_append_left->Q8,length_take->R3,not_mem_nil->R4,all_eq_true->R8,lookup_cons->S6,map_congr_left->S7,filter_cons_of_neg->S9,getElem?_append_left->T0,mem_iff_getElem?->T4,filterMap_cons->T6,mem_cons_self->U1,getElem?_cons_succ->U4,length_range->V2,length_drop->V5,getElem_mem->V6,filter_cons->V7,all_map->W1,take_add_one->X6,take_of_length_le->Z0,ext_getElem?->Z9,nodup_cons->aa4,getElem?_cons_zero->aa8,mem_of_mem_take->ab0,getElem?_append_right->ab2,getElem?_set_self->ab4,cons->ab5,replicate_succ->ab7,any_cons->ac0,drop_eq_getElem_cons->ac2,getElem?_take_of_lt->ad4,take_length->ad7,mem_of_mem_drop->ae0,nodup_append->ae5,find?_cons->ae7,mem_filterMap->af3,length_filter_le->af6,lookup->af8,getElem?_zip_eq_some->af9,pairwise_iff_getElem->ag1,getElem?_set_ne->ag4,append_nil->ag7,flatten_cons->ag8,getElem?_replicate->ah6,all_cons->ah7,length_eq_zero_iff->ai1,drop_eq_nil_of_le->ai8,pairwise_cons->aj0,filterMap_append->aj4,pairwise_map->ak3,mem_iff_getElem->ak5,getElem?_append->ak6,perm_middle->al4,length->al7,foldl_cons->am3,forIn_cons->am5,range_succ->am6,reverse_cons->an1,append_assoc->an2,nodup_nil->an8,map_nil->ao2,Perm->ao4,map_drop->ap1,length_nil->ap6,map->aq8,Pairwise->ar8,map_take->as8,foldl->aw5
open PySem.W renaming Frag->J4,nsIn->O3,mg_none_of->P8,mg_of->U9,findIn->W7,emptyDict->Z8,keepIn->ab9,instObj->ae6,fnOf->ah3,codeIn->al0,hasDictIn->am9,plainGet->ao7
open Nat renaming le_refl->J7,le_trans->K4,lt_of_lt_of_le->K7,ne_of_lt->K9,zero_le->P1,le_succ_of_le->P9,lt_or_ge->S3,lt_succ_of_lt->V1,le_of_lt->V4,lt_succ_self->W8,ne_of_gt->ac6,le_add_right->af1,lt_irrefl->af2,mod_lt->am1,lt_trichotomy->an6,mul_comm->ao1,lt_trans->ao3,pow_succ->ao5,le_succ->ap3,min_eq_left->aq2,add_assoc->as6,succ_pos->au0,sub_self->au1,pow_add->av3,succ->av6
open Bool renaming false_eq_true->J9,and_eq_true->O1,false_ne_true->P7,false_and->R5,false_xor->S5,eq_iff_iff->S8,true_and->U5,not_true->aa9,not_false->ag2,and_true->ai5,and_false->ak8
open Array renaming length_toList->L8,getElem?_eq_getElem->N4,getElem?_toList->R1,getD_eq_getD_getElem?->V3,getD->X7,getElem?_eq_some_iff->X8,getElem?_setIfInBounds->ae1,forIn_toList->am7,replicate->aq1
open PySem.Str renaming ofString->N1
open Or renaming inl->P0,inr->at1
open PySem.PassesOwn renaming never->P3
open PySem.Value renaming ref->Q0,none->T9,type->af0,int->ag5,str->ax3
open PySem.Heap.SameBut renaming update->Q7
open PyProof.Rows renaming slot_tuple_getitem->R0,callWith_type1->S2,callWith_builtin1->X9,KeyOrd->af4,seqObj->aj6,IsTup->aj8,kindOf->aq3,plain_sorted->aq4,entry_sorted->aq5,args_sorted1->aq6,slicePart_none->aq9,AllBare->ar5,tupleItemsOf_->ar7,kind_sorted->as4,envOfC->au5,Subscript_->aw4,SortKind->ax2,IntsAre->ax7
open PySem.F renaming called_set->R7,slot_dict_keyiterator_next->aa1,slot_tuple_iterator_next->ae9,plain_list_iadd->ai4,slot_tuple_hash->ak2,slot_int_rmul->ap5,slot_zip_next->ap9
open PySem.Builtin.Tuple renaming tupleExact->R9,tupleHashOf->W0,tupleItemsOf->ab3
open PySem.Builtin.SmallTypes renaming nextOf->S1,ownedTupleIsFree->Z5
open List.cons renaming injEq->S4
open Option renaming some->T7,bind_some->al6,map_some->aq0
open PySem.Calls renaming spliced_cons->U2,spliced_nil->X4
open Option.some renaming inj->V0,injEq->ab8
open Int renaming toNat_natCast->V8,emod_nonneg->ac9,emod_lt_of_pos->ad5,eq_ofNat_of_zero_le->ah9
open PySem.Builtin.Slice renaming slicePlaces->V9,sliceApplied->ae8
open PySem.Around renaming under_plainId->W3
open PySem.SeqAt renaming EqAt->X0
open Classical renaming byContradiction->Z3,propDecidable->ae2
open ForInStep renaming yield->aa5
open PySem.Obj renaming data_mapFields->aa6,mapFields->ai0,isFreed_of_fields->aj5,mapSeq->am0,putSet->aw7
open Ne renaming symm->ab6
open PySem.NameKind renaming free->ac1,cell->am4
open False renaming elim->ad1
open PyProof.Rows.KeyOrd renaming kle_refl->ah0,kle_of_klt->ak1,kle_trans->ao8
open PySem.Builtin.Str renaming occurrences->ah5
open Function renaming comp->ai6
open Sum renaming inl->aj1,inr->ao6
open Pure renaming pure->ak7
open True renaming intro->al9
open PySem.Paired renaming length->am2
open PySem.Shared renaming heap->an5
open PySem.SetTable renaming fresh->ao0,below->ar1
open PySem.Txt renaming slice->ap7,slice_le->at7
open Nat.succ renaming inj->aq7
open List.Perm renaming refl->ar0
open PySem.Code renaming compLoop->ar9
open Prod.mk renaming injEq->as9
open Inhabited renaming default->av1
open PySem.Walks renaming list->aw6
open Prod renaming ext->ax1
open LawfulMonad renaming pure_bind->ax8
set_option compiler.extract_closed false
namespace L2
theorem zq0(h:True=True:=by rfl):True=True:=h
theorem zq1(h:True:=by decide):True:=h
theorem zq2(h:Nat->True=True:=by intro _;rfl):True=True:=h 0
theorem zq3(h:True=True∨True:=by first|exact .inl rfl|exact .inr rfl|assumption):True:=trivial
theorem zq4(h:True=True:=by with_unfolding_all rfl):True=True:=h
theorem zq5(h:True=True:=by exact rfl):True=True:=h
open PySem PySem.Spec PyProof.Rows
abbrev Key:=Sum Int Str
noncomputable def qD:Key->J3->Bool
 |.inl k,v=>J3.isInt k v
 |.inr x,v=>J3.isStrOf x v
noncomputable def o8(w:P5):Key->Int
 |.inl k=>hashInt k
 |.inr x=>hashStr w x
theorem bE:∀{k:Key}{v:J3},qD k v=true->(∃i t,k=aj1 i/\v=ag5 i t)∨(∃x t,k=ao6 x/\v=ax3 x t)
 |.inl i,v,h=>by
  obtain⟨t,e⟩:=J3.isInt_shape (k:=i) (v:=v) h;exact .inl ⟨i,t,rfl,e⟩
 |.inr x,v,h=>by
  obtain⟨t,e⟩:=J3.isStrOf_shape (x:=x) (v:=v) h;exact .inr ⟨x,t,rfl,e⟩
theorem yr(i:Int) (t:Tok):qD (.inl i) (.int i t)=true:=by simp[qD,J3.isInt]
theorem xA(x:Str) (t:Tok):qD (.inr x) (.str x t)=true:=by simp[qD,J3.isStrOf]
theorem Fq(a b:Int):decide ((aj1 a:Key)=aj1 b)=(a==b):=by
 by_cases e:a=b
 ·subst e;simp
 ·have h:¬ (aj1 a:Key)=aj1 b:=fun q=>e (aj1.inj q);rw[decide_eq_false h];exact(beq_eq_false_iff_ne.mpr e).symm
theorem Ej(a b:Str):decide ((ao6 a:Key)=ao6 b)=decide (a=b):=by
 by_cases e:a=b
 ·subst e;simp
 ·have h:¬ (ao6 a:Key)=ao6 b:=fun q=>e (ao6.inj q);rw[decide_eq_false h,decide_eq_false e]
theorem E9(a:Int) (b:Str):decide ((aj1 a:Key)=ao6 b)=false:=decide_eq_false (fun q=>nomatch q)
theorem Fj(a:Str) (b:Int):decide ((ao6 a:Key)=aj1 b)=false:=decide_eq_false (fun q=>nomatch q)
noncomputable def bc(prog:M9) (w:P5):PySem.KeyKind prog w Key where
 is:=qD
 hash:=o8 w
 inj:=fun v a b l g=>by
  rcases bE l with⟨i,t,rfl,rfl⟩|⟨x,t,rfl,rfl⟩
  ·rcases bE g with⟨j,u,rfl,e⟩|⟨y,u,rfl,e⟩
   ·injection e with c _;rw[c]
   ·exact nomatch e
  ·rcases bE g with⟨j,u,rfl,e⟩|⟨y,u,rfl,e⟩
   ·exact nomatch e
   ·injection e with c _;rw[c]
 byValue:=fun k v h=>by
  rcases bE h with⟨i,t,rfl,rfl⟩|⟨x,t,rfl,rfl⟩<;>rfl
 pyHash:=fun f h=>by
  rcases bE f with⟨i,t,rfl,rfl⟩|⟨x,t,rfl,rfl⟩
  ·exact wpAny_pyHash_int h
  ·exact wpAny_pyHash_str h
 eqBool:=fun m f h=>by
  rcases bE m with⟨i,t,rfl,rfl⟩|⟨x,t,rfl,rfl⟩
  ·rcases bE f with⟨j,u,rfl,rfl⟩|⟨y,u,rfl,rfl⟩
   ·rw[Fq]at h;exact al3 h
   ·rw[E9]at h;exact X0.int_str i t y u _ _ _ _ h
  ·rcases bE f with⟨j,u,rfl,rfl⟩|⟨y,u,rfl,rfl⟩
   ·rw[Fj]at h;exact X0.str_int x t j u _ _ _ _ h
   ·rw[Ej]at h;exact wpAny_eqBool_str h
 «strs»:=fun k x t v h=>by
  rcases bE h with⟨i,u,rfl,e⟩|⟨y,u,rfl,e⟩
  ·exact nomatch e
  ·injection e with c _
   subst c;cases v<;>rfl
theorem si(prog:M9) (w:P5) (i:Int) (t:Tok):(bc prog w).is (.inl i) (.int i t)=true:=yr i t
theorem tF(prog:M9) (w:P5) (x:Str) (t:Tok):(bc prog w).is (.inr x) (.str x t)=true:=xA x t
set_option genInjectivity false in
inductive V where
 |non|bl (b:Bool)|int (i:Int)|str (x:Str)|byt (b:Array UInt8)|flt (b:UInt64)|ref (a:K1)|ty (n:String)
 deriving DecidableEq
def aF:V->J3->Prop
 |.non,u=>u=T9
 |.bl b,u=>u=J3.bool b
 |.int i,u=>∃t,u=ag5 i t
 |.str x,u=>∃t,u=ax3 x t
 |.byt b,u=>∃t,u=J3.bytes b t
 |.flt b,u=>∃t,u=J3.float b t
 |.ref a,u=>u=Q0 a
 |.ty n,u=>u=af0 n
abbrev ax:List V->List J3->Prop:=ad0 aF
theorem ax.length{xs:List V}{us:List J3}(r:ax xs us):xs.length=us.length:=am2 r
theorem ax.get:∀{xs:List V}{us:List J3}{i:Nat}{x:V},ax xs us->xs[i]?=some x->∃u,us[i]?=some u/\aF x u
 |_,_,_,_,.nil,e=>by simp at e
 |_,_,0,_,.cons r _,e=>by simp at e;subst e;exact⟨_,rfl,r⟩
 |_,_,i+1,x,.cons _ t,e=>by
  obtain⟨u,c,a⟩:=ax.get (i:=i) (x:=x) t (by simpa using e);exact⟨u,by simpa using c,a⟩
theorem ax.set{x:V}{u:J3}(r:aF x u):∀{xs:List V}{us:List J3}(i:Nat),ax xs us->ax (xs.set i x) (us.set i u)
 |_,_,_,.nil=>.nil
 |_,_,0,.cons _ t=>.cons r t
 |_,_,i+1,.cons q t=>.cons q (ax.set r i t)
theorem ax.append:∀{xs a:List V}{us ws:List J3},ax xs us->ax a ws->ax (xs++a) (us++ws)
 |_,_,_,_,.nil,s=>s
 |_,_,_,_,.cons r t,s=>.cons r (ax.append t s)
theorem ax.take:∀{xs:List V}{us:List J3}(n:Nat),ax xs us->ax (xs.take n) (us.take n)
 |_,_,0,_=>.nil
 |_,_,_+1,.nil=>.nil
 |_,_,n+1,.cons r t=>.cons r (ax.take n t)
theorem ax.drop:∀{xs:List V}{us:List J3}(n:Nat),ax xs us->ax (xs.drop n) (us.drop n)
 |_,_,0,r=>r
 |_,_,_+1,.nil=>.nil
 |_,_,n+1,.cons _ t=>ax.drop n t
def jM:Option V->Option J3->Prop
 |some v,some u=>aF v u
 |none,none=>True
 |_,_=>False
def KV{κ:Type}:List (κ×V)->List (κ×J3)->Prop:=ad0 fun(p:κ×V) (q:κ×J3)=>p.1=q.1/\aF p.2 q.2
noncomputable def kV:Key->V
 |.inl i=>.int i
 |.inr x=>.str x
set_option genInjectivity false in
inductive HO where
 |lst (xs:List V)
 |tup (xs:List V)
 |dK (kvs:List (Key×V))|dT (kvs:List (List Key×V))
 |set (S:Int->Bool) (n:Nat)
 |ins (C dx:K1) (fs:List (Str×V))
 |own (x:K1)
 |xd (fs:List (Str×V))
 |met (f x:K1)
 |rng (lo hi:Int)
 |frz (o:Obj) (u:HO)
 |tbl (ps:Array J3)
 |ext (φ:L5->Prop)
abbrev Hp:=K1->Option HO
noncomputable def upd(H:Hp) (a:K1) (o:HO):Hp:=fun b=>if b=a then some o else H b
theorem aK{H:Hp}{a:K1}{o:HO}:upd H a o a=some o:=by unfold upd;rw[if_pos rfl]
theorem aO{H:Hp}{a b:K1}{o:HO}(h:b≠a):upd H a o b=H b:=by unfold upd;rw[if_neg h]
theorem Hk{H:Hp}{a b:K1}{o u:HO}(h:H a=some o) (h':H b=some u) (d:o≠u):a≠b:=by
 intro e;subst e;rw[h]at h';exact d (V0 h')
theorem cp{H:Hp}{a b:K1}{o:HO}(h:H a=some o) (h':H b=none):a≠b:=by
 intro e;subst e;rw[h]at h';cases h'
def lq(h:L5) (a:K1) (xs:Array J3):Prop:=∃o,h.get? a=some o/\o.cls=.type "tuple"/\(∃n,o.data=.seq xs n)/\o.dict=none
theorem lq.tup{h:L5}{a:K1}{xs:Array J3}(x:lq h a xs):aj8 h a xs:=let⟨o,e,c,d,_⟩:=x;⟨o,e,c,d⟩
theorem lq.lt{h:L5}{a:K1}{xs:Array J3}(x:lq h a xs):a<h.objs.size:=let⟨_,e,_⟩:=x;K6 e
theorem lq.new(h:L5) (xs:Array J3):lq (h.push { cls:=.type "tuple",data:=.seq xs }) h.objs.size xs:=⟨_,J8 h rfl,rfl,⟨_,rfl⟩,rfl⟩
section
variable(P:M9) (w:P5)
def bB(H:Hp) (h:L5) (a:K1):HO->Prop
 |.lst e=>e.length<=K0/\∃(its:List J3) (n:Nat),ax e its/\h.get? a=some { cls:=.type "list",data:=.seq its.toArray n }
 |.tup e=>e.length<=K0/\∃its:List J3,ax e its/\lq h a its.toArray
 |.dK c=>c.length<=K0/\(a==Z6)=false/\∃s,KV c s/\h.DictOf (bc P w) a s
 | .dT c => c.length ≤ K0 ∧ (a == Z6) = false ∧ ∃ e:List (List Key × K1 × J3),
   ad0 (fun(p:List Key×V) (q:List Key×K1×J3)=>p.1=q.1/\H q.2.1=some (.tup (p.1.map kV))/\aF p.2 q.2.2) c e /\
   ∃o m B,h.get? a=some o/\o.ExactDict/\o.data=.dict m B/\m.toList=e.map (entryOfKey (at2 (bc P w)))/\(e.map (·.1)).Nodup
 |.set S n=>h.SetOf (intKind P w) a S n
 | .ins C i fs => H i = some (.own a) ∧ fs.length ≤ 1000 ∧ i ≠ a ∧ h.get? a = some (ae6 C i) ∧
   ∃g,h.Ns1 i g/\(∀f,jM (fs.lookup f) (g f))/\at3 g (fs.map (·.1))
 |.own _=>∃o,h.get? a=some o
 |.xd fs=>∃g,h.Ns1 a g/\∀f,jM (fs.lookup f) (g f)
 |.rng lo A=>∃t u v,h.get? a=some { cls:=.type "range",data:=.fields #[.int lo t,.int A u,.int 1 v] }
 |.frz o u=>h.get? a=some o/\bB H h a u
 |.tbl E=>h.get? a=some { cls:=.none,data:=.fields E }
 |.met f x=>h.get? a=some (PySem.W.methodObj (.ref f) (.ref x))
 |.ext j=>j h/\(∃o,h.get? a=some o)/\∀l z:L5,j l->(∀o,l.get? a=some o->z.get? a=some o)->j z
def HOk(H:Hp) (h:L5):Prop:=∀a o,H a=some o->bB P w H h a o
end
section
variable{P:M9}{w:P5}{H B:Hp}{h h':L5}{a:K1}{o:HO}
theorem bB.lt(x:bB P w H h a o):a<h.objs.size:=by
 cases o with
 |lst g=>obtain⟨_,_,_,_,e⟩:=x;exact K6 e
 |tup g=>obtain⟨_,_,_,p⟩:=x;exact p.lt
 |dK c=>obtain⟨_,_,_,_,o,_,_,e,_⟩:=x;exact K6 e
 |dT c=>obtain⟨_,_,_,_,o,_,_,e,_⟩:=x;exact K6 e
 |set S n=>obtain⟨o,_,_,_,e,_⟩:=x;exact K6 e
 |ins C i fs=>obtain⟨_,_,_,e,_⟩:=x;exact K6 e
 |own y=>obtain⟨_,e⟩:=x;exact K6 e
 |xd fs=>obtain⟨_,⟨_,_,_,e,_⟩,_⟩:=x;exact K6 e
 |rng lo l=>obtain⟨_,_,_,e⟩:=x;exact K6 e
 |frz j u=>obtain⟨e,_⟩:=x;exact K6 e
 |tbl q=>exact K6 (show h.get? a=some _ from x)
 |met f y=>exact K6 (show h.get? a=some _ from x)
 |ext m=>obtain⟨_,⟨_,e⟩,_⟩:=x;exact K6 e
theorem ad0.mapP{g h:Type}{F G:g->h->Prop}:∀{e:List g}{c:List h},ad0 F e c->(∀a b,F a b->G a b)->ad0 G e c
 |_,_,.nil,_=>.nil
 |_,_,.cons r t,f=>.cons (f _ _ r) (ad0.mapP t f)
theorem ad0.imp'{g h:Type}{F G:g->h->Prop}(f:∀a b,F a b->G a b) {e:List g}{c:List h}(r:ad0 F e c):ad0 G e c:=ad0.mapP r f
theorem bB.stay(x:bB P w H h a o) (k:∀b u,(b=a∨H b=some (.own a))->h.get? b=some u->h'.get? b=some u)
  (I:∀b,H b=some (.own a)->B b=some (.own a)) (G:∀b xs,H b=some (.tup xs)->B b=some (.tup xs)):bB P w B h' a o:=by
 induction o with
 |lst xs=>obtain⟨z,its,n,r,e⟩:=x;exact⟨z,its,n,r,k _ _ (.inl rfl) e⟩
 |tup xs=>obtain⟨z,its,r,g,e,c⟩:=x;exact⟨z,its,r,g,k _ _ (.inl rfl) e,c⟩
 |dK s=>obtain⟨z,y,L,r,g,i,j,e,c⟩:=x;exact⟨z,y,L,r,g,i,j,k _ _ (.inl rfl) e,c⟩
 |dT s =>
  obtain⟨z,y,xs,r,g,i,j,e,c⟩:=x;exact⟨z,y,xs,ad0.mapP r fun p q z=>⟨z.1,G _ _ z.2.1,z.2.2⟩,g,i,j,k _ _ (.inl rfl) e,c⟩
 |set S n=>obtain⟨g,i,j,t,e,c⟩:=x;exact⟨g,i,j,t,k _ _ (.inl rfl) e,c⟩
 |ins C M fs =>
  obtain⟨d,z,E,e,m,⟨l,i,j,J,c⟩,r⟩:=x;exact⟨I _ d,z,E,k _ _ (.inl rfl) e,m,⟨l,i,j,k _ _ (.inr d) J,c⟩,r⟩
 |own y=>obtain⟨g,e⟩:=x;exact⟨g,k _ _ (.inl rfl) e⟩
 |xd fs=>obtain⟨m,⟨l,i,j,e,c⟩,r⟩:=x;exact⟨m,⟨l,i,j,k _ _ (.inl rfl) e,c⟩,r⟩
 |rng lo N=>obtain⟨t,u,v,e⟩:=x;exact⟨t,u,v,k _ _ (.inl rfl) e⟩
 |frz g u ih=>obtain⟨e,q⟩:=x;exact⟨k _ _ (.inl rfl) e,ih q⟩
 |tbl A =>
  have e:h.get? a=some { cls:=.none,data:=.fields A }:=x;show h'.get? a=some { cls:=.none,data:=.fields A };exact k a _ (.inl rfl) e
 |met f y =>
  have e:h.get? a=some (PySem.W.methodObj (.ref f) (.ref y)):=x;show h'.get? a=some (PySem.W.methodObj (.ref f) (.ref y));exact k a _ (.inl rfl) e
 |ext O=>obtain⟨p,⟨o,e⟩,st⟩:=x;exact⟨st _ _ p fun o q=>k _ _ (.inl rfl) q,⟨o,k _ _ (.inl rfl) e⟩,st⟩
theorem HOk.lt(x:HOk P w H h) (e:H a=some o):a<h.objs.size:=(x a o e).lt
theorem HOk.fresh(x:HOk P w H h) (e:h.objs.size<=a):H a=none:=by
 cases q:H a with
 |none=>rfl
 |some u=>exact absurd (K7 (x.lt q) e) (af2 _)
theorem HOk.kept(x:HOk P w H h) (k:∀b u,h.get? b=some u->h'.get? b=some u):HOk P w H h':=fun a o e =>
 (x a o e).stay (fun b u _ q=>k b u q) (fun _ q=>q) fun _ _ q=>q
theorem HOk.laid(x:HOk P w H h) (k:∀b u,h.get? b=some u->h'.get? b=some u) (i:h.objs.size<=a) (new:bB P w (upd H a o) h' a o):HOk P w (upd H a o) h':=fun b u e=>by
 have g:=x.fresh i
 by_cases f:b=a
 ·subst f;rw[aK]at e;cases e;exact new
 ·rw[aO f]at e;exact(x b u e).stay (fun c v _ q=>k c v q) (fun c q=>by rw[aO (cp q g)];exact q) fun c j q=>by rw[aO (cp q g)];exact q
end
def Rd(H:Hp) (a:K1) (u:HO):Prop:=H a=some u∨∃o,H a=some (.frz o u)
theorem Rd.of{H:Hp}{a:K1}{u:HO}(h:H a=some u):Rd H a u:=.inl h
theorem Rd.ok{P:M9}{w:P5}{H:Hp}{h:L5}{a:K1}{u:HO}(r:Rd H a u) (x:HOk P w H h):bB P w H h a u:=by
 rcases r with r|⟨o,r⟩
 ·exact x a u r
 ·obtain⟨_,q⟩:=x a _ r;exact q
def Mut:Option HO->Prop
 |some (.lst _)=>True
 |some (.dK _)=>True
 |some (.dT _)=>True
 |some (.set _ _)=>True
 |some (.ins _ _ _)=>True
 |some (.ext _)=>True
 |_=>False
section
variable{P:M9}{w:P5}{H:Hp}{h h':L5}{x e:K1}{B:HO}
theorem HOk.write(ok:HOk P w H h) (m:Mut (H x)) (he:e=x∨H e=some (.own x)) (k:∀b u,b≠e->h.get? b=some u->h'.get? b=some u) (n:∃u,h'.get? e=some u)
  (new:bB P w (upd H x B) h' x B):HOk P w (upd H x B) h':=fun b u q=>by
 have f:∀c y,H c=some (.own y)->c≠x:=fun c y r z=>by subst z;rw[r]at m;exact m
 have g:∀c i,H c=some (.tup i)->c≠x:=fun c i r z=>by subst z;rw[r]at m;exact m
 by_cases l:b=x
 ·subst l;rw[aK]at q;cases q;exact new
 ·rw[aO l]at q
  by_cases a:b=e
  ·have o:H b=some (.own x):=by
    rcases he with z|z
    ·exact absurd (a.trans z) l
    ·rw[a];exact z
   rw[q]at o;cases o;obtain⟨v,p⟩:=n;exact⟨v,by rw[a];exact p⟩
  ·refine(ok b u q).stay (fun c v j r=>k c v ?_ r) (fun c r=>by rw[aO (f c b r)];exact r) fun c i r=>by rw[aO (g c i r)];exact r
   rcases j with rfl|j
   ·exact a
   ·rintro rfl;rcases he with z|z
    ·exact f c b j z
    ·rw[j]at z;cases z;exact l rfl
end
structure Un(fs ex:List K1) (H H':Hp) (h h':L5):Prop where
 keep:∀b o,h.get? b=some o->H b=none->b∉fs->b∉ex->h'.get? b=some o
 slot:∀b o,h.get? b=some o->H b=none->b∈fs->b∉ex->∃sl,h'.get? b=some { o with slots:=sl }
 free:∀b o,h.get? b=some o->H b=none->b∉ex->H' b=none
 there:∀b o,h.get? b=some o->b∉ex->∃o',h'.get? b=some o'
 tups:∀b xs,H b=some (.tup xs)->H' b=some (.tup xs)
 frzs:∀b o u,H b=some (.frz o u)->H' b=some (.frz o u)
 tbls:∀b ps,H b=some (.tbl ps)->∃more,H' b=some (.tbl (ps++more))
section
variable{fs I y N:List K1}{H W Y:Hp}{h B Z h':L5}{a x e:K1}{o:HO}
theorem Un.any(u:Un fs y H W h B) {b:K1}{a:Obj}(q:h.get? b=some a) (n:H b=none) (e:b∉y):∃f,B.get? b=some { a with slots:=f }:=by
 by_cases c:b∈fs
 ·exact u.slot b a q n c e
 ·exact⟨a.slots,u.keep b a q n c e⟩
theorem Un.kept(k:∀b u,h.get? b=some u->h'.get? b=some u):Un fs y H H h h' :=
 ⟨fun b a q _ _ _=>k b a q,fun b a q _ _ _=>⟨a.slots,k b a q⟩,fun _ _ _ n _=>n,fun b a q _=>⟨a,k b a q⟩,fun _ _ q=>q,fun _ _ _ q=>q,fun _ c q=>⟨#[],by rw[q];simp⟩⟩
theorem Un.refl:Un fs y H H h h:=Un.kept fun _ _ q=>q
theorem Un.laid(k:∀b u,h.get? b=some u->h'.get? b=some u) (e:h.objs.size<=a) (hn:H a=none):Un fs y H (upd H a o) h h' where
 keep:=fun b u q _ _ _=>k b u q
 slot:=fun b u q _ _ _=>⟨u.slots,k b u q⟩
 free:=fun b u q n _=>by rw[aO (K9 (K7 (K6 q) e))];exact n
 there:=fun b u q _=>⟨u,k b u q⟩
 tups:=fun b c q=>by rw[aO (cp q hn)];exact q
 frzs:=fun b u c q=>by rw[aO (cp q hn)];exact q
 tbls:=fun b f q=>⟨#[],by rw[aO (cp q hn),q];simp⟩
theorem Un.write(c:Mut (H x)) (he:e=x∨H e=some (.own x)) (k:∀b u,b≠e->h.get? b=some u->h'.get? b=some u) (f:∃u,h'.get? e=some u):Un fs y H (upd H x o) h h':=by
 have j:∀b,H b=none->b≠x:=fun b n z=>by subst z;rw[n]at c;exact c
 have i:∀b,H b=none->b≠e:=fun b n z=>by
  subst z;rcases he with r|r
  ·exact j b n r
  ·rw[n]at r;cases r
 have g:∀b u,H b=some u->¬ Mut (some u)->b≠x:=fun b u q m z=>by subst z;rw[q]at c;exact m c
 refine⟨fun b u q n _ _=>k b u (i b n) q,fun b u q n _ _=>⟨u.slots,k b u (i b n) q⟩,fun b u q n _=>by rw[aO (j b n)];exact n,fun b u q _=>?_,
  fun b l q=>by rw[aO (g b _ q fun z=>z)];exact q,fun b u l q=>by rw[aO (g b _ q fun z=>z)];exact q,fun b p q=>⟨#[],by rw[aO (g b _ q fun z=>z),q];simp⟩⟩
 by_cases a:b=e
 ·subst a;exact f
 ·exact⟨u,k b u a q⟩
end
noncomputable def trk(h:L5) (H:Hp):List K1:=(N5 h.objs.size).filter fun a=>(H a).isSome
noncomputable def qY(h:L5) (H:Hp):L5:=PySem.W.hideAll h (trk h H)
theorem yI(h:L5) (H:Hp):(qY h H).objs.size=h.objs.size:=PySem.W.hideAll_size _ _
theorem Bs{h:L5}{H:Hp}{b:K1}{o:Obj}(e:h.get? b=some o) (n:H b=none):(qY h H).get? b=some o :=
 PySem.W.hideAll_get _ e fun a=>by
  have q:(H b).isSome=true:=(List.mem_filter.mp a).2;rw[n]at q;simp at q
theorem Ce{h:L5}{H:Hp}{b:K1}{o:Obj}(e:(qY h H).get? b=some o):h.get? b=some o/\H b=none:=by
 have a:h.get? b=some o:=PySem.W.of_hideAll (trk h H) e;refine⟨a,?_⟩;cases q:H b with
 |none=>rfl
 |some x =>
  have c:b∈trk h H:=List.mem_filter.mpr ⟨P6.mpr (K6 a),by simp[q]⟩;have z:(qY h H).get? b=none:=PySem.W.hideAll_none (trk h H) c;rw[z]at e;cases e
noncomputable def Ci(g h:L5) (L:K1):List (K1×Obj):=(N5 h.objs.size).filterMap fun a=>if a=L∨(g.get? a).isSome=true then none else(h.get? a).map fun o=>(a,o)
noncomputable def rest(g h:L5) (L d:K1):List (K1×Obj):=(Ci g h L).filter fun p=>decide (p.1≠d)
structure Mod(K:J4) (mg:Str->Option J3) (base:L5):Prop where
 kin:K.In base
 glob:base.Ns L9 mg
 blt:∃mb,base.Ns builtinsNs mb/\∀x:Str,x≠"__name__"->mb x=ac5 x
 nolimit:base.NoLimit
set_option genInjectivity false in
structure Cx where
 prog:M9
 w:P5
 K:J4
 mg:Str->Option J3
 base:L5
 A:O9
 N:List Str
 s₀:J5
 H₀:Hp
 env:Env
 outer:List Env
 stack:List Env
 ex:List K1
 fn:Str->Bool
 calm:Bool
 pn:List (K1×Obj)
 xe:J3->J5->Prop
noncomputable def frs(l:List Env):List K1:=l.filterMap (·.frame)
noncomputable abbrev Cx.fs(X:Cx):List K1:=frs X.outer
def Vis(a:ai7) (x:Str):Prop:=a.names.lookup x=some .local∨a.names.lookup x=some .cell∨a.names.lookup x=some .free
def Loc(a:ai7) (x:Str):Prop:=a.names.lookup x=some .local∨a.names.lookup x=some .cell
def Jp(env:Env) (h:L5) (m:Str->Option J3) (x:Str) (u:J3):Prop :=
 (env.kindOf x=some .local/\m x=some u)∨((env.kindOf x=some .cell∨env.kindOf x=some .free)/\∃c,env.cells.lookup x=some c/\h.IsCell c (some u))
structure Cx.Ok(X:Cx):Prop where
 mod:Mod X.K X.mg X.base
 kind:X.env.scope.kind=.function
 glob:X.env.globals=L9
 blt:X.env.builtins=builtinsNs
 above:X.s₀.heap.objs.size<=X.env.locals
 inj:∀x y c,X.env.cells.lookup x=some c->X.env.cells.lookup y=some c->x=y
 has:∀x,(X.env.kindOf x=some .cell∨X.env.kindOf x=some .free)->∃c,X.env.cells.lookup x=some c
 cab:∀x c,X.fn x=true->X.env.cells.lookup x=some c->X.s₀.heap.objs.size<=c
 hd:X.calm=true->X.A.handled=none
 frames:X.A.frames=some X.stack
 stk:X.stack=X.outer∨(X.stack=X.env::X.outer/\X.env.frame=some X.env.locals)
 exf:∀b∈X.ex,b≠X.env.locals/\∀x c,X.env.cells.lookup x=some c->c≠b
 bs:∀b o,X.base.get? b=some o->X.s₀.heap.get? b=some o/\X.H₀ b=none
 bsz:X.base.objs.size<=X.s₀.heap.objs.size
 noex:∀b o,X.base.get? b=some o->b∉X.ex
 exfs:∀b∈X.ex,b∉X.fs
 funs:X.s₀.heap.FunFrames X.base X.outer
 frf:∀b∈X.fs,X.H₀ b=none
structure Inv(X:Cx) (ae:List (K1×Obj)) (σ:List (Option V)) (H:Hp) (s:J5):Prop where
 ok:X.Ok
 os:s.os=X.s₀.os
 bare:ar5 s.gens
 base:Un X.fs X.ex X.H₀ H X.s₀.heap s.heap
 loc:∃m,s.heap.Ns X.env.locals m/\∀(i:Nat) (x:Str) (v:V),X.N[i]?=some x->σ[i]?=some (some v)->Vis X.env.scope x->∃u,aF v u/\Jp X.env s.heap m x u
 cell:∀x c,X.env.cells.lookup x=some c->∃v,s.heap.IsCell c v
 free:H X.env.locals=none
 freeC:∀x c,X.env.cells.lookup x=some c->H c=none
 pin:∀p∈X.pn++ae,s.heap.get? p.1=some p.2/\H p.1=none/\p.1≠X.env.locals/\p.1∉X.fs/\∀v,p.2.data≠.cell v
 hok:HOk X.prog X.w H s.heap
 len:σ.length=X.N.length
section
variable{X:Cx}{B:List (K1×Obj)}{σ:List (Option V)}{H W:Hp}{s:J5}{h':L5}
theorem Cx.Ok.nofr(ok:X.Ok) {b:K1}{o:Obj}(e:X.base.get? b=some o):b∉X.fs:=fun a=>by
 have:=(ok.funs.mem a).1;rw[e]at this;cases this
theorem Inv.bs(I:Inv X B σ H s):∀b o,X.base.get? b=some o->s.heap.get? b=some o/\H b=none:=fun b o e =>
 ⟨I.base.keep b o (I.ok.bs b o e).1 (I.ok.bs b o e).2 (I.ok.nofr e) (I.ok.noex b o e),I.base.free b o (I.ok.bs b o e).1 (I.ok.bs b o e).2 (I.ok.noex b o e)⟩
theorem Inv.bk(I:Inv X B σ H s):∀b o,X.base.get? b=some o->s.heap.get? b=some o:=fun b o e=>(I.bs b o e).1
theorem Inv.mod(I:Inv X B σ H s):Mod X.K X.mg X.base:=I.ok.mod
theorem Inv.kIn(I:Inv X B σ H s):X.K.In s.heap:=I.ok.mod.kin.keeps I.bk
theorem Inv.lt(I:Inv X B σ H s):X.env.locals<s.heap.objs.size:=let⟨_,a,_⟩:=I.loc;a.lt
theorem Inv.sz(I:Inv X B σ H s):X.s₀.heap.objs.size<=s.heap.objs.size:=K4 I.ok.above (V4 I.lt)
theorem Inv.nofs(I:Inv X B σ H s) {a:K1}(h:s.heap.objs.size<=a):a∉X.fs:=fun c=>by
 obtain⟨_,o,e,_⟩:=I.ok.funs.mem c;exact absurd (K7 (K6 e) (K4 I.sz h)) (af2 _)
theorem Inv.cne(I:Inv X B σ H s):∀x c,X.env.cells.lookup x=some c->c≠X.env.locals:=fun x c e z=>by
 obtain⟨v,o,h,g⟩:=I.cell x c e;obtain⟨m,⟨i,l,j,a,f,_⟩,_⟩:=I.loc;rw[z,a]at h;cases h;rw[f]at g;cases g
theorem Inv.funs(I:Inv X B σ H s):s.heap.FunFrames X.base X.outer:=by
 have all:∀(l:List Env),(∀b∈frs l,b∈X.fs)->X.s₀.heap.FunFrames X.base l->s.heap.FunFrames X.base l:=by
  intro l
  induction l with
  |nil=>intro _ _;trivial
  |cons h r ih =>
   intro hs i;obtain⟨n,⟨L,o,a,p,m,g⟩,j⟩:=i;have f:L∈X.fs:=hs L (by unfold frs;rw[T6,a];exact U1);obtain⟨q,e⟩:=I.base.slot L o m (I.ok.frf L f) f fun z=>I.ok.exfs L z f;exact⟨n,⟨L,_,a,p,e,g⟩,ih (fun b c=>hs b (by unfold frs;rw[T6,a];exact P4 _ c)) j⟩
 exact all X.outer (fun _ c=>c) I.ok.funs
theorem Inv.stack(I:Inv X B σ H s):s.heap.FunFrames X.base X.stack:=by
 rcases I.ok.stk with e|⟨e,a⟩
 ·rw[e];exact I.funs
 ·rw[e];obtain⟨m,c,_⟩:=I.loc;refine .cons (by rw[I.ok.kind];decide) a c ?_ I.funs;exact ad9 (K4 I.ok.bsz I.ok.above)
theorem Inv.stkSub(I:Inv X B σ H s):∀b∈frs X.stack,b∈X.env.locals::X.fs:=fun b a=>by
 rcases I.ok.stk with e|⟨e,c⟩
 ·rw[e]at a;exact P4 _ a
 ·rw[e]at a;unfold frs at a;rw[T6,c]at a;exact a
theorem Inv.stkFree(I:Inv X B σ H s):∀b∈frs X.stack,H b=none:=fun b a=>by
 rcases L1.mp (I.stkSub b a)with e|a
 ·rw[e];exact I.free
 ·obtain⟨_,o,c,_⟩:=I.ok.funs.mem a;exact I.base.free b o c (I.ok.frf b a) fun z=>I.ok.exfs b z a
theorem Inv.step{g':Array ar6}{t':Nat}{d':Drawn}{ch:List K1}(I:Inv X B σ H s)
  (h:∀b∈ch,(b∈X.ex∨X.s₀.heap.objs.size<=b)/\b≠X.env.locals/\(∀x c,X.env.cells.lookup x=some c->c≠b)/\∀p∈X.pn++B,p.1≠b)
  (keep:∀b o,b≠X.env.locals->b∉X.fs->b∉ch->s.heap.get? b=some o->H b=none->h'.get? b=some o)
  (slot:∀b o,b≠X.env.locals->b∈X.fs->b∉ch->s.heap.get? b=some o->H b=none->∃P,h'.get? b=some { o with slots:=P }) (free:∀b o,b∉ch->s.heap.get? b=some o->H b=none->W b=none)
  (A:∀b o,b∉ch->s.heap.get? b=some o->∃G,h'.get? b=some G)
  (N:∀b xs,H b=some (.tup xs)->W b=some (.tup xs)) (M:∀b o u,H b=some (.frz o u)->W b=some (.frz o u)) (O:∀b ps,H b=some (.tbl ps)->∃more,W b=some (.tbl (ps++more)))
  (ns:∀m,s.heap.Ns X.env.locals m->h'.Ns X.env.locals m) (Q:HOk X.prog X.w W h') (hg:ar5 g') :
  Inv X B σ W { s with heap:=h',gens:=g',drawn:=d',toks:=t' }:=by
 have J:∀b o,X.s₀.heap.get? b=some o->b≠X.env.locals:=fun b o e=>K9 (K7 (K6 e) I.ok.above);have j:∀b o,X.s₀.heap.get? b=some o->b∉X.ex->b∉ch:=fun b o e a C=>by
  rcases(h b C).1 with z|z
  ·exact a z
  ·exact absurd (K7 (K6 e) z) (af2 _)
 have g:∀x c,X.env.cells.lookup x=some c->∀v,s.heap.IsCell c v->h'.IsCell c v:=fun x c e v z1z=>by
  obtain⟨o,E,R⟩:=z1z
  have f:c∉ch:=fun z=>(h c z).2.2.1 x c e rfl
  by_cases U:c∈X.fs
  ·obtain⟨P,q⟩:=slot c o (I.cne x c e) U f E (I.freeC x c e);exact⟨_,q,R⟩
  ·exact⟨o,keep c o (I.cne x c e) U f E (I.freeC x c e),R⟩
 refine⟨I.ok,I.os,hg,⟨fun b o e n C a=>?_,fun b o e n C a=>?_,fun b o e n a=>?_,fun b o e a=>?_,fun b xs e=>N b xs (I.base.tups b xs e),fun b o xs e=>M b o xs (I.base.frzs b o xs e),fun b ps e=>?_⟩,?_,fun x c e=>?_,?_,fun x c e=>?_,fun p Y=>?_,Q,I.len⟩
 ·exact keep b o (J b o e) C (j b o e a) (I.base.keep b o e n C a) (I.base.free b o e n a)
 ·obtain⟨P,w⟩:=I.base.slot b o e n C a;obtain⟨S,L⟩:=slot b _ (J b o e) C (j b o e a) w (I.base.free b o e n a);exact⟨S,L⟩
 ·obtain⟨G,w⟩:=I.base.there b o e a;exact free b G (j b o e a) w (I.base.free b o e n a)
 ·obtain⟨G,w⟩:=I.base.there b o e a;exact A b G (j b o e a) w
 ·obtain⟨m1,w⟩:=I.base.tbls b ps e;obtain⟨m2,L⟩:=O b _ w;exact⟨m1++m2,by rw[L,Array.append_assoc]⟩
 ·obtain⟨m,hn,hl⟩:=I.loc;refine⟨m,ns m hn,fun i x v w L e3=>?_⟩;obtain⟨u,r,l⟩:=hl i x v w L e3;refine⟨u,r,?_⟩;rcases l with l|⟨k,c,e,z⟩
  ·exact .inl l
  ·exact .inr ⟨k,c,e,g x c e _ z⟩
 ·obtain⟨v,z⟩:=I.cell x c e;exact⟨v,g x c e v z⟩
 ·obtain⟨m,⟨o,_,_,E,_⟩,_⟩:=I.loc;exact free _ o (fun z=>(h _ z).2.1 rfl) E I.free
 ·obtain⟨v,o,E,R⟩:=I.cell x c e;exact free c o (fun z=>(h c z).2.2.1 x c e rfl) E (I.freeC x c e)
 ·obtain⟨e,n,T,Z,d⟩:=I.pin p Y;have f:p.1∉ch:=fun z=>(h p.1 z).2.2.2 p Y rfl;exact⟨keep p.1 p.2 T Z f e n,free p.1 p.2 f e n,T,Z,d⟩
theorem Inv.un{t':Nat}(I:Inv X B σ H s) (u:Un X.fs [] H W s.heap h') (g:HOk X.prog X.w W h'):Inv X B σ W { s with heap:=h',toks:=t' }:=by
 obtain⟨m,⟨o,w,A,i,r⟩,_⟩:=id I.loc;obtain⟨q,p⟩:=u.any i I.free (by simp);exact I.step (g':=s.gens) (d':=s.drawn) (ch:=[]) (fun _ z=>nomatch z) (fun b o _ f _ e n=>u.keep b o e n f (by simp)) (fun b o _ f _ e n=>u.slot b o e n f (by simp)) (fun b o _ e n=>u.free b o e n (by simp)) (fun b o _ e=>u.there b o e (by simp)) u.tups u.frzs u.tbls (fun C j=>by
  obtain⟨x,c,h,a,l⟩:=j;rw[i]at a;cases a;exact⟨_,c,h,p,l⟩) g I.bare
theorem Inv.call{g':Array ar6}{t':Nat}{d':Drawn}{ch:List K1}(I:Inv X B σ H s) (u:Un (frs X.stack) ch H W s.heap h') (i:HOk X.prog X.w W h') (hg:ar5 g')
  (g:∀b∈ch,(b∈X.ex∨X.s₀.heap.objs.size<=b)/\b≠X.env.locals/\(∀x c,X.env.cells.lookup x=some c->c≠b)/\∀p∈X.pn++B,p.1≠b) :
  Inv X B σ W { s with heap:=h',gens:=g',drawn:=d',toks:=t' }:=by
 obtain⟨m,⟨o,G,L,q,r⟩,_⟩:=id I.loc;obtain⟨E,l⟩:=u.any q I.free fun z=>(g _ z).2.1 rfl;exact I.step (ch:=ch) g (fun b o l A a e n=>u.keep b o e n (fun z=>(L1.mp (I.stkSub b z)).elim l A) a) (fun b o _ _ a e n=>u.any e n a) (fun b o a e n=>u.free b o e n a) (fun b o a e=>u.there b o e a) u.tups u.frzs u.tbls (fun M w=>by
  obtain⟨J,h,j,f,C⟩:=w;rw[q]at f;cases f;exact⟨_,h,j,l,C⟩) i hg
theorem Inv.turned{t':Nat}{it:K1}(I:Inv X B σ H s) (k:∀b o,b≠it->s.heap.get? b=some o->h'.get? b=some o) (hn:H it=none) (g:it≠X.env.locals)
  (w:it∈X.ex∨X.s₀.heap.objs.size<=it) (l:∀x c,X.env.cells.lookup x=some c->c≠it) (h:∀p∈X.pn++B,p.1≠it):Inv X B σ H { s with heap:=h',toks:=t' }:=by
 have f:∀b u,H b=some u->b≠it:=fun b u e z=>by rw[z,hn]at e;cases e
 refine I.step (g':=s.gens) (d':=s.drawn) (ch:=[it]) (fun b A=>?_) (fun b o _ _ a e _=>k b o (fun z=>a (by simp[z])) e) (fun b o _ _ a e _=>⟨o.slots,k b o (fun z=>a (by simp[z])) e⟩) (fun _ _ _ _ n=>n)
  (fun b o a e=>⟨o,k b o (fun z=>a (by simp[z])) e⟩) (fun _ _ e=>e) (fun _ _ _ e=>e) (fun b G e=>⟨#[],by rw[e];simp⟩) (fun m j=>?_) (fun b u e=>?_) I.bare
 ·have e:b=it:=by simpa using A
  subst e;exact⟨w,g,l,h⟩
 ·obtain⟨o,i,E,C,r⟩:=j;exact⟨o,i,E,k _ o (ab6 g) C,r⟩
 ·refine(I.hok b u e).stay (fun c v a q=>k c v ?_ q) (fun _ q=>q) fun _ _ q=>q;rcases a with z|z
  ·rw[z];exact f b u e
  ·exact f c _ z
theorem Inv.tok(I:Inv X B σ H s) (t:Nat):Inv X B σ H { s with toks:=t }:=I.un (h':=s.heap) (t':=t) Un.refl I.hok
theorem Inv.kept{t':Nat}(I:Inv X B σ H s) (k:∀b u,s.heap.get? b=some u->h'.get? b=some u):Inv X B σ H { s with heap:=h',toks:=t' }:=I.un (Un.kept k) (I.hok.kept k)
theorem Inv.laid{a:K1}{o:HO}{t':Nat}(I:Inv X B σ H s) (k:∀b u,s.heap.get? b=some u->h'.get? b=some u) (c:s.heap.objs.size<=a) (new:bB X.prog X.w (upd H a o) h' a o) :
  Inv X B σ (upd H a o) { s with heap:=h',toks:=t' }:=I.un (Un.laid k c (I.hok.fresh c)) (I.hok.laid k c new)
theorem Inv.write{x e:K1}{o:HO}{t':Nat}(I:Inv X B σ H s) (c:Mut (H x)) (he:e=x∨H e=some (.own x)) (k:∀b u,b≠e->s.heap.get? b=some u->h'.get? b=some u) (a:∃u,h'.get? e=some u)
  (new:bB X.prog X.w (upd H x o) h' x o):Inv X B σ (upd H x o) { s with heap:=h',toks:=t' }:=I.un (Un.write c he k a) (I.hok.write c he k a new)
theorem Inv.pins_of{a:List (K1×Obj)}(I:Inv X B σ H s) (h:∀p∈a,s.heap.get? p.1=some p.2/\H p.1=none/\p.1≠X.env.locals/\p.1∉X.fs/\∀v,p.2.data≠.cell v):Inv X a σ H s :=
 ⟨I.ok,I.os,I.bare,I.base,I.loc,I.cell,I.free,I.freeC,fun p c=>(L4.mp c).elim (fun z=>I.pin p (Q8 _ z)) (h p),I.hok,I.len⟩
theorem t7{N:List Str}(e:N.Nodup) {i j:Nat}{x:Str}(a:N[i]?=some x) (b:N[j]?=some x):i=j:=by
 obtain⟨h,c⟩:=L6.mp a;obtain⟨g,f⟩:=L6.mp b;exact(List.getElem_inj e).mp (c.trans f.symm)
theorem qj{M:Model}{A:O9}{E:J3->J5->Prop}{i:Nat}{x:Str}{v:V}{u:J3}{Q:Unit->J5->Prop}(I:Inv X B σ H s) (hN:X.N.Nodup) (U:X.N[i]?=some x) (w:Loc X.env.scope x) (r:aF v u)
  (h:∀s',Inv X B (σ.set i (some v)) H s'->(∃a,O6 a s.heap s'.heap/\(a=X.env.locals∨X.env.cells.lookup x=some a))->Q () s') (hf:autoParam (X.fn x=true∨X.env.scope.names.lookup x=some .local) L2.zq3._auto_1):K5 M A (storeName X.env x u) Q E s:=by
 obtain⟨m,hn,hl⟩:=id I.loc;have Z:(X.env.scope.kind==.class || (X.env.scope.kind==.module&&X.env.locals != X.env.globals))=false:=by rw[I.ok.kind];rfl
 have J:i<σ.length:=by rw[I.len];exact(L6.mp U).1
 have cne:=I.cne;have g:∀{a:K1} {h':L5},(∃o,s.heap.get? a=some o/\H a=none)->O6 a s.heap h'->HOk X.prog X.w H h':=fun {a h'} ha hs b ob e=>by
  obtain⟨_,_,C⟩:=ha;refine(I.hok b ob e).stay (fun c w' l q=>(hs.2 c ?_).trans q) (fun _ q=>q) fun _ _ q=>q;rintro rfl;rcases l with rfl|l
  ·rw[C]at e;cases e
  ·rw[C]at l;cases l
 rcases w with L|L
 ·refine wpAny_storeName_local L hn (fun h' a0 hs=>?_) Z;obtain⟨oL,_,_,a1,_⟩:=id hn;refine h _ ⟨I.ok,I.os,I.bare,⟨fun b o e n O w=>?_,fun b o e n O w=>?_,I.base.free,fun b o e w=>?_,I.base.tups,I.base.frzs,I.base.tbls⟩,⟨_,a0,fun j y v' f G e3=>?_⟩,fun y c e=>?_,I.free,I.freeC,fun p hp=>?_,g ⟨oL,a1,I.free⟩ hs,by simpa using I.len⟩ ⟨_,hs,.inl rfl⟩
  ·exact(hs.2 b (K9 (K7 (K6 e) I.ok.above))).trans (I.base.keep b o e n O w)
  ·obtain⟨sl,f⟩:=I.base.slot b o e n O w;exact⟨sl,(hs.2 b (K9 (K7 (K6 e) I.ok.above))).trans f⟩
  ·obtain⟨o',f⟩:=I.base.there b o e w;exact⟨o',(hs.2 b (K9 (K7 (K6 e) I.ok.above))).trans f⟩
  ·by_cases N:j=i
   ·subst N;rw[U]at f;cases f;rw[ab4 J]at G;cases G;exact⟨u,r,.inl ⟨L,by simp⟩⟩
   ·rw[ag4 (ab6 N)]at G;obtain⟨u',r',q⟩:=hl j y v' f G e3;refine⟨u',r',?_⟩;rcases q with⟨k,e⟩|⟨k,c,e,z⟩
    ·refine .inl ⟨k,?_⟩;have:y≠x:=fun e=>N (t7 hN f (e▸U));simp[this,e]
    ·exact .inr ⟨k,c,e,z.sameBut hs (cne y c e)⟩
  ·obtain⟨w',z⟩:=I.cell y c e;exact⟨w',z.sameBut hs (cne y c e)⟩
  ·obtain⟨e,n,ne,nf,d⟩:=I.pin p hp;exact⟨(hs.2 p.1 ne).trans e,n,ne,nf,d⟩
 ·have P:X.fn x=true:=by
   rcases hf with z|z
   ·exact z
   ·rw[z]at L;cases L
  obtain⟨c,l⟩:=I.ok.has x (.inl L);obtain⟨w',z⟩:=I.cell x c l;refine wpAny_storeName_cell I.ok.kind L l z (fun h' S hs=>?_);obtain⟨oc,T,R⟩:=id z;refine h { s with heap:=h' } ⟨I.ok,I.os,I.bare,⟨fun b o e n O w=>?_,fun b o e n O w=>?_,I.base.free,fun b o e w=>?_,I.base.tups,I.base.frzs,I.base.tbls⟩,⟨m,hn.sameBut hs (ab6 (cne x c l)),fun j y v' f G e3=>?_⟩,fun y c' e=>?_,I.free,I.freeC,fun p hp=>?_,g ⟨oc,T,I.freeC x c l⟩ hs,by simpa using I.len⟩ ⟨c,hs,.inr l⟩
  ·exact(hs.2 b (K9 (K7 (K6 e) (I.ok.cab x c P l)))).trans (I.base.keep b o e n O w)
  ·obtain⟨sl,f⟩:=I.base.slot b o e n O w;exact⟨sl,(hs.2 b (K9 (K7 (K6 e) (I.ok.cab x c P l)))).trans f⟩
  ·obtain⟨o',f⟩:=I.base.there b o e w;exact⟨o',(hs.2 b (K9 (K7 (K6 e) (I.ok.cab x c P l)))).trans f⟩
  ·by_cases N:j=i
   ·subst N;rw[U]at f;cases f;rw[ab4 J]at G;cases G;exact⟨u,r,.inr ⟨.inl L,c,l,S⟩⟩
   ·rw[ag4 (ab6 N)]at G;obtain⟨u',r',q⟩:=hl j y v' f G e3;refine⟨u',r',?_⟩;rcases q with q|⟨k,c',e,z'⟩
    ·exact .inl q
    ·refine .inr ⟨k,c',e,z'.sameBut hs ?_⟩;rintro rfl;exact N (t7 hN f (I.ok.inj _ _ _ e l▸U))
  ·by_cases Y:c'=c
   ·subst Y;exact⟨_,S⟩
   ·obtain⟨w2,z2⟩:=I.cell y c' e;exact⟨w2,z2.sameBut hs Y⟩
  ·obtain⟨e,n,ne,nf,d⟩:=I.pin p hp;refine⟨(hs.2 p.1 ?_).trans e,n,ne,nf,d⟩;intro q;rw[q,T]at e;have q':oc=p.2:=V0 e;exact d w' (by rw[<-q'];exact R)
theorem ox{M:Model}{A:O9}{E:J3->J5->Prop}{i:Nat}{x:Str}{v:V}{u:J3}{Q:Unit->J5->Prop}(I:Inv X B σ H s) (g:X.N.Nodup) (e:X.N[i]?=some x) (c:Loc X.env.scope x) (r:aF v u)
  (h:∀s',Inv X B (σ.set i (some v)) H s'->Q () s') (a:autoParam (X.fn x=true∨X.env.scope.names.lookup x=some .local) L2.zq3._auto_1):K5 M A (storeName X.env x u) Q E s :=
 qj I g e c r (fun s' f _=>h s' f) a
theorem Inv.call'{s':J5}{ch:List K1}(I:Inv X B σ H s) (l:s'.os=s.os) (u:Un (frs X.stack) ch H W s.heap s'.heap) (a:HOk X.prog X.w W s'.heap) (hg:ar5 s'.gens)
  (f:∀b∈ch,(b∈X.ex∨X.s₀.heap.objs.size<=b)/\b≠X.env.locals/\(∀x c,X.env.cells.lookup x=some c->c≠b)/\∀p∈X.pn++B,p.1≠b):Inv X B σ W s':=by
 obtain⟨h',i,h,g,j⟩:=s';have e:j=s.os:=l;subst e;exact I.call (g':=i) (t':=g) (d':=h) u a hg f
end
abbrev XK:=J3->Option K1->Hp->Prop
abbrev St:=List (Option V)
abbrev VK:=V->Hp->Prop
abbrev TE:=St->Hp->VK->Prop
abbrev TT:=St->Hp->(Bool->Hp->Prop)->Prop
abbrev TA:=St->Hp->(List V->Hp->Prop)->Prop
structure ur where
 nx:St->Hp->Prop
 rt:VK
 bk:St->Hp->Prop:=fun _ _=>False
 ct:St->Hp->Prop:=fun _ _=>False
abbrev TS:=ur->St->Hp->Prop
def EP(X:Cx) (c:List (K1×Obj)) (σ:St) (Q:VK) (u:J3) (s':J5):Prop:=∃v a,Inv X c σ a s'/\aF v u/\Q v a
def TP(X:Cx) (c:List (K1×Obj)) (σ:St) (Q:Bool->Hp->Prop) (b:Bool) (s':J5):Prop:=∃a,Inv X c σ a s'/\Q b a
def AP(X:Cx) (e:List (K1×Obj)) (σ:St) (Q:List V->Hp->Prop) (us:List J3) (s':J5):Prop:=∃a c,Inv X e σ c s'/\ax a us/\Q a c
theorem EP.el{X:Cx}{e:List (K1×Obj)}{σ:St}{Q:VK}{u:J3}{s:J5}{P:Prop}(h:EP X e σ Q u s) (f:∀(v:V) (H:Hp),Inv X e σ H s->aF v u->Q v H->P):P:=by
 obtain⟨i,g,a,b,c⟩:=h;exact f i g a b c
theorem AP.el{X:Cx}{e:List (K1×Obj)}{σ:St}{Q:List V->Hp->Prop}{u:List J3}{s:J5}{P:Prop}(h:AP X e σ Q u s) (f:∀(v:List V) (H:Hp),Inv X e σ H s->ax v u->Q v H->P):P:=by
 obtain⟨i,g,a,b,c⟩:=h;exact f i g a b c
theorem TP.el{X:Cx}{c:List (K1×Obj)}{σ:St}{Q:Bool->Hp->Prop}{u:Bool}{s:J5}{P:Prop}(h:TP X c σ Q u s) (f:∀(H:Hp),Inv X c σ H s->Q u H->P):P:=by
 obtain⟨e,a,b⟩:=h;exact f e a b
def SP(X:Cx) (e:List (K1×Obj)) (D:ur) (f:Flow) (s':J5):Prop :=
 match f with
 |.next=>∃ a c,Inv X e a c s'/\D.nx a c
 |.brk=>∃ a c,Inv X e a c s'/\D.bk a c
 |.cont=>∃ a c,Inv X e a c s'/\D.ct a c
 |.ret u=>∃v a c,Inv X e a c s'/\aF v u/\D.rt v c
def PE(X:Cx) (e:O4) (t:TE):Prop :=
 ∀(c:List (K1×Obj)) (s:J5) (a:St) (H:Hp) (Q:VK),Inv X c a H s->t a H Q->K5 (N3 X.prog X.w) X.A (af7 e X.env) (EP X c a Q) X.xe s
def PT(X:Cx) (e:O4) (t:TT):Prop :=
 ∀(c:List (K1×Obj)) (s:J5) (a:St) (H:Hp) (Q:Bool->Hp->Prop),Inv X c a H s->t a H Q->K5 (N3 X.prog X.w) X.A (isTrue e X.env (af7 e X.env)) (TP X c a Q) X.xe s
def PW(X:Cx) (e:O4) (t:TT):Prop :=
 ∀(a:Sem J3) (f:List (K1×Obj)) (s:J5) (c:St) (H:Hp) (Q:Bool->Hp->Prop),Inv X f c H s->t c H Q->K5 (N3 X.prog X.w) X.A (isTrue e X.env a) (TP X f c Q) X.xe s
theorem PW.pt{X:Cx}{e:O4}{t:TT}(h:PW X e t):PT X e t:=h _
def PA(X:Cx) (f:List O4) (t:TA):Prop :=
 ∀(a:Pos) (e:List (K1×Obj)) (s:J5) (c:St) (H:Hp) (Q:List V->Hp->Prop),Inv X e c H s->t c H Q->K5 (N3 X.prog X.w) X.A (at4 (aa2 a (K8 f X.env))) (AP X e c Q) X.xe s
def PS(X:Cx) (st:ae4) (t:TS):Prop :=
 ∀(a:List (K1×Obj)) (s:J5) (c:St) (H:Hp) (D:ur),Inv X a c H s->t D c H->K5 (N3 X.prog X.w) X.A (exec st X.env) (SP X a D) X.xe s
def PSs(X:Cx) (st:List ae4) (t:TS):Prop :=
 ∀(a:List (K1×Obj)) (s:J5) (c:St) (H:Hp) (D:ur),Inv X a c H s->t D c H->K5 (N3 X.prog X.w) X.A (execs st X.env) (SP X a D) X.xe s
theorem thn{c:Type}{t:Sem c}{Q e:c->J5->Prop}{M:Model}{A:O9}{E:J3->J5->Prop}{s:J5}(h:K5 M A t Q E s) (f:∀a s,Q a s->e a s):K5 M A t e E s:=U6 h f fun _ _ x=>x
section
variable{X:Cx}
def Jl(i:Nat):TE:=fun a H Q=>∃v,a[i]?=some (some v)/\Q v H
def tC(v:V):TE:=fun _ H Q=>Q v H
theorem Bz{i:Nat}{x:Str}{y:Pos}(B:X.N[i]?=some x) (A:Vis X.env.scope x) (j:autoParam ((x==("__debug__":Str))=false) L2.zq1._auto_1) (n:autoParam ((x==("__classdict__":Str))=false) L2.zq1._auto_1):PE X (.Name x y) (Jl i):=by
 intro p s z H Q I h;obtain⟨v,e,h⟩:=h;obtain⟨m,C,q⟩:=I.loc;obtain⟨u,r,l⟩:=q i x v B e A;have f:EP X p z Q u s:=⟨v,H,I,r,h⟩;rcases l with⟨g,w⟩|⟨g,c,o,a⟩
 ·exact wpAny_Name (wpAny_loadName_local I.ok.kind g C w f) j
 ·rcases g with g|g
  ·exact wpAny_Name (wpAny_loadName_cell I.ok.kind g o a f) j
  ·exact wpAny_Name (wpAny_loadName_free I.ok.kind g o a f n) j
theorem F9{i j y}:PE X (.Constant (.int i) j y) (tC (.int i)):=fun _ _ _ H _ I h=>wpAny_Constant_int ⟨.int i,H,I.tok _,⟨_,rfl⟩,h⟩
theorem Hr{b j y}:PE X (.Constant (.bool b) j y) (tC (.bl b)):=fun _ _ _ H _ I h=>Constant_bool ⟨.bl b,H,I,rfl,h⟩
theorem EX{j y}:PE X (.Constant .none j y) (tC .non):=fun _ _ _ H _ I h=>Constant_none ⟨.non,H,I,rfl,h⟩
theorem Fd{x j y}:PE X (.Constant (.str x) j y) (tC (.str x)):=fun _ _ _ H _ I h=>Calls.Constant_str ⟨.str x,H,I.tok _,⟨_,rfl⟩,h⟩
def Gl(X:Cx) (x:Str):Prop:=X.env.kindOf x=some .globalImplicit
theorem kE{E:J3->J5->Prop}{a:List (K1×Obj)}{s:J5}{σ:St}{H:Hp}{x:Str}{u:J3}{y:Pos}{Q:J3->J5->Prop}(I:Inv X a σ H s) (hg:Gl X x) (e:X.mg x=some u) (h:Q u s)
  (c:autoParam ((x==("__debug__":Str))=false) L2.zq1._auto_1):K5 (N3 X.prog X.w) X.A (af7 (.Name x y) X.env) Q E s :=
 Calls.Name_function_global I.ok.kind hg (Calls.loadGlobal_global (by rw[I.ok.glob];exact I.mod.glob.keeps I.bk) e h) c
theorem cO{E:J3->J5->Prop}{g:List (K1×Obj)}{s:J5}{σ:St}{H:Hp}{x:Str}{u:J3}{y:Pos}{Q:J3->J5->Prop}(I:Inv X g σ H s) (hg:Gl X x) (c:X.mg x=none) (i:ac5 x=some u) (h:Q u s)
  (hn:autoParam (x≠"__name__") L2.zq1._auto_1) (a:autoParam ((x==("__debug__":Str))=false) L2.zq1._auto_1):K5 (N3 X.prog X.w) X.A (af7 (.Name x y) X.env) Q E s:=by
 obtain⟨j,f,e⟩:=I.mod.blt;exact Calls.Name_function_global I.ok.kind hg (Calls.loadGlobal_builtin (by rw[I.ok.glob];exact I.mod.glob.keeps I.bk) c (by rw[I.ok.blt];exact f.keeps I.bk) ((e x hn).trans i) h) a
theorem wR{x:Str}{v:V}{u:J3}{y:Pos}(hg:Gl X x) (c:X.mg x=some u) (r:aF v u) (a:autoParam ((x==("__debug__":Str))=false) L2.zq1._auto_1):PE X (.Name x y) (tC v) :=
 fun _ _ _ H _ I h=>kE I hg c ⟨v,H,I,r,h⟩ a
theorem BU{x:Str}{v:V}{u:J3}{y:Pos}(hg:Gl X x) (e:X.mg x=none) (c:ac5 x=some u) (r:aF v u) (hn:autoParam (x≠"__name__") L2.zq1._auto_1) (a:autoParam ((x==("__debug__":Str))=false) L2.zq1._auto_1):PE X (.Name x y) (tC v) :=
 fun _ _ _ H _ I h=>cO I hg e c ⟨v,H,I,r,h⟩ hn a
variable{a b:O4}{z B:TE}{y:Pos}
def PC(X:Cx) (op:am8) (a b:O4) (t:TE):Prop :=
 ∀(g:List (K1×Obj)) (s:J5) (f:St) (H:Hp) (Q:VK),Inv X g f H s->t f H Q ->
  K5 (N3 X.prog X.w) X.A (af7 a X.env) (fun v c=>K5 (N3 X.prog X.w) X.A (af7 b X.env) (fun u e=>K5 (N3 X.prog X.w) X.A (Q9 op v u) (EP X g f Q) X.xe e) X.xe c) X.xe s
theorem AX(b:O4) {op:am8}(h:op≠.In) (e:op≠.NotIn):X1 op b=false:=by
 have a:(op==am8.In)=false:=by cases op<;>first|rfl|exact absurd rfl h
 have c:(op==am8.NotIn)=false:=by cases op<;>first|rfl|exact absurd rfl e
 cases b<;>first|rfl|(show(_&&(op==am8.In || op==am8.NotIn)&&_)=false;rw[a,c,Bool.or_false,ak8,R5])
def tB(t:TE):TT:=fun e H Q=>t e H fun x a=>∃c,x=.bl c/\Q c a
theorem vF{op:am8}{t:TE}(h:PC X op a b t) (f:X1 op b=false):PE X (.Compare a [op] [b] y) t:=fun c s g H Q I e=>wpAny_Compare1 (h c s g H Q I e) f
theorem qV{op:am8}{t:TE}(h:PC X op a b t) (e:X1 op b=false):PT X (.Compare a [op] [b] y) (tB t):=by
 intro l s g H Q I m;refine wpAny_isTrue_Compare1 (thn (h l s g H _ I m) fun v z e=>thn e fun u w j=>thn j fun c A f=>f.el fun x p o i n=>?_) e;obtain⟨d,rfl,q⟩:=n;cases i;exact U0 ⟨p,o,q⟩
theorem EV{e:O4}{t:TE}(h:PE X e t) (he:autoParam (∀a,isTrue e X.env a=(do let v <-a;standAt e.pos;ax4 [v] (truthy v))) L2.zq2._auto_1):PT X e (tB t):=by
 intro i s f H Q I j;refine isTrue_plain (thn (h i s f H _ I j) fun v o c=>c.el fun x n m g l=>?_) (he _);obtain⟨d,rfl,q⟩:=l;cases g;exact U0 ⟨n,m,q⟩
variable{W Y:TT}{rest:List O4}
def JA(t u:TT):TT:=fun e H Q=>t e H fun c a=>if c=true then u e a Q else Q false a
def tOr(t u:TT):TT:=fun e H Q=>t e H fun c a=>if c=true then Q true a else u e a Q
def Jg(t:TT):TT:=fun e H Q=>t e H fun c a=>Q (!c) a
theorem Dl(ha:PT X a W):PW X (.BoolOp .And [a] y) W:=by
 intro i f s g H Q I h;refine isTrue_and (thn (ha f s g H Q I h) fun c j e=>?_);cases c with
 |true=>exact isTrue_and_nil e
 |false=>exact e
theorem Fp(ha:PT X a W):PW X (.BoolOp .Or [a] y) W:=by
 intro i f s g H Q I h;refine isTrue_or (thn (ha f s g H Q I h) fun c j e=>?_);cases c with
 |false=>exact isTrue_or_nil e
 |true=>exact e
theorem Gb(ha:PT X a W) (o:PW X (.BoolOp .And (b::rest) y) Y):PW X (.BoolOp .And (a::b::rest) y) (JA W Y):=by
 intro m g s f H Q I h;refine isTrue_and (thn (ha g s f H _ I h) fun c n e=>e.el fun l j i=>?_);cases c with
 |true=>exact o m g n f l Q j i
 |false=>exact⟨l,j,i⟩
theorem Iz(ha:PT X a W) (o:PW X (.BoolOp .Or (b::rest) y) Y):PW X (.BoolOp .Or (a::b::rest) y) (tOr W Y):=by
 intro m g s f H Q I h;refine isTrue_or (thn (ha g s f H _ I h) fun c n e=>e.el fun l j i=>?_);cases c with
 |true=>exact⟨l,j,i⟩
 |false=>exact o m g n f l Q j i
theorem Gf(ha:PT X a W):PT X (.UnaryOp .Not a y) (Jg W):=by
 intro e s g H Q I h;exact isTrue_not (ha e s g H (fun c f=>Q (!c) f) I h)
def Ib(z B:TE):TE:=fun e H Q=>z e H fun x a=>∃c,x=.bl c/\if c=true then B e a Q else Q (.bl false) a
def Jc(z B:TE):TE:=fun e H Q=>z e H fun x a=>∃c,x=.bl c/\if c=true then Q (.bl true) a else B e a Q
def GE(z:TE):TE:=fun e H Q=>z e H fun x a=>∃c,x=.bl c/\Q (.bl (!c)) a
theorem E3{op}{t:TE}(h:PE X a t):PE X (.BoolOp op [a] y) t:=fun c s f H Q I e=>BoolOp_one (h c s f H Q I e)
theorem Eh(ha:PE X a z) (o:PE X (.BoolOp .And (b::rest) y) B):PE X (.BoolOp .And (a::b::rest) y) (Ib z B):=by
 intro i s g H Q I h;refine BoolOp_and (thn (ha i s g H _ I h) fun v n f=>f.el fun x l j m e=>?_);obtain⟨c,rfl,e⟩:=e;cases m;refine U0 ?_;cases c with
 |true=>exact o i n g l Q j e
 |false=>exact⟨.bl false,l,j,rfl,e⟩
theorem Ir(ha:PE X a z) (o:PE X (.BoolOp .Or (b::rest) y) B):PE X (.BoolOp .Or (a::b::rest) y) (Jc z B):=by
 intro i s g H Q I h;refine BoolOp_or (thn (ha i s g H _ I h) fun v n f=>f.el fun x l j m e=>?_);obtain⟨c,rfl,e⟩:=e;cases m;refine U0 ?_;cases c with
 |false=>exact o i n g l Q j e
 |true=>exact⟨.bl true,l,j,rfl,e⟩
theorem FE(ha:PE X a z):PE X (.UnaryOp .Not a y) (GE z):=by
 intro g s m H Q I h;refine UnaryOp_ (thn (ha g s m H _ I h) fun v n e=>e.el fun x i l j f=>?_);obtain⟨c,rfl,f⟩:=f;cases j;exact not_of (U0 ⟨.bl (!c),i,l,rfl,f⟩)
def tIf(t:TT) (z B:TE):TE:=fun a H Q=>t a H fun c e=>if c=true then z a e Q else B a e Q
theorem zS{c:O4}(n:PT X c W) (ha:PE X a z) (o:PE X b B):PE X (.IfExp c a b y) (tIf W z B):=by
 intro f s e H Q I h;refine wpAny_IfExp (thn (n f s e H _ I h) fun d j g=>g.el fun m l i=>?_);cases d with
 |true=>exact ha f j e m Q l i
 |false=>exact o f j e m Q l i
end
def SqL(K:J4) (H:Hp) (a:K1) (xs:List V):Prop :=
 Rd H a (.lst xs) ∨
  ∃(o:Obj) (its:Array J3) (n:Nat),K.lookup a=some o/\o.cls=.type "list"/\o.dict=none/\o.data=.seq its n/\its.size<=K0/\ax xs its.toList
def SqT(K:J4) (H:Hp) (a:K1) (xs:List V):Prop :=
 Rd H a (.tup xs) ∨
  ∃(o:Obj) (its:Array J3) (n:Nat),K.lookup a=some o/\(o.cls=.type "tuple"/\o.dict=none)/\o.data=.seq its n/\its.size<=K0/\ax xs its.toList
noncomputable def IV:J3->Option V
 |.none=>some .non
 |.bool b=>some (.bl b)
 |.int i _=>some (.int i)
 |.str x _=>some (.str x)
 |.bytes b _=>some (.byt b)
 |.float b _=>some (.flt b)
 |.ref a=>some (.ref a)
 |.type n=>some (.ty n)
 |_=>none
theorem aF.abs{x:V}{u:J3}(r:aF x u):IV u=some x:=by
 cases x with
 |non=>cases r;rfl
 |bl _=>cases r;rfl
 |int _=>obtain⟨t,rfl⟩:=r;rfl
 |str _=>obtain⟨t,rfl⟩:=r;rfl
 |byt _=>obtain⟨t,rfl⟩:=r;rfl
 |flt _=>obtain⟨t,rfl⟩:=r;rfl
 |ref _=>cases r;rfl
 |ty _=>cases r;rfl
theorem aF.inj{x y:V}{u:J3}(r:aF x u) (q:aF y u):x=y:=V0 (r.abs.symm.trans q.abs)
theorem ax.inj:∀{xs a:List V}{us:List J3},ax xs us->ax a us->xs=a
 |_,_,_,.nil,.nil=>rfl
 |_,_,_,.cons r t,.cons e c=>by rw[r.inj e,ax.inj t c]
section
variable{X:Cx}{y:List (K1×Obj)}{σ:St}{H:Hp}{s:J5}{a:K1}{xs B:List V}
theorem SqL.of{K:J4}(h:H a=some (.lst xs)):SqL K H a xs:=.inl (.inl h)
theorem SqT.of{K:J4}(h:H a=some (.tup xs)):SqT K H a xs:=.inl (.inl h)
theorem Inv.list(I:Inv X y σ H s) (h:SqL X.K H a xs):∃its:List J3,ax xs its/\PlainL s.heap a its.toArray/\xs.length<=K0:=by
 rcases h with h|⟨o,its,n,f,g,c,hs,i,r⟩
 ·obtain⟨z,its,n,r,e⟩:=h.ok I.hok;exact⟨its,r,⟨_,n,e,rfl,rfl,rfl⟩,z⟩
 ·refine⟨its.toList,r,⟨o,n,I.kIn a o f,g,c,by simpa using hs⟩,?_⟩;have e:=r.length;simp only[L8]at e
  lia
theorem Inv.tuple(I:Inv X y σ H s) (h:SqT X.K H a xs):∃its:List J3,ax xs its/\aj8 s.heap a its.toArray/\xs.length<=K0:=by
 rcases h with h|⟨o,its,n,c,f,hs,g,r⟩
 ·obtain⟨z,its,r,p⟩:=h.ok I.hok;exact⟨its,r,p.tup,z⟩
 ·refine⟨its.toList,r,⟨o,I.kIn a o c,f.1,n,by simpa using hs⟩,?_⟩;have e:=r.length;simp only[L8]at e
  lia
theorem Inv.tupN(I:Inv X y σ H s) (h:SqT X.K H a xs):∃its:List J3,ax xs its/\lq s.heap a its.toArray/\xs.length<=K0:=by
 rcases h with h|⟨o,its,n,f,c,hs,g,r⟩
 ·obtain⟨z,its,r,p⟩:=h.ok I.hok;exact⟨its,r,p,z⟩
 ·refine⟨its.toList,r,⟨o,I.kIn a o f,c.1,⟨n,by simpa using hs⟩,c.2⟩,?_⟩;have e:=r.length;have i:its.toList.length=its.size:=L8
  lia
theorem Inv.list_inj(I:Inv X y σ H s) (h:SqL X.K H a xs) (h':SqL X.K H a B):xs=B:=by
 obtain⟨its,r,⟨o,n,e,_,_,d⟩,_⟩:=I.list h;obtain⟨c,j,⟨m,l,f,_,_,g⟩,_⟩:=I.list h';rw[e]at f;cases f;rw[d]at g;injection g with i _
 have:its=c:=by simpa using congrArg Array.toList i
 subst this;exact r.inj j
theorem Inv.tuple_inj(I:Inv X y σ H s) (h:SqT X.K H a xs) (h':SqT X.K H a B):xs=B:=by
 obtain⟨its,r,⟨o,e,_,n,d⟩,_⟩:=I.tuple h;obtain⟨c,j,⟨m,f,_,l,g⟩,_⟩:=I.tuple h';rw[e]at f;cases f;rw[d]at g;injection g with i _
 have:its=c:=by simpa using congrArg Array.toList i
 subst this;exact r.inj j
end
noncomputable abbrev Cx.wish(X:Cx) (E:J3->J5->Prop):Cx:={ X with xe:=E }
noncomputable abbrev Cx.nox(X:Cx):Cx:=X.wish fun _ _=>False
theorem Cx.Ok.wish{X:Cx}(ok:X.Ok) (E:J3->J5->Prop):(X.wish E).Ok :=
 ⟨ok.mod,ok.kind,ok.glob,ok.blt,ok.above,ok.inj,ok.has,ok.cab,ok.hd,ok.frames,ok.stk,ok.exf,ok.bs,ok.bsz,ok.noex,ok.exfs,ok.funs,ok.frf⟩
theorem Cx.Ok.unwish{X:Cx}{E:J3->J5->Prop}(ok:(X.wish E).Ok):X.Ok :=
 ⟨ok.mod,ok.kind,ok.glob,ok.blt,ok.above,ok.inj,ok.has,ok.cab,ok.hd,ok.frames,ok.stk,ok.exf,ok.bs,ok.bsz,ok.noex,ok.exfs,ok.funs,ok.frf⟩
section
variable{X:Cx}{y:List (K1×Obj)}{σ:St}{H:Hp}{s:J5}{E:J3->J5->Prop}
theorem Inv.wish(I:Inv X y σ H s) (E:J3->J5->Prop):Inv (X.wish E) y σ H s:=⟨I.ok.wish E,I.os,I.bare,I.base,I.loc,I.cell,I.free,I.freeC,I.pin,I.hok,I.len⟩
theorem Inv.unwish(I:Inv (X.wish E) y σ H s):Inv X y σ H s:=⟨I.ok.unwish,I.os,I.bare,I.base,I.loc,I.cell,I.free,I.freeC,I.pin,I.hok,I.len⟩
theorem SP.unwish{D:ur}{f:Flow}{s':J5}(h:SP (X.wish E) y D f s'):SP X y D f s':=by
 cases f with
 |next=>obtain⟨a,c,I,q⟩:=h;exact⟨a,c,I.unwish,q⟩
 |brk=>obtain⟨a,c,I,q⟩:=h;exact⟨a,c,I.unwish,q⟩
 |cont=>obtain⟨a,c,I,q⟩:=h;exact⟨a,c,I.unwish,q⟩
 |ret u=>obtain⟨v,a,c,I,r,q⟩:=h;exact⟨v,a,c,I.unwish,r,q⟩
theorem PSs.nox{st:List ae4}{t:TS}(h:PSs X.nox st t):PSs X st t:=fun y s σ H D I a =>
 U6 (h y s σ H D (I.wish _) a) (fun _ _ q=>q.unwish) fun _ _ z=>ad1 z
end
section
variable{X:Cx}{st:ae4}{rest:List ae4}{t u:TS}{e:O4}{te:TE}{y:Pos}
def HS:TS:=fun D a H=>D.nx a H
def IT(t u:TS):TS:=fun D a H=>t { D with nx:=u D } a H
theorem C4:PSs X [] HS:=fun _ _ a H _ I h=>ap2 ⟨a,H,I,h⟩
theorem Al(j:PS X st t) (i:PSs X rest u):PSs X (st::rest) (IT t u):=by
 intro c s g H D I h;refine wpAny_execs_cons (thn (j c s g H { D with nx:=u D } I h) fun f l q=>?_);cases f with
 |next =>
  obtain⟨a,e,m,q⟩:=q;exact i c l a e D m q
 |ret v=>exact q
 |brk=>exact q
 |cont=>exact q
theorem BY(c:PS X st t):PSs X [st] t:=by
 intro a s e H D I h;refine wpAny_execs_cons (thn (c a s e H D I h) fun f g q=>?_);cases f with
 |next=>exact ap2 q
 |ret v=>exact q
 |brk=>exact q
 |cont=>exact q
theorem Inv.quiet{a:List (K1×Obj)}{σ:St}{H:Hp}{s:J5}(I:Inv X a σ H s):interactive X.env=false:=by simp[interactive,I.ok.kind]
def Iy(te:TE):TS:=fun D a H=>te a H fun _ c=>D.nx a c
theorem Dg(he:PE X e te) (hs:autoParam (ak9 e none y.line X.env=ak7 false) L2.zq0._auto_1):PS X (.Expr e y) (Iy te):=by
 intro f s c H D I h;exact wpAny_Expr_any (thn (he f s c H _ I h) fun v m a=>a.el fun x i j l g=>⟨c,i,j,g⟩) I.quiet hs
def Jj(te:TE):TS:=fun D a H=>te a H D.rt
theorem uR(he:PE X e te):PS X (.Return (some e) y) (Jj te):=by
 intro f s c H D I h;exact wpAny_Return_some (thn (he f s c H _ I h) fun v m a=>a.el fun x i l j g=>⟨x,c,i,l,j,g⟩)
def Ja(c:TT) (t u:TS):TS:=fun D a H=>c a H fun b e=>if b=true then t D a e else u D a e
theorem Iq{c:O4}{a b:List ae4}{tc:TT}(o:PT X c tc) (ha:PSs X a t) (n:PSs X b u):PS X (.If c a b y) (Ja tc t u):=by
 intro e s g H D I h;refine wpAny_If (thn (o e s g H _ I h) fun d j f=>f.el fun m l i=>?_);cases d with
 |true=>exact ha e j g m D l i
 |false=>exact n e j g m D l i
end
abbrev TG:=V->St->Hp->(St->Hp->Prop)->Prop
abbrev TGs:=List V->St->Hp->(St->Hp->Prop)->Prop
def PG(X:Cx) (a:O4) (t:TG):Prop :=
 ∀(e:List (K1×Obj)) (s:J5) (g:St) (H:Hp) (v:V) (u:J3) (Q:St->Hp->Prop),Inv X e g H s->aF v u->t v g H Q ->
  K5 (N3 X.prog X.w) X.A (at0 a X.env u) (fun _ h=>∃ c f,Inv X e c f h/\Q c f) X.xe s
def PGs(X:Cx) (i:List O4) (t:TGs):Prop :=
 ∀(c:List (K1×Obj)) (s:J5) (h:St) (H:Hp) (g:List V) (f:List J3) (Q:St->Hp->Prop),Inv X c h H s->ax g f->t g h H Q ->
  K5 (N3 X.prog X.w) X.A (assignInOrder ((ad2 i X.env).map (·.2)) f) (fun _ j=>∃ a e,Inv X c a e j/\Q a e) X.xe s
abbrev TIp:=V->V->Hp->VK->Prop
def PIp(X:Cx) (op:ax0) (t:TIp):Prop :=
 ∀(a:List (K1×Obj)) (s:J5) (c:St) (H:Hp) (x y:V) (v u:J3) (Q:VK),Inv X a c H s->aF x v->aF y u->t x y H Q ->
  K5 (N3 X.prog X.w) X.A (ax5 op v u) (EP X a c Q) X.xe s
section
variable{X:Cx}{B:Pos}
def uk(i:Nat):TG:=fun v a H Q=>Q (a.set i (some v)) H
theorem wf{i:Nat}{x:Str}(f:X.N.Nodup) (a:X.N[i]?=some x) (g:Loc X.env.scope x) (e:autoParam (X.fn x=true∨X.env.scope.names.lookup x=some .local) L2.zq3._auto_1):PG X (.Name x B) (uk i):=by
 intro j s l H v u Q I r h;exact wpAny_assign_Name (ox I f a g r (fun m c=>⟨_,H,c,h⟩) e)
def FO:TGs:=fun a c H Q=>a=[]/\Q c H
def zG(t:TG) (u:TGs):TGs:=fun e f H Q=>∃v r,e=v::r/\t v f H fun a c=>u r a c Q
theorem v9:PGs X [] FO:=by
 intro c s a H g f Q I r h;obtain⟨e,h⟩:=h;subst e;cases r;exact assignInOrder_nil ⟨a,H,I,h⟩
theorem t9{e:O4}{a:List O4}{t:TG}{u:TGs}(q:PG X e t) (p:PGs X a u)
  (hs:autoParam ((ad2 (e::a) X.env).map (·.2)=at0 e X.env::(ad2 a X.env).map (·.2)) L2.zq0._auto_1):PGs X (e::a) (zG t u):=by
 intro f s n H x z Q I r h;obtain⟨v,w,g,h⟩:=h;subst g;cases r with
 |cons r i =>
  rw[hs];refine assignInOrder_cons (thn (q f s n H _ _ _ I r h) fun _ l z2z=>?_);obtain⟨c,o,m,j⟩:=z2z;exact p f l c o _ _ Q m i j
def Ga(K:J4) (n:Nat) (t:TGs):TG:=fun v e H Q=>∃a c,v=.ref a/\SqT K H a c/\c.length=n/\t c e H Q
theorem Ay{c:List O4}{k:Nat}{t:TGs}{n:Nat}(A:X.calm=true) (h:PGs X c t)
  (hn:autoParam ((ad2 c X.env).length=n) L2.zq0._auto_1) (g:autoParam ((ad2 c X.env).findIdx? (·.1)=none) L2.zq0._auto_1):PG X (.Tuple c k B) (Ga X.K n t):=by
 intro i s j H v u Q I r f;obtain⟨a,p,m,E,q,f⟩:=f;subst m;cases r;obtain⟨its,l,z,G⟩:=I.tuple E;refine assign_Tuple_tuple (I.ok.hd A) z (by simp[hn,<-q,l.length]) g fun w C=>?_;have x:Inv X i j H { s with heap:=w }:=I.kept (t':=s.toks) fun b o e=>C b o (K9 (K6 e)) e;exact h i _ j H p _ Q x (by simpa using l) f
def Fu(te:TE) (g:TG):TS:=fun D a H=>te a H fun x c=>g x a c D.nx
theorem FR{a e:O4}{te:TE}{g:TG}(he:PE X e te) (hg:PG X a g) (hs:autoParam (swapsWithSole [a] e B.line X.env=ak7 false) L2.zq0._auto_1) (m:autoParam (swappedStores [a] e X.env=ak7 none) L2.zq0._auto_1)
  (l:autoParam ((ad2 [a] X.env).map (·.2)=[at0 a X.env]) L2.zq0._auto_1):PS X (.Assign [a] e B) (Fu te g):=by
 intro i s f H D I h;refine wpAny_Assign_stores (thn (he i s f H _ I h) fun v o c=>c.el fun x u p j n=>?_) hs m;rw[l];exact thn (hg i o f u x v _ p j n) fun _ w q=>q
theorem Et{i:Nat}{x:Str}{e:O4}{te:TE}{a:Pos}(w:X.N.Nodup) (o:X.N[i]?=some x) (l:Loc X.env.scope x) (he:PE X e te) (hs:autoParam (ak9 e (some (.Name x a)) B.line X.env=ak7 false) L2.zq0._auto_1) (g:autoParam (X.fn x=true∨X.env.scope.names.lookup x=some .local) L2.zq3._auto_1) :
  PS X (.Assign [.Name x a] e B) (Fu te (uk i)):=by
 intro m s f H D I h;refine wpAny_Assign_Name (thn (he m s f H _ I h) fun v A c=>c.el fun y u p j n=>?_) hs;exact ox p w o l j (fun z q=>⟨_,u,q,n⟩) g
def Jy(i:Nat) (te:TE) (e:TIp):TS:=fun D a H=>∃x,a[i]?=some (some x)/\te a H fun y f=>e x y f fun z c=>D.nx (a.set i (some z)) c
theorem Fe{i:Nat}{x:Str}{e:O4}{te:TE}{op:ax0}{G:TIp}{o:Pos}(hN:X.N.Nodup) (E:X.N[i]?=some x) (p:Loc X.env.scope x) (he:PE X e te) (Z:PIp X op G) (N:autoParam (X.fn x=true∨X.env.scope.names.lookup x=some .local) L2.zq3._auto_1) :
  PS X (.AugAssign (.Name x o) op e B) (Jy i te G):=by
 intro q s C H D I h;obtain⟨v,R,h⟩:=h;obtain⟨m,hn,T⟩:=I.loc;have A:Vis X.env.scope x:=by rcases p with k|k;exact .inl k;exact .inr (.inl k)
 obtain⟨u,r,l⟩:=T i x v E R A;refine wpAny_AugAssign_Name ?_;have go:K5 (N3 X.prog X.w) X.A (af7 e X.env) (fun w n=>K5 (N3 X.prog X.w) X.A (ax5 op u w) (fun r j=>K5 (N3 X.prog X.w) X.A (storeName X.env x r) (fun _=>SP X q D .next) X.xe j) X.xe n) X.xe s:=by
  refine thn (he q s C H _ I h) fun w U f=>f.el fun y H1 Y P S=>?_;refine thn (Z q U C H1 v y u w _ Y r P S) fun z s2 f=>f.el fun zv O I2 r2 J=>?_;exact ox I2 hN E p r2 (fun s3 L=>⟨_,O,L,J⟩) N
 rcases l with⟨a,M⟩|⟨a,c,Q,g⟩
 ·exact wpAny_loadName_local I.ok.kind a hn M go
 ·rcases a with a|a
  ·exact wpAny_loadName_cell I.ok.kind a Q g go
  ·rcases p with k|k
   ·have:X.env.scope.names.lookup x=some .free:=a;rw[k]at this;cases this
   ·have:X.env.scope.names.lookup x=some .free:=a;rw[k]at this;cases this
def ipI(f:Int->Int->Int):TIp:=fun x y H Q=>∃i j,x=.int i/\y=.int j/\Q (.int (f i j)) H
theorem Ey:PIp X .Add (ipI fun i j=>i+j):=by
 intro e s g H x y v u Q I r1 r2 h;obtain⟨i,j,a,c,q⟩:=h;subst a;subst c;obtain⟨t,rfl⟩:=r1;obtain⟨f,rfl⟩:=r2;exact iadd_int ⟨.int _,H,I.tok _,⟨_,rfl⟩,q⟩
end
section
variable{X:Cx}{y:Pos}
def EB(c:TT) (i:TS):TS:=fun D a H=>∃W:Nat->St->Hp->Prop,(∃m,W m a H)/\∀m a H,W m a H ->
 c a H fun b f=>if b=true then ∃N:St->Hp->Prop,(∀ e g,N e g->∃h,h<m/\W h e g)/\i { D with nx:=N,ct:=N,bk:=D.nx } a f else D.nx a f
theorem zX{c:O4}{g:List ae4}{tc:TT}{E:TS}(G:U7 (N3 X.prog X.w) X.A X.env X.xe) (O:PT X c tc) (Z:PSs X g E):PS X (.While c g [] y) (EB tc E):=by
 intro u s S H D I h;obtain⟨W,⟨P,T⟩,j⟩:=h;refine wpAny_While (codeAny_whileLoop (fun n s'=>∃ i B,Inv X u i B s'/\W n i B) ?_ P ⟨S,H,I,T⟩);rintro n Q ⟨e,M,R,Y⟩;refine ag6 G (thn (O u Q e M _ R (j n e M Y)) fun b U x=>x.el fun C J m=>?_);cases b with
 |true =>
  obtain⟨N,L,m⟩:=m;rw[if_pos rfl];refine ag6 G (thn (Z u U e C _ J m) fun f s3 o=>?_);cases f with
  |next =>
   obtain⟨a,l,q,z⟩:=o;obtain⟨A,w,p⟩:=L a l z;exact⟨A,w,a,l,q,p⟩
  |cont =>
   obtain⟨a,l,q,z⟩:=o;obtain⟨A,w,p⟩:=L a l z;exact⟨A,w,a,l,q,p⟩
  |brk=>exact o
  |ret v=>exact o
 |false =>
  rw[if_neg P7];exact ap2 ⟨e,C,J,m⟩
end
set_option genInjectivity false in
structure It where
 go:Nat->Hp->Prop
 yld:Nat->Hp->V->Hp->Prop
 stop:Nat->Hp->Prop
def dP(X:Cx) (a:List (K1×Obj)) (H:Hp) (b:K1):Prop :=
 H b=none/\b≠X.env.locals/\b∉X.fs/\(b∈X.ex∨X.s₀.heap.objs.size<=b)/\(∀x c,X.env.cells.lookup x=some c->c≠b)/\∀p∈X.pn++a,p.1≠b
theorem Inv.fpOk{X:Cx}{f:List (K1×Obj)}{σ:St}{H g:Hp}{s:J5}{b:K1}(I:Inv X f σ H s) (a:s.heap.objs.size<=b) (hn:g b=none):dP X f g b:=by
 refine⟨hn,ac6 (K7 I.lt a),I.nofs a,.inr (K4 I.sz a),fun x c e z=>?_,fun p h z=>?_⟩
 ·obtain⟨v,q⟩:=I.cell x c e;exact absurd (K7 q.lt (by rw[z];exact a)) (af2 _)
 ·exact absurd (K7 (K6 (I.pin p h).1) (by rw[z];exact a)) (af2 _)
structure lZ(P:M9) (w:P5) (K:J4) (tg:O4) (J:It) (fp:List K1) (it:K1) (tn:Nat->L5->Prop):Prop where
 mem:it∈fp
 obj:∀i h,tn i h->∀b∈fp,∃o,h.get? b=some o/\∀v,o.data≠.cell v
 keep:∀i h h',tn i h->(∀b∈fp,∀o,h.get? b=some o->h'.get? b=some o)->tn i h'
 item:∀(X:Cx),X.prog=P->X.w=w->X.K=K->X.calm=true->∀(i:Nat) (ae:List (K1×Obj)) (s:J5) (σ:St) (H:Hp) (E:J3->J5->Prop),Inv X ae σ H s->(∀b∈fp,dP X ae H b)->tn i s.heap->J.go i H ->
  K5 (N3 P w) X.A (ag3 (.ref it)) (fun r s1=>∃u,r=some u /\
   K5 (N3 P w) X.A (aj2 tg (.ref it) u) (fun _ s2=>∃x H',Inv X ae σ H' s2/\aF x u/\J.yld i H x H'/\tn (i+1) s2.heap/\∀b∈fp,H' b=none) E s1) E s
 done:∀(X:Cx),X.prog=P->X.w=w->X.K=K->X.calm=true->∀(i:Nat) (ae:List (K1×Obj)) (s:J5) (σ:St) (H:Hp) (E:J3->J5->Prop),Inv X ae σ H s->(∀b∈fp,dP X ae H b)->tn i s.heap->J.stop i H ->
  K5 (N3 P w) X.A (ag3 (.ref it)) (fun r s1=>r=none/\Inv X ae σ H s1) E s
 self:∀(A:O9) (i:Nat) (s:J5) (Q:J3->J5->Prop) (E:J3->J5->Prop),tn i s.heap->Q (.ref it) s->K5 (N3 P w) A (au4 (.ref it)) Q E s
abbrev TI:=St->Hp->(It->Hp->Prop)->Prop
def PIE(X:Cx) (e:List (K1×Obj)) (σ:St) (i:O4) (R:It->Hp->Prop) (a:J3) (s2:J5):Prop :=
 ∃(f:K1) (g:List K1) (h:Nat->L5->Prop) (J:It) (c:Hp),a=.ref f/\Inv X e σ c s2/\lZ X.prog X.w X.K i J g f h/\h 0 s2.heap/\(∀b∈g,dP X e c b)/\R J c
def PI(X:Cx) (g iter:O4) (e:TI):Prop :=
 ∀(c:List (K1×Obj)) (s:J5) (a:St) (H:Hp) (R:It->Hp->Prop),Inv X c a H s->e a H R ->
  K5 (N3 X.prog X.w) X.A (af7 iter X.env) (fun v f=>K5 (N3 X.prog X.w) X.A (au4 v) (PIE X c a g R) X.xe f) X.xe s
theorem p8{M:Model}{A:O9}{E:J3->J5->Prop}{s:J5}{c:O4}{it:K1}{u:J3}{o:Obj}{n:String}{e:Array J3}{Q:Unit->J5->Prop}(i:s.heap.get? it=some o) (g:o.cls=.type n) (f:o.data=.fields e)
    (hn:["enumerate","zip","dict_itemiterator","dict_reverseitemiterator","odict_iterator","itertools.zip_longest","itertools.pairwise"].contains n=false) (a:Q () s):K5 M A (aj2 c (.ref it) u) Q E s:=by
  unfold aj2;cases c<;>first
    |exact J1 a
    |(cases u<;>first
        |exact J1 a
        | (refine o0 (ar3 i ?_)
           rw[g,f];show K5 M A (if(["enumerate","zip","dict_itemiterator","dict_reverseitemiterator","odict_iterator","itertools.zip_longest","itertools.pairwise"].contains n&&e[0]?==some (W5 _))=true then _ else _) Q E s;rw[if_neg (by intro h;rw[hn,R5]at h;cases h)];exact J1 a))
noncomputable def Itl(K:J4) (a:K1):It :=
 ⟨fun i H=>∃c x,SqL K H a c/\c[i]?=some x,fun i H x e=>e=H/\∀c,SqL K H a c->c[i]?=some x,fun i H=>∃c,SqL K H a c/\c.length<=i⟩
noncomputable def Itt(K:J4) (a:K1):It :=
 ⟨fun i H=>∃c x,SqT K H a c/\c[i]?=some x,fun i H x e=>e=H/\∀c,SqT K H a c->c[i]?=some x,fun i H=>∃c,SqT K H a c/\c.length<=i⟩
noncomputable def Itr(lo:Int) (n:Nat):It:=⟨fun i _=>i<n,fun i H x a=>a=H/\x=.int (lo+i),fun i _=>n<=i⟩
theorem qp{P:M9}{w:P5}{K:J4}{S:O4}(a it:K1):lZ P w K S (Itl K a) [it] it (fun i h=>h.IsListIter it a i) where
 mem:=by simp
 obj:=fun i h st b f=>by
  have e:b=it:=by simpa using f
  subst e;obtain⟨o,e,c,d⟩:=st;exact⟨o,e,fun v z=>by rw[d]at z;cases z⟩
 keep:=fun i h j st k=>st.at fun o e=>k it (by simp) o e
 item:=by
  intro X n B hK O i Q s R H E I l st G;subst n B hK;obtain⟨xs,x,m,A⟩:=G;obtain⟨its,M,p,hz⟩:=I.list m;obtain⟨u,hu,U⟩:=M.get A;obtain⟨L,q,Z,J,N,C⟩:=l it (by simp);refine wpAny_pyNext_list_item st p.isList (x:=u) (by simpa using hu) fun j g sb=>?_;have Y:Inv X Q R H { s with heap:=j }:=I.turned (t':=s.toks) (fun b o f e=>(sb.2 b f).trans e) L q J N C;obtain⟨o,e,c,d⟩:=id g;exact⟨u,rfl,p8 (s:={ s with heap:=j }) e c d (by decide) ⟨x,H,Y,U,⟨rfl,fun ys T=>by rw[I.list_inj T m];exact A⟩,g,fun b f=>(l b f).1⟩⟩
 done:=by
  intro X n B hK O i Q s R H E I l st G;subst n B hK;obtain⟨xs,m,A⟩:=G;obtain⟨its,M,p,hz⟩:=I.list m;obtain⟨L,q,Z,J,N,C⟩:=l it (by simp);have hl:=M.length;exact wpAny_pyNext_list_end (I.ok.hd O) st p.isList (by simp;lia) fun j eb=>⟨rfl,I.turned (t':=s.toks) (fun b o f e=>eb b o f e) L q J N C⟩
 self:=fun _ _ _ _ _ st h=>wpAny_pyIter_listiter st h
theorem vB{P:M9}{w:P5}{K:J4}{S:O4}(a it:K1):lZ P w K S (Itt K a) [it] it (fun i h=>h.IsTupleIter it a i) where
 mem:=by simp
 obj:=fun i h st b f=>by
  have e:b=it:=by simpa using f
  subst e;obtain⟨o,e,c,d⟩:=st;exact⟨o,e,fun v z=>by rw[d]at z;cases z⟩
 keep:=fun i h j st k=>st.at fun o e=>k it (by simp) o e
 item:=by
  intro X n B hK O i Q s R H E I l st G;subst n B hK;obtain⟨xs,x,m,A⟩:=G;obtain⟨its,M,p,hz⟩:=I.tuple m;obtain⟨u,hu,U⟩:=M.get A;obtain⟨L,q,Z,J,N,C⟩:=l it (by simp);refine wpAny_pyNext_tuple_item st (show s.heap.IsTuple a its.toArray from p) (x:=u) (by simpa using hu) fun j g sb=>?_;have Y:Inv X Q R H { s with heap:=j }:=I.turned (t':=s.toks) (fun b o f e=>(sb.2 b f).trans e) L q J N C;obtain⟨o,e,c,d⟩:=id g;exact⟨u,rfl,p8 (s:={ s with heap:=j }) e c d (by decide) ⟨x,H,Y,U,⟨rfl,fun ys T=>by rw[I.tuple_inj T m];exact A⟩,g,fun b f=>(l b f).1⟩⟩
 done:=by
  intro X n B hK O i Q s R H E I l st G;subst n B hK;obtain⟨xs,m,A⟩:=G;obtain⟨its,M,p,hz⟩:=I.tuple m;obtain⟨L,q,Z,J,N,C⟩:=l it (by simp);have hl:=M.length;exact wpAny_pyNext_tuple_end (I.ok.hd O) st (show s.heap.IsTuple a its.toArray from p) (by simp;lia) fun j eb=>⟨rfl,I.turned (t':=s.toks) (fun b o f e=>eb b o f e) L q J N C⟩
 self:=fun _ _ _ _ _ st h=>wpAny_pyIter_tupleiter st h
theorem vi{P:M9}{w:P5}{K:J4}{L:O4}(it:K1) (lo:Int) (n:Nat):lZ P w K L (Itr lo n) [it] it (fun i h=>IsRangeIter h it (lo+(i:Nat)*1) ((n:Int)-(i:Nat)) 1) where
 mem:=by simp
 obj:=fun i h st b a=>by
  have e:b=it:=by simpa using a
  subst e;exact⟨_,st,fun v z=>by
   have N:Data.fields _=Data.cell v:=z;cases N⟩
 keep:=fun i h f st k=>k it (by simp) _ st
 item:=by
  intro X j p hK m i C s G H E I g st u;subst j p hK;obtain⟨A,l,O,x,B,q⟩:=g it (by simp);have W:=av4.range (prog:=X.prog) (w:=X.w) (I.ok.hd m) it lo 1 n;refine W.item i s _ _ u st fun v f J Q c R=>?_;obtain⟨t,rfl⟩:=Q;have M:Inv X C G H { s with heap:=f,toks:=J }:=I.turned (fun b o a e=>R b o (by simpa using a) e) A l x B q;refine⟨_,rfl,p8 (s:={ s with heap:=f,toks:=J }) (n:="range_iterator") c rfl rfl (by decide) ⟨.int (lo+i),H,M,⟨t,?_⟩,⟨rfl,rfl⟩,c,fun b a=>(g b a).1⟩⟩;rw[Int.mul_one]
 done:=by
  intro X j p hK m i C s G H E I g st u;subst j p hK;obtain⟨A,l,O,x,B,q⟩:=g it (by simp);exact wpAny_pyNext_range_end (I.ok.hd m) st (by have:n<=i:=u;lia) fun f S=>⟨rfl,I.turned (t':=s.toks) (fun b o a e=>S b o a e) A l x B q⟩
 self:=fun _ _ _ _ _ st h=>wpAny_pyIter_rangeiter st h
section
variable{X:Cx}{y:O4}
theorem uz{c:List (K1×Obj)}{σ:St}{H:Hp}{s:J5}{R:It->Hp->Prop}{E:J3->J5->Prop}{lo a:Int}{t u v:Tok}{tk:Nat}(I:Inv X c σ H s) (j:-(2 ^ 62)<=lo) (i:lo<2 ^ 62) (g:-(2 ^ 62)<=a) (m:a<2 ^ 62)
  (q:R (Itr lo (a-lo).toNat) H):K5 (N3 X.prog X.w) X.A (au4 (.ref s.heap.objs.size)) (PIE X c σ y R) E { s with heap:=s.heap.push { cls:=.type "range",data:=.fields #[.int lo t,.int a u,.int 1 v] },toks:=tk }:=by
 refine wpAny_pyIter_range (IsRange.new ..) (small_one j i g m) ?_;have f:Inv X c σ H { s with heap:=s.heap.push { cls:=.type "range",data:=.fields #[.int lo t,.int a u,.int 1 v] },toks:=tk }:=I.kept fun b o e=>u8 _ e;refine⟨(s.heap.push { cls:=.type "range",data:=.fields #[.int lo t,.int a u,.int 1 v] }).objs.size,[(s.heap.push { cls:=.type "range",data:=.fields #[.int lo t,.int a u,.int 1 v] }).objs.size],_,_,H,rfl,
  f.kept (t':=tk) fun b o e=>u8 _ e,vi _ lo (a-lo).toNat,?_,fun b n=>?_,q⟩
 ·have l:lo+((0:Nat):Int)*1=lo:=by simp
  have h:(((a-lo).toNat:Nat):Int)-((0:Nat):Int)=L3.Range.rangeSize lo a 1:=by rw[rangeSize_one];split<;>lia
  show IsRangeIter _ _ (lo+((0:Nat):Int)*1) ((((a-lo).toNat:Nat):Int)-((0:Nat):Int)) 1;rw[l,h];exact J8 _ rfl
 ·have e:b=(s.heap.push { cls:=.type "range",data:=.fields #[.int lo t,.int a u,.int 1 v] }).objs.size:=by simpa using n
  subst e;exact f.fpOk (J7 _) (f.hok.fresh (J7 _))
def GZ(a:TA):TI:=fun f H R=>a f H fun e c=>∃j:Int,e=[.int j]/\-(2 ^ 62)<=j/\j<2 ^ 62/\R (Itr 0 j.toNat) c
def IG(a:TA):TI:=fun f H R=>a f H fun e c=>∃i j:Int,e=[.int i,.int j]/\(-(2 ^ 62)<=i/\i<2 ^ 62/\-(2 ^ 62)<=j/\j<2 ^ 62)/\R (Itr i (j-i).toNat) c
theorem ye{a:O4}{i:TA}{p c:Pos}(hg:Gl X "range") (u:X.mg "range"=none) (ha:PA X [a] i) (hs:autoParam (K8 [a] X.env=[(false,af7 a X.env)]) L2.zq0._auto_1):PI X y (.Call (.Name "range" p) [a] [] c) (GZ i):=by
 intro l s w H R I h;refine Call_ (cO I hg u boot_range (S2 (thn (ha c l s w H _ I h) fun C z f=>f.el fun A B n x g=>?_) hs rfl));obtain⟨j,e,g,o,q⟩:=g;subst e;cases x with
 |cons r m =>
  cases m;obtain⟨t,rfl⟩:=r;exact call_range_1 (uz n (by decide) (by decide) g o (by simpa using q))
theorem xy{a b:O4}{n:TA}{p c:Pos}(hg:Gl X "range") (w:X.mg "range"=none) (ha:PA X [a,b] n) (hs:autoParam (K8 [a,b] X.env=[(false,af7 a X.env),(false,af7 b X.env)]) L2.zq0._auto_1) (f:autoParam (K8 [b] X.env=[(false,af7 b X.env)]) L2.zq0._auto_1) :
  PI X y (.Call (.Name "range" p) [a,b] [] c) (IG n):=by
 intro A s x H R I h;refine Call_ (cO I hg w boot_range (S2 (thn (ha c A s x H _ I h) fun G L l=>l.el fun M N C z m=>?_) (by rw[hs,f]) (by rw[f];rfl)));obtain⟨i,j,e,⟨m,u,o,B⟩,q⟩:=m;subst e;cases z with
 |cons r g =>
  cases g with
  |cons E g =>
   cases g;obtain⟨t,rfl⟩:=r;obtain⟨J,rfl⟩:=E;exact call_range_2 (uz C m u o B q)
def Jb(o:TI) (g:TG) (l:TS):TS:=fun D a H=>o a H fun J n=>∃W:Nat->Nat->St->Hp->Prop,(∃m,W 0 m a n)/\∀i m a H,W i m a H ->
 (J.stop i H/\D.nx a H)∨(J.go i H/\∃N:St->Hp->Prop,(∀ e c,N e c->∃h,h<m/\W (i+1) h e c)/\∀x c,J.yld i H x c->g x a c fun f j=>l { D with nx:=N,ct:=N,bk:=D.nx } f j)
noncomputable def jP(fp:List K1) (h:L5):List (K1×Obj):=fp.filterMap fun b=>(h.get? b).map fun o=>(b,o)
theorem du{fp:List K1}{h:L5}{b:K1}{o:Obj}(a:b∈fp) (e:h.get? b=some o):(b,o)∈jP fp h:=af3.mpr ⟨b,a,by rw[e];rfl⟩
theorem qm{fp:List K1}{h:L5}{p:K1×Obj}(c:p∈jP fp h):p.1∈fp/\h.get? p.1=some p.2:=by
 obtain⟨b,f,e⟩:=af3.mp c;cases q:h.get? b with
 |none=>rw[q]at e;cases e
 |some o =>
  rw[q]at e;have a:(b,o)=p:=V0 e;subst a;exact⟨f,q⟩
theorem Inv.pinned{a:List (K1×Obj)}{σ:St}{H:Hp}{s:J5}{fp:List K1}(I:Inv X a σ H s) (i:∀b∈fp,dP X a H b) (l:∀b∈fp,∃o,s.heap.get? b=some o/\∀v,o.data≠.cell v):Inv X (a++jP fp s.heap) σ H s :=
 I.pins_of fun p j=>(L4.mp j).elim (fun z=>I.pin p (N6 _ z)) fun z=>by
  obtain⟨f,e⟩:=qm z;obtain⟨m,h,g,_⟩:=i p.1 f;obtain⟨o,c,d⟩:=l p.1 f;rw[e]at c;cases c;exact⟨e,m,h,g,d⟩
theorem Inv.unpinned{a c:List (K1×Obj)}{σ:St}{H:Hp}{s:J5}(I:Inv X (a++c) σ H s):Inv X a σ H s:=I.pins_of fun p e=>I.pin p (N6 _ (Q8 _ e))
theorem EE{iter:O4}{A:List ae4}{wi:TI}{g:TG}{tb:TS}{a1:Pos}(M:U7 (N3 X.prog X.w) X.A X.env X.xe) (hc:X.calm=true) (hi:PI X y iter wi) (hg:PG X y g) (j:PSs X A tb)
  (hs:autoParam (∀x,Z7 iter X.env x=ak7 x) L2.zq2._auto_1):PS X (.For y iter A [] a1) (Jb wi g tb):=by
 intro C s σ H D I h;refine wpAny_For (thn (hi C s σ H _ I h) fun v s1 h1=>thn h1 fun a3 s2 h2=>?_) hs;obtain⟨it,L,tn,J,H2,e,I2,T,a2,f2,W,⟨m0,w0⟩,P⟩:=h2;subst e
 -- what stays true of the iterator's objects through the loop
 have c:∀{z:Hp},(∀b∈L,z b=none)->∀b∈L,dP X C z b:=fun hn b j=>⟨hn b j,(f2 b j).2⟩;refine codeAny_forLoop_any (fun n s'=>∃i p z,Inv X C p z s'/\tn i s'.heap/\(∀b∈L,z b=none)/\W i n p z) ?_ m0 ⟨0,σ,H2,I2,a2,fun b j=>(f2 b j).1,w0⟩;rintro n s3 ⟨i,l,R,I3,Q,O,w3⟩;rcases P i n l R w3 with⟨stop,qn⟩|⟨go,N,hN,step⟩
 ·refine ag6 M (thn (T.done X rfl rfl rfl hc i C s3 l R X.xe I3 (c O) Q stop) fun r s4 z3z=>?_);obtain⟨Z,I4⟩:=z3z;subst Z;exact ap2 ⟨l,R,I4,qn⟩
 ·refine ag6 M (thn (T.item X rfl rfl rfl hc i C s3 l R X.xe I3 (c O) Q go) fun r s4 z4z=>?_);obtain⟨u,Z,h4⟩:=z4z;subst Z;refine ag6 M (thn h4 fun _ s5 z5z=>?_);obtain⟨x,H5,I5,r5,y5,E,S⟩:=z5z;have a0:=I5.pinned (c S) (T.obj _ _ E);refine ag6 M (thn (hg _ s5 l H5 x u _ a0 r5 (step x H5 y5)) fun _ s6 z6z=>?_);obtain⟨Y,H6,I6,q6⟩:=z6z;refine ag6 M (thn (j _ s6 Y H6 _ I6 q6) fun f U B=>?_);have again:∀{a:St} {w:Hp},Inv X (C++jP L s5.heap) a w U->N a w->∃m,m<n/\∃i p z,Inv X C p z U/\tn i U.heap/\(∀b∈L,z b=none)/\W i m p z:=fun {a w} q G=>by
   obtain⟨m',hm,w7⟩:=hN a w G;refine⟨m',hm,i+1,a,w,q.unpinned,T.keep _ _ _ E fun b j o e=>(q.pin (b,o) (N6 _ (N6 _ (du j e)))).1,fun b j=>?_,w7⟩;obtain⟨o,e,d⟩:=T.obj _ _ E b j;exact(q.pin (b,o) (N6 _ (N6 _ (du j e)))).2.1
  cases f with
  |next=>obtain⟨a,w,q,G⟩:=B;exact again q G
  |cont=>obtain⟨a,w,q,G⟩:=B;exact again q G
  |brk=>obtain⟨a,w,q,B⟩:=B;exact⟨a,w,q.unpinned,B⟩
  |ret v=>obtain⟨x7,a,w,q,r7,B⟩:=B;exact⟨x7,a,w,q.unpinned,r7,B⟩
end
abbrev R2:=V->V->Hp->VK->Prop
def OpR(X:Cx) (f:J3->J3->Sem J3) (r:R2):Prop :=
 ∀(a:List (K1×Obj)) (s:J5) (c:St) (H:Hp) (x y:V) (v u:J3) (Q:VK),Inv X a c H s->aF x v->aF y u->r x y H Q ->
  K5 (N3 X.prog X.w) X.A (f v u) (EP X a c Q) X.xe s
def UnR(X:Cx) (f:J3->Sem J3) (r:V->Hp->VK->Prop):Prop :=
 ∀(a:List (K1×Obj)) (s:J5) (c:St) (H:Hp) (x:V) (v:J3) (Q:VK),Inv X a c H s->aF x v->r x H Q ->
  K5 (N3 X.prog X.w) X.A (f v) (EP X a c Q) X.xe s
def di(X:Cx) (f:J3) (r:List V->Hp->VK->Prop):Prop :=
 ∀(a:List (K1×Obj)) (s:J5) (g:St) (H:Hp) (c:List V) (e:List J3) (Q:VK),Inv X a g H s->ax c e->r c H Q ->
  K5 (N3 X.prog X.w) X.A (aw9 f e) (EP X a g Q) X.xe s
def tOp(r:R2) (c f:TE):TE:=fun a H Q=>c a H fun x g=>f a g fun y e=>r x y e Q
def tUn(r:V->Hp->VK->Prop) (a:TE):TE:=fun e H Q=>a e H fun x c=>r x c Q
def rI(C:Int->Int->Prop) (g:Int->Int->V):R2:=fun x y H Q=>∃i j,x=.int i/\y=.int j/\C i j/\Q (g i j) H
def rI0(g:Int->Int->V):R2:=fun x y H Q=>∃i j,x=.int i/\y=.int j/\Q (g i j) H
def rU(g:Int->V):V->Hp->VK->Prop:=fun x H Q=>∃i,x=.int i/\Q (g i) H
section
variable{X:Cx}{a b c:O4}{z N tc:TE}{B:Pos}
theorem Eo(ha:PE X a z) (A:PE X b N) {j:List (K1×Obj)}{s:J5}{σ:St}{H:Hp}{R:V->V->Hp->Prop}(I:Inv X j σ H s)
  (h:z σ H fun x l=>N σ l fun y e=>R x y e) {Q:J3->J5->Prop} {f:J3->J3->Sem J3}
  (n:∀v u s2 x y e,Inv X j σ e s2->aF x v->aF y u->R x y e->K5 (N3 X.prog X.w) X.A (f v u) Q X.xe s2) :
  K5 (N3 X.prog X.w) X.A (af7 a X.env) (fun v i=>K5 (N3 X.prog X.w) X.A (af7 b X.env) (fun u g=>K5 (N3 X.prog X.w) X.A (f v u) Q X.xe g) X.xe i) X.xe s:=by
 refine thn (ha j s σ H _ I h) fun v q c=>c.el fun x l w o p=>?_;refine thn (A j q σ l _ w p) fun u s2 c=>c.el fun y e B C m=>?_;exact n v u s2 x y e B o C m
theorem GS{op:ax0}{r:R2}(g:OpR X (ad3 op) r) (ha:PE X a z) (f:PE X b N):PE X (.BinOp a op b B) (tOp r z N):=by
 intro c s i H Q I h;exact wpAny_BinOp (Eo ha f I h fun v u n x y j l e m q=>g c n i j x y v u Q l e m q)
theorem HG{op:UnaryOp}{r:V->Hp->VK->Prop}(m:UnR X (unaryOp op) r) (ha:PE X a z):PE X (.UnaryOp op a B) (tUn r z):=by
 intro f s e H Q I h;exact UnaryOp_ (thn (ha f s e H _ I h) fun v j c=>c.el fun x n l g i=>m f j e n x v Q l g i)
theorem opI{f:J3->J3->Sem J3}{C:Int->Int->Prop}{g:Int->Int->Int}
  (rule:∀(i j:Int) (t u:Tok) (s:J5) (Q:J3->J5->Prop) (E:J3->J5->Prop),C i j->Q (.int (g i j) s.toks) { s with toks:=s.toks+1 }->K5 (N3 X.prog X.w) X.A (f (.int i t) (.int j u)) Q E s) :
  OpR X f (rI C fun i j=>.int (g i j)):=by
 intro l s e H x y v u Q I rx ry h;obtain⟨i,j,rfl,rfl,a,q⟩:=h;obtain⟨t,rfl⟩:=rx;obtain⟨c,rfl⟩:=ry;exact rule i j t c s _ _ a ⟨.int (g i j),H,I.tok _,⟨_,rfl⟩,q⟩
theorem Ha{f:J3->J3->Sem J3}{g:Int->Int->Int}
  (rule:∀(i j:Int) (t u:Tok) (s:J5) (Q:J3->J5->Prop) (E:J3->J5->Prop),Q (.int (g i j) s.toks) { s with toks:=s.toks+1 }->K5 (N3 X.prog X.w) X.A (f (.int i t) (.int j u)) Q E s) :
  OpR X f (rI0 fun i j=>.int (g i j)):=by
 intro e s c H x y v u Q I rx ry h;obtain⟨i,j,rfl,rfl,q⟩:=h;obtain⟨t,rfl⟩:=rx;obtain⟨a,rfl⟩:=ry;exact rule i j t a s _ _ ⟨.int (g i j),H,I.tok _,⟨_,rfl⟩,q⟩
theorem Du{f:J3->J3->Sem J3}{g:Int->Int->Bool}
  (rule:∀(i j:Int) (t u:Tok) (s:J5) (Q:J3->J5->Prop) (E:J3->J5->Prop),Q (.bool (g i j)) s->K5 (N3 X.prog X.w) X.A (f (.int i t) (.int j u)) Q E s) :
  OpR X f (rI0 fun i j=>.bl (g i j)):=by
 intro c s e H x y v u Q I rx ry h;obtain⟨i,j,rfl,rfl,q⟩:=h;obtain⟨t,rfl⟩:=rx;obtain⟨a,rfl⟩:=ry;exact rule i j t a s _ _ ⟨.bl (g i j),H,I,rfl,q⟩
def rG(i j:Int):Prop:=0<j/\j<1073741824
def pE(i j:Int):Prop:=0<=j/\j<=1000000/\i.natAbs<2 ^ 64
def mJ(i j:Int):Prop:=(-(2 ^ 64)<i/\i<2 ^ 64)∨(-(2 ^ 64)<j/\j<2 ^ 64)
theorem mJ.ok{i j:Int}(h:mJ i j):IntMulOk i j:=by
 rcases h with⟨c,a⟩|⟨c,a⟩
 ·exact .of_left (intBits_le_64 c a)
 ·exact .of_right (intBits_le_64 c a)
theorem FZ:OpR X (ad3 .Add) (rI0 fun i j=>.int (i+j)):=Ha fun _ _ _ _ _ _ _ q=>add_int q
theorem EU:OpR X (ad3 .Sub) (rI0 fun i j=>.int (i-j)):=Ha fun _ _ _ _ _ _ _ q=>sub_int q
theorem FG:OpR X (ad3 .Mult) (rI mJ fun i j=>.int (i*j)):=opI fun _ _ _ _ _ _ _ a q=>mul_int q a.ok
theorem CU:OpR X (ad3 .FloorDiv) (rI rG fun i j=>.int (i / j)):=opI fun i j _ _ _ _ _ a q=>by
 have e:(0:Int)<j:=a.1;have c:j<1073741824:=a.2;exact floordiv_int (by lia) (by rw[Int.fdiv_eq_ediv_of_nonneg i (by exact Int.le_of_lt (by assumption))];exact q) (.inl (PyProof.noPylong_small (by lia)))
theorem El:OpR X (ad3 .Mod) (rI (fun _ j=>0<j) fun i j=>.int (i % j)):=opI fun i j _ _ _ _ _ a q=>by
 have c:(0:Int)<j:=a;exact mod_int' (by lia) (by rw[Int.fmod_eq_emod_of_nonneg i (by exact Int.le_of_lt (by assumption))];exact q)
theorem Ge:OpR X (ad3 .Pow) (rI pE fun i j=>.int (i ^ j.toNat)):=opI fun _ _ _ _ _ _ _ a q=>pow_int_small a.1 a.2.1 a.2.2 q
theorem unI{f:J3->Sem J3}{g:Int->Int}
  (rule:∀(i:Int) (t:Tok) (s:J5) (Q:J3->J5->Prop) (E:J3->J5->Prop),Q (.int (g i) s.toks) { s with toks:=s.toks+1 }->K5 (N3 X.prog X.w) X.A (f (.int i t)) Q E s) :
  UnR X f (rU fun i=>.int (g i)):=by
 intro a s c H x v Q I rx h;obtain⟨i,rfl,q⟩:=h;obtain⟨t,rfl⟩:=rx;exact rule i t s _ _ ⟨.int (g i),H,I.tok _,⟨_,rfl⟩,q⟩
theorem FV:UnR X (unaryOp .USub) (rU fun i=>.int (-i)):=unI fun _ _ _ _ _ q=>neg_int q
end
section
variable{X:Cx}{a b c:O4}{B N tc:TE}{W:Pos}
theorem uV{a:List (K1×Obj)}{σ:St}{H:Hp}{s:J5}{Q:VK}{k k':Bool}(I:Inv X a σ H s) (q:Q (.bl k) H) (e:k=k'):EP X a σ Q (.bool k') s:=by
 subst e;exact⟨.bl k,H,I,rfl,q⟩
theorem Ie:OpR X (Q9 .Lt) (rI0 fun i j=>.bl (decide (i<j))):=Du fun _ _ _ _ _ _ _ q=>lt_int q
theorem HW:OpR X (Q9 .LtE) (rI0 fun i j=>.bl (decide (i<=j))):=Du fun _ _ _ _ _ _ _ q=>le_int q
theorem Hm:OpR X (Q9 .Gt) (rI0 fun i j=>.bl (decide (j<i))):=Du fun _ _ _ _ _ _ _ q=>gt_int q
theorem Hb:OpR X (Q9 .GtE) (rI0 fun i j=>.bl (decide (j<=i))):=Du fun _ _ _ _ _ _ _ q=>ge_int q
theorem yF:OpR X (Q9 .In) (fun x y H Q=>∃i j,x=.str i/\y=.str j/\Q (.bl (!(ah5 j i 0 j.length 1).isEmpty)) H):=by
 intro a s e H x y v u Q I rx ry h;obtain⟨i,j,rfl,rfl,q⟩:=h;obtain⟨t,rfl⟩:=rx;obtain⟨c,rfl⟩:=ry;exact in_str (uV I q rfl)
theorem Fg:OpR X (Q9 .Is) (fun x y H Q=>y=.non/\Q (.bl (decide (x=.non))) H):=by
 intro a s c H x y v u Q I rx ry h;obtain⟨rfl,q⟩:=h;cases ry;refine is_none_gen (uV I q ?_);cases x<;>first
  |(cases rx;rfl)
  |(obtain⟨t,rfl⟩:=rx;rfl)
theorem rP:OpR X (Q9 .NotIn) (fun x y H Q=>∃i j,x=.str i/\y=.str j/\Q (.bl (!(!(ah5 j i 0 j.length 1).isEmpty))) H):=by
 intro a s e H x y v u Q I rx ry h;obtain⟨i,j,rfl,rfl,q⟩:=h;obtain⟨t,rfl⟩:=rx;obtain⟨c,rfl⟩:=ry;exact notIn_str (uV I q rfl)
theorem Da{op:am8}{r:R2}(i:OpR X (Q9 op) r) (ha:PE X a B) (f:PE X b N) (g:X1 op b=false):PE X (.Compare a [op] [b] W) (tOp r B N):=by
 intro c s j H Q I h;exact wpAny_Compare1 (Eo ha f I h fun v u o x y l m e n q=>i c o j l x y v u Q m e n q) g
def zZ(t:TE):TT:=fun c H Q=>t c H fun x a=>∃k,x=.bl k/\Q k a
theorem Cj{op:am8}{r:R2}(E:OpR X (Q9 op) r) (ha:PE X a B) (q:PE X b N) (A:X1 op b=false):PT X (.Compare a [op] [b] W) (zZ (tOp r B N)):=by
 intro g s i H Q I h;refine wpAny_isTrue_Compare1 (thn (ha g s i H _ I h) fun v o f=>f.el fun x L p M j=>thn (q g o i L _ p j) fun u P f=>f.el fun y G J O w =>
  thn (E g P i G x y v u _ J M O w) fun c R z7z=>?_) A
 obtain⟨z,m,C,n,k,e,l⟩:=z7z;subst e;cases n;exact U0 ⟨m,C,l⟩
def zJ(r f:R2) (B N tc:TE):TE:=fun a H Q=>B a H fun x i=>N a i fun y g=>r x y g fun z c=>∃k,z=.bl k /\
 (if k=true then tc a c fun h e=>f y h e Q else Q (.bl false) c)
theorem zq{op g:am8}{r p:R2}(ho:OpR X (Q9 op) r) (l:OpR X (Q9 g) p) (ha:PE X a B) (Z:PE X b N) (M:PE X c tc)
  (E:autoParam (at5 [op,g] [b,c]=false) L2.zq4._auto_1):PE X (.Compare a [op,g] [b,c] W) (zJ r p B N tc):=by
 intro j s i H Q I h;refine Compare_chain (thn (ha j s i H _ I h) fun v U f=>f.el fun x H1 Y L S=>chain_link (thn (Z j U i H1 _ Y S) fun u O f=>f.el fun y G I2 q A =>
  thn (ho j O i G x y v u _ I2 L q A) fun d s3 z8z=>?_)) E
 obtain⟨z,n,o,T,k,e,m⟩:=z8z;subst e;cases T;refine U0 ?_;cases k with
 |false=>exact ite_ff ⟨.bl false,n,o,rfl,m⟩
 |true=>exact ite_tt (chain_last (thn (M j s3 i n _ o m) fun J C z9z=>by obtain⟨z',w,I4,P,R⟩:=z9z;exact l j C i w y z' u J Q I4 q P R))
theorem zf{op g:am8}{r p:R2}(ho:OpR X (Q9 op) r) (l:OpR X (Q9 g) p) (ha:PE X a B) (hb:PE X b N) (P:PE X c tc)
  (G:autoParam (at5 [op,g] [b,c]=false) L2.zq4._auto_1):PT X (.Compare a [op,g] [b,c] W) (zZ (zJ r p B N tc)):=by
 intro j s i H Q I h;refine isTrue_chain (thn (ha j s i H _ I h) fun v s1 f=>f.el fun x H1 I1 M U=>test_link (thn (hb j s1 i H1 _ I1 U) fun u R f=>f.el fun y J I2 q C =>
  thn (ho j R i J x y v u _ I2 M q C) fun d s3 z10z=>?_)) G
 obtain⟨z,n,o,Z,k,e,m⟩:=z10z;subst e;cases Z;refine U0 ?_;cases k with
 |false =>
  obtain⟨k',w,Y⟩:=m;cases w;exact ite_ff ⟨n,o,Y⟩
 |true =>
  refine ite_tt (test_last (thn (P j s3 i n _ o m) fun L E ⟨z',A,I4,S,T⟩=>thn (l j E i A y z' u L _ I4 q S T) fun d' s5 z12z=>?_));obtain⟨z2,H5,I5,r5,k2,O,q5⟩:=z12z;subst O;cases r5;exact U0 ⟨H5,I5,q5⟩
theorem nZ:(K0:Nat)<2 ^ 63:=by rw[aa3];decide
theorem uW:OpR X (ad3 .Add) (fun x y H Q=>∃i j,x=.str i/\y=.str j/\i.length+j.length<=K0/\Q (.str (i++j)) H):=by
 intro e s g H x y v u Q I rx ry h;obtain⟨i,j,rfl,rfl,c,q⟩:=h;obtain⟨t,rfl⟩:=rx;obtain⟨a,rfl⟩:=ry;exact add_str (fun a f=>⟨.str (i++j),H,I.tok _,⟨_,rfl⟩,q⟩) c
theorem nU{x:V}{us:List J3}(r:ax [x] us):∃u,us=[u]/\aF x u:=by
 cases r with
 |cons a c=>cases c;exact⟨_,rfl,a⟩
theorem GA{x y:V}{us:List J3}(r:ax [x,y] us):∃u a,us=[u,a]/\aF x u/\aF y a:=by
 cases r with
 |cons f g =>
  cases g with
  |cons e c=>cases c;exact⟨_,_,rfl,f,e⟩
theorem As:di X (.builtin "abs") (fun xs H Q=>∃i,xs=[.int i]/\Q (.int (if i<0 then -i else i)) H):=by
 intro a s f H xs e Q I r h;obtain⟨i,rfl,q⟩:=h;obtain⟨u,rfl,t,rfl⟩:=nU r;exact call_abs_int fun u c=>⟨.int (if i<0 then -i else i),H,I.tok _,⟨_,rfl⟩,q⟩
theorem yd(c:X.calm=true):di X (.builtin "max") (fun xs H Q=>∃i j,xs=[.int i,.int j]/\Q (.int (if j > i then j else i)) H):=by
 intro m s e H xs l Q I r h;obtain⟨i,j,rfl,q⟩:=h;obtain⟨u,f,rfl,⟨t,rfl⟩,⟨n,rfl⟩⟩:=GA r;refine max_two_ints (I.ok.hd c) fun o g k=>⟨_,H,I.kept k,?_,q⟩
 by_cases a:j > i
 ·rw[if_pos a,if_pos a];exact⟨_,rfl⟩
 ·rw[if_neg a,if_neg a];exact⟨_,rfl⟩
theorem xH:di X (.type "int") (fun xs H Q=>(∃i,xs=[.int i]/\Q (.int i) H)∨∃k,xs=[.bl k]/\Q (.int (if k then 1 else 0)) H):=by
 intro c s f H xs e Q I r h;rcases h with⟨i,rfl,q⟩|⟨k,rfl,q⟩
 ·obtain⟨u,rfl,t,rfl⟩:=nU r;exact call_int_int ⟨.int i,H,I,⟨_,rfl⟩,q⟩
 ·obtain⟨u,rfl,a⟩:=nU r;cases a;exact call_int_bool ⟨.int (if k then 1 else 0),H,I.tok _,⟨_,rfl⟩,q⟩
end
structure yJ(h:L5) (x dx C:K1) (mA:Str->Option J3):Prop where
 obj:h.get? x=some (ae6 C dx)
 ns:h.Ns1 dx mA
 ne:dx≠x
theorem yg{h:L5}{g:K1}{j:Str->Option J3}(n:h.Ns1 g j):∃i,h.get? g=some i/\∀name,PySem.W.lookIn name i=some (j name):=by
 obtain⟨o,f,x,u,l,w,_,p⟩:=n;refine⟨o,u,fun name=>?_⟩;have e:=p name;unfold nsFind findBy at e;rw[<-Array.find?_toList]at e;unfold PySem.W.lookIn;rw[l];dsimp only
 split
 ·rename_i y q;rw[q]at e;exact congrArg some e
 ·rename_i q;rw[q]at e;have a:f.toList.any (·.refKey)=false:=by
   rw[List.any_eq_false];intro y s;obtain⟨z,t,c⟩:=w y (Array.mem_toList_iff.mp s);simp[ac7.refKey,c]
  have m:¬ f.toList.any (·.refKey)=true:=by rw[a];exact P7
  rw[if_neg m];exact congrArg some e
theorem yJ.look{h:L5}{x c C:K1}{e:Str->Option J3}(I:yJ h x c C e):∃a,PySem.W.InstAt h x (ae6 C c) C (some a)/\∀name,PySem.W.lookIn name a=some (e name) :=
 let⟨a,g,f⟩:=yg I.ns
 ⟨a,⟨I.obj,rfl,rfl,g⟩,f⟩
section
variable{prog:M9}{w:P5}{A:O9}{E:J3->J5->Prop}{s:J5}{K:J4}{x z C f:K1}{B:Str->Option J3}{name:Str}{v:J3}
theorem BG{a:Bool}{Q:J3->J5->Prop}(X:K.In s.heap) (I:yJ s.heap x z C B) (hg:ao7 K C name=true) (e:am9 K C=true)
  (ha:W7 K (.ref C) name=some none) (f:B name=some v) (c:PySem.W.handedIn v=true) (h:Q v { s with toks:=s.toks+1 }) :
  K5 (N3 prog w) A (getAttr (.ref x) name a) Q E s:=by
 obtain⟨i,J,g⟩:=I.look;exact PySem.W.get_value X J (PySem.W.plainGet_of hg).1 (PySem.W.findObj_own e ha rfl (by rw[g,f])) c h
theorem Cp{ns:List Str}{Q:Unit->J5->Prop}(X:K.In s.heap) (I:yJ s.heap x z C B)
  (hs:W7 K (.ref C) "__setattr__"=some (some (.builtin "object.__setattr__"))) (u:PySem.W.plainOver K C=true) (l:PySem.W.takerIn K C name=some none) (o:am9 K C=true)
  (p:at3 B ns) (hsz:ns.length<=K0)
  (h:∀h',yJ h' x z C (fun y=>if y=name then some v else B y)->O6 z s.heap h'->Q () { s with heap:=h',toks:=s.toks+2 }) :
  K5 (N3 prog w) A (setAttr (.ref x) name v) Q E s:=by
 obtain⟨N,J,M⟩:=I.look;refine PySem.W.set_plain X J hs (PySem.W.osa_open (s:={ s with toks:=s.toks+1 }) (r:=none) X J u l fun b=>?_);obtain⟨H,m,f⟩:=PySem.W.any_some o;have n:s.heap.get? x=some ⟨.ref C,some z,.plain,#[]⟩:=I.obj;refine o0 (J1 (o0 (o0 (wpAny_loadPart n (o0 (PySem.W.Looks.here (s:={ s with toks:=s.toks+1 }) (PySem.W.looks_clsIn X m) ?_))))));rw[f];refine J1 (a:=some z) (o0 (J1 (o0 ?_)));refine wpAny_nsSet1 (s:={ s with toks:=s.toks+1 }) I.ns fun h' c e=>?_;obtain⟨L,q,G,g,i,j⟩:=c.count (at3.cons name v p);refine o0 (wpAny_lookBehind g (by rw[i];exact pastItsLine_dict (K4 j (by rw[M8];lia))) ?_);exact J1 (h _ ⟨(e.2 _ (ab6 I.ne)).trans I.obj,c,I.ne⟩ e)
theorem yY{R:at6->J5->Prop}{c:List J3}{e:List (Str×J3)}(X:K.In s.heap) (j:PySem.W.makesIn K C=true)
  (i:W7 K (.ref C) "__init__"=some (some (.ref f))) (l:PySem.W.typeIn K (.ref f)=some (.type "function"))
  (h:ak4 (N3 prog w) (A.under (.builtin "type.__call__" ⟨.ref C :: c,e⟩)) (.call (.ref f) ⟨.ref (s.heap.objs.size + 1) :: c,e⟩) (PySem.W.InitBack (s.heap.objs.size + 1) R)
   { s with heap:=(s.heap.push Z8).push (ae6 C s.heap.objs.size) }) :
  ak4 (N3 prog w) A (.call (.ref C) ⟨c,e⟩) R s:=by
 obtain⟨m,g,d,t,os⟩:=s;exact PySem.W.make_core (PySem.W.makes_of X j) (PySem.W.looks_findIn X i) (fun a=>PySem.W.bind_fn X a l) (.inl rfl) h
end
noncomputable def putF(f:Str) (v:V):List (Str×V)->List (Str×V)
 |[]=>[(f,v)]
 |(g,x)::r=>if g=f then(g,v)::r else(g,x)::putF f v r
theorem mn(f g:Str) (v:V):∀fs:List (Str×V),(putF f v fs).lookup g=if g=f then some v else fs.lookup g
 |[]=>by
  show af8 g [(f,v)]=_
  by_cases h:g=f
  ·have a:(g==f)=true:=beq_iff_eq.mpr h;simp only[af8,a,if_pos h]
  ·have a:(g==f)=false:=beq_eq_false_iff_ne.mpr h;simp only[af8,a,if_neg h]
 |(k,x)::r=>by
  have ih:=mn f g v r;rw[show putF f v ((k,x)::r)=(if k=f then(k,v)::r else(k,x)::putF f v r)from rfl]
  by_cases c:k=f
  ·rw[if_pos c]
   by_cases h:g=k
   ·have a:(g==k)=true:=beq_iff_eq.mpr h;simp only[af8,a,if_pos (h.trans c)]
   ·have a:(g==k)=false:=beq_eq_false_iff_ne.mpr h;simp only[af8,a,if_neg (fun e:g=f=>h (e.trans c.symm))]
  ·rw[if_neg c]
   by_cases h:g=k
   ·have a:(g==k)=true:=beq_iff_eq.mpr h;simp only[af8,a,if_neg (fun e:g=f=>c (h.symm.trans e))]
   ·have a:(g==k)=false:=beq_eq_false_iff_ne.mpr h;simp only[af8,a];exact ih
theorem lQ(f:Str) (v:V):∀fs:List (Str×V),f∈(putF f v fs).map (·.1)/\∀g,g∈fs.map (·.1)->g∈(putF f v fs).map (·.1)
 |[]=>⟨by simp[putF],fun g h=>by simp at h⟩
 |(k,x)::r=>by
  obtain⟨c,i⟩:=lQ f v r;rw[show putF f v ((k,x)::r)=(if k=f then(k,v)::r else(k,x)::putF f v r)from rfl]
  by_cases a:k=f
  ·rw[if_pos a];subst a;exact⟨by simp,fun g h=>by simpa using h⟩
  ·rw[if_neg a];refine⟨?_,fun g h=>?_⟩
   ·rw[L7];exact P4 _ c
   ·rw[L7]at h ⊢;rcases L1.mp h with e|e
    ·exact L1.mpr (.inl e)
    ·exact P4 _ (i g e)
theorem mD(f:Str) (v:V):∀fs:List (Str×V),(putF f v fs).length<=fs.length+1
 |[]=>by simp[putF]
 |(k,x)::r=>by
  have ih:=mD f v r;rw[show putF f v ((k,x)::r)=(if k=f then(k,v)::r else(k,x)::putF f v r)from rfl]
  by_cases a:k=f
  ·rw[if_pos a,M8,M8];lia
  ·rw[if_neg a,M8,M8];lia
theorem jM.some_of{v:V}{o:Option J3}(r:jM (some v) o):∃u,o=some u/\aF v u:=by
 cases o with
 |none=>exact(show False from r).elim
 |some u=>exact⟨u,rfl,r⟩
theorem yG{v:V}{u:J3}(r:aF v u):PySem.W.handedIn u=true:=by
 cases v with
 |non=>cases(show u=T9 from r);rfl
 |bl b=>cases(show u=J3.bool b from r);rfl
 |int i=>obtain⟨t,e⟩:=(show ∃t,u=ag5 i t from r);cases e;rfl
 |str x=>obtain⟨t,e⟩:=(show ∃t,u=ax3 x t from r);cases e;rfl
 |byt b=>obtain⟨t,e⟩:=(show ∃t,u=J3.bytes b t from r);cases e;rfl
 |flt b=>obtain⟨t,e⟩:=(show ∃t,u=J3.float b t from r);cases e;rfl
 |ref a=>cases(show u=Q0 a from r);rfl
 |ty n=>cases(show u=af0 n from r);rfl
section
variable{P:M9}{w:P5}{H I:Hp}{h h':L5}{a C y:K1}{fs B:List (Str×V)}
theorem xp(g:HOk P w H h) (e:H a=some (.ins C y fs)):∃c,yJ h a y C c/\(∀f,jM (fs.lookup f) (c f))/\at3 c (fs.map (·.1))/\fs.length<=1000/\H y=some (.own a):=by
 obtain⟨d,z,i,j,c,n,r,q⟩:=(show bB P w H h a (.ins C y fs)from g a _ e);exact⟨c,⟨j,n,i⟩,r,q,z,d⟩
end
structure Cls(K:J4) (C:K1):Prop where
 pg:ao7 K C Str.empty=true
 hd:am9 K C=true
 po:PySem.W.plainOver K C=true
 sa:W7 K (.ref C) "__setattr__"=some (some (.builtin "object.__setattr__"))
theorem Cls.get{K:J4}{C:K1}(c:Cls K C) (f:Str):ao7 K C f=true:=c.pg
def dU(K:J4) (C:K1) (f:Str):Prop:=W7 K (.ref C) f=some none
theorem dU.taker{K:J4}{C:K1}{f:Str}(n:dU K C f):PySem.W.takerIn K C f=some none:=by
 unfold PySem.W.takerIn;rw[show W7 K (.ref C) f=some none from n];rfl
section
variable{X:Cx}{B:List (K1×Obj)}{σ:St}{H:Hp}{s:J5}{a C N:K1}{fs:List (Str×V)}{f:Str}{v:V}{A:O9}{E:J3->J5->Prop}
theorem uS{b:Bool}{Q:J3->J5->Prop}(I:Inv X B σ H s) (e:H a=some (.ins C N fs)) (c:Cls X.K C) (n:dU X.K C f) (l:fs.lookup f=some v)
  (h:∀u s',Inv X B σ H s'->aF v u->Q u s'):K5 (N3 X.prog X.w) A (getAttr (.ref a) f b) Q E s:=by
 obtain⟨j,O,r,_,_,_⟩:=xp I.hok e;obtain⟨u,i,g⟩:=jM.some_of (v:=v) (o:=j f) (by rw[<-l];exact r f);exact BG I.kIn O (c.get f) c.hd n i (yG g) (h u _ (I.tok _) g)
theorem vS{y:V}{u:J3}{Q:Unit->J5->Prop}(I:Inv X B σ H s) (e:H a=some (.ins C N fs)) (c:Cls X.K C) (n:dU X.K C f) (S:fs.length<1000) (M:aF y u)
  (h:∀s',Inv X B σ (upd H a (.ins C N (putF f y fs))) s'->Q () s'):K5 (N3 X.prog X.w) A (setAttr (.ref a) f u) Q E s:=by
 obtain⟨l,O,r,m,_,j⟩:=xp I.hok e;have L:(fs.map (·.1)).length<=K0:=by rw[J0,aa3];exact K4 (by assumption) (by decide)
 refine Cp I.kIn O c.sa c.po n.taker c.hd m L fun P i J=>h _ ?_;have p:∃o,P.get? N=some o:=let⟨o,_,_,w,_⟩:=i.ns;⟨o,w⟩
 refine I.write (x:=a) (e:=N) (by rw[e];exact al9) (.inr j) (fun b q R z=>(J.2 b R).trans z) p ?_;refine⟨by rw[aO O.ne];exact j,?_,O.ne,i.obj,_,i.ns,fun g=>?_,fun g G=>?_⟩
 ·have:=mD f y fs;exact K4 (by assumption) (by assumption)
 ·show jM ((putF f y fs).lookup g) (if g=f then some u else l g);rw[mn]
  by_cases q:g=f
  ·rw[if_pos q,if_pos q];exact M
  ·rw[if_neg q,if_neg q];exact r g
 ·by_cases q:g=f
  ·rw[q];exact(lQ f y fs).1
  ·refine(lQ f y fs).2 g (m g fun z=>G ?_);show(if g=f then some u else l g)=none;rw[if_neg q];exact z
theorem Inv.made(I:Inv X B σ H s):Inv X B σ (upd (upd H s.heap.objs.size (.own (s.heap.objs.size+1))) (s.heap.objs.size+1) (.ins C s.heap.objs.size []))
  { s with heap:=(s.heap.push Z8).push (ae6 C s.heap.objs.size) }:=by
 have c:(s.heap.push Z8).get? s.heap.objs.size=some Z8:=J8 s.heap rfl;have i:((s.heap.push Z8).push (ae6 C s.heap.objs.size)).get? (s.heap.objs.size+1)=some (ae6 C s.heap.objs.size):=by
  have:=J8 (s.heap.push Z8) (o:=ae6 C s.heap.objs.size) rfl
  rwa [R6]at this
 have h:(s.heap.push Z8).Ns s.heap.objs.size (fun _=>none):=⟨Z8,#[],_,c,rfl,(fun e l=>absurd l (by simp)),fun _=>rfl⟩;have j:=I.laid (a:=s.heap.objs.size) (o:=.own (s.heap.objs.size+1)) (h':=s.heap.push Z8) (t':=s.toks) (fun b u q=>u8 _ q) (J7 _) ⟨_,c⟩;refine j.laid (a:=s.heap.objs.size+1) (o:=.ins C s.heap.objs.size []) (t':=s.toks) (fun b u q=>u8 _ q) (Nat.le_of_eq (R6 _ _)) ?_;have f:s.heap.objs.size≠s.heap.objs.size+1:=K9 (W8 _);refine⟨by rw[aO f,aK],P1 _,f,i,fun _=>none,(L5.Ns1.of_empty h).at fun o q=>u8 _ q,fun _=>al9,fun y g=>absurd rfl g⟩
theorem Do{prog:M9}{w:P5}{env:Env}{e:O4}{f:Str}{c:Pos}{s:J5}{Q:J3->J5->Prop}(g:aj9 e f env (af7 e env)=af7 e env)
  (h:K5 (N3 prog w) A (af7 e env) (fun o a=>K5 (N3 prog w) A (getAttr o f true) Q E a) E s):K5 (N3 prog w) A (af7 (.Attribute e f c) env) Q E s :=
 Attribute_any_ h (by rw[arm_eval_Attribute,g])
end
def Jf(K:J4) (e:TE) (f:Str):TE:=fun h H Q=>e h H fun x c=>∃a C g fs v,x=.ref a/\c a=some (.ins C g fs)/\Cls K C/\dU K C f/\fs.lookup f=some v/\Q v c
def IW(K:J4) (h tv:TE) (f:Str):TS:=fun D c H=>tv c H fun y i=>h c i fun x e=>∃a C g fs,x=.ref a/\e a=some (.ins C g fs)/\Cls K C/\dU K C f/\fs.length<1000 /\
 D.nx c (upd e a (.ins C g (putF f y fs)))
section
variable{X:Cx}{o e z:O4}{f:Str}{N B Y:Pos}{W tv:TE}
theorem FQ(he:PE X e W) (z:aj9 e f X.env (af7 e X.env)=af7 e X.env):PE X (.Attribute e f N) (Jf X.K W f):=by
 intro j s i H Q I h;refine Do z (thn (he j s i H _ I h) fun u L z13z=>?_);obtain⟨x,B,w,p,a,C,E,fs,v,m,g,c,n,l,q⟩:=z13z;subst m;obtain rfl:u=Q0 a:=p;exact uS w g c n l fun G J A o=>⟨v,B,A,o,q⟩
theorem FK(ha:PE X o W) (M:PE X z tv) (hs:ak9 z (some (.Attribute o f B)) N.line X.env=ak7 false):PS X (.Assign [.Attribute o f B] z N) (IW X.K W tv f):=by
 intro i s e H D I h;refine plainObj_wpAny_Assign_Attribute (thn (M i s e H _ I h) fun u G g=>g.el fun y O J w q=>thn (ha i G e O _ J q) fun P S z14z=>?_) hs;obtain⟨x,R,L,E,a,C,Q,fs,A,j,c,n,l,m⟩:=z14z;subst A;obtain rfl:P=Q0 a:=E;exact vS L j c n l w fun T p=>⟨e,_,p,m⟩
end
structure cv(k:Nat) (A:O9):Prop where
 hd:A.handled=none
 dp:A.depth+3*k+5<recursionLimit
 un:A.units+16*k+200<Z4
theorem cv.mono{j k:Nat}{A:O9}(r:cv k A) (h:j<=k):cv j A:=⟨r.hd,by have:=r.dp;lia,by have:=r.un;lia⟩
theorem cv.deeper{k:Nat}{A:O9}(r:cv (k+1) A) (env:Env):cv k (A.deeper env) :=
 ⟨r.hd,by have:=r.dp;show A.depth+1+3*k+5<_;lia,by have:=r.un;show A.units+3+16*k+200<_;lia⟩
theorem vo{A:O9}{C:K1}{us:List J3}{a:List (Str×J3)}:(A.under (.builtin "type.__call__" ⟨.ref C::us,a⟩)).depth=A.depth+1:=by
 first|rfl|simp[O9.under,Code.weight,Code.isCreation,Code.isGuard,Code.isCaller,Code.frames,Code.isFrame,guardIds]
theorem uT{A:O9}{C:K1}{us:List J3}{a:List (Str×J3)}:(A.under (.builtin "type.__call__" ⟨.ref C::us,a⟩)).units=A.units+1:=by
 first|rfl|simp[O9.under,Code.cUnits,Code.frames,Code.isFrame]
theorem cv.make{k:Nat}{A:O9}(r:cv (k+1) A) (C:K1) (us:List J3) (a:List (Str×J3)):cv k (A.under (.builtin "type.__call__" ⟨.ref C::us,a⟩)) :=
 ⟨r.hd,by have:=r.dp;rw[vo];lia,by have:=r.un;rw[uT];lia⟩
theorem cv.depth{k:Nat}{A:O9}(r:cv k A):A.depth<recursionLimit:=by have:=r.dp;lia
theorem cv.units{k:Nat}{A:O9}(r:cv k A):A.units+64<Z4:=by have:=r.un;lia
def JH:TA:=fun _ H Q=>Q [] H
def Ij(c:TE) (g:TA):TA:=fun a H Q=>c a H fun x f=>g a f fun h e=>Q (x::h) e
section
variable{X:Cx}{e:O4}{B:List O4}{te:TE}{t:TA}{y:Pos}
theorem vd:PA X [] JH:=fun _ _ _ _ H Q I h=>X4 ⟨[],H,I,.nil,h⟩
theorem m5(ha:PE X e te) (hr:PA X B t) (hs:autoParam (K8 (e::B) X.env=(false,af7 e X.env)::K8 B X.env) L2.zq0._auto_1):PA X (e::B) (Ij te t):=by
 intro y c s f H Q I h;rw[hs];show K5 _ _ (at4 ((false,af7 e X.env)::aa2 y (K8 B X.env))) _ _ s;refine U2 (thn (ha c s f H _ I h) fun u j a=>a.el fun x p l q g=>?_);exact thn (hr y c j f p _ l g) fun z A a=>a.el fun i n o w m=>⟨x::i,n,o,.cons q w,m⟩
def GK(t:TA):TE:=fun e H Q=>t e H fun a c=>a.length<=K0/\∀p,c p=none->Q (.ref p) (upd c p (.tup a))
def JE(t:TA):TE:=fun e H Q=>t e H fun a c=>a.length<=K0/\∀p,c p=none->Q (.ref p) (upd c p (.lst a))
theorem vC{x1}(h:PA X B t):PE X (.Tuple B x1 y) (GK t):=by
 intro n s i H Q I m;refine wpAny_Tuple_spliced (thn (h y n s i H _ I m) fun l a ⟨g,f,c,r,z,q⟩=>⟨by rw[<-r.length];exact z,?_⟩);have j:f a.heap.objs.size=none:=c.hok.fresh (J7 _);refine⟨.ref a.heap.objs.size,upd f a.heap.objs.size (.tup g),c.laid (t':=a.toks) (fun b u e=>u8 _ e) (J7 _) ?_,rfl,q _ j⟩;exact⟨z,l,r,⟨_,J8 _ rfl,rfl,⟨_,rfl⟩,rfl⟩⟩
theorem z9(h:PA X B t):PE X (.List B y) (JE t):=by
 intro n s i H Q I m;refine wpAny_List_spliced (thn (h y n s i H _ I m) fun l a ⟨g,f,c,r,z,q⟩=>⟨by rw[<-r.length];exact z,?_⟩);have j:f a.heap.objs.size=none:=c.hok.fresh (J7 _);refine⟨.ref a.heap.objs.size,upd f a.heap.objs.size (.lst g),c.laid (t':=a.toks) (fun b u e=>u8 _ e) (J7 _) ?_,rfl,q _ j⟩;exact⟨z,l,0,r,J8 _ rfl⟩
end
abbrev Sp:=List V->Hp->VK->XK->Prop
abbrev CXT:=List Env->Hp->J5->XK->J3->J5->Prop
structure vh(P:M9) (w:P5) (K:J4) (mg:Str->Option J3) (base:L5) (A:O9) (outer:List Env) (s:J5) (H:Hp):Prop where
 frames:A.frames=some outer
 mod:Mod K mg base
 bs:∀b o,base.get? b=some o->s.heap.get? b=some o/\H b=none
 bsz:base.objs.size<=s.heap.objs.size
 funs:s.heap.FunFrames base outer
 frf:∀b∈frs outer,H b=none
 hok:HOk P w H s.heap
 bare:ar5 s.gens
def CE(a:List Env) (P:M9) (w:P5) (H:Hp) (s:J5) (Q:VK) (u:J3) (s':J5):Prop :=
 ∃v c,s'.os=s.os/\ar5 s'.gens/\Un (frs a) [] H c s.heap s'.heap/\HOk P w c s'.heap/\aF v u/\Q v c
def CR(CX:CXT) (a:List Env) (P:M9) (w:P5) (H:Hp) (s:J5) (Q:VK) (E:XK) (r:at6) (s':J5):Prop :=
 match r with
 |.ok (.ret u)=>CE a P w H s Q u s'
 |.ok _=>False
 |.error e=>CX a H s E e s'
structure aR(P:M9) (w:P5) (K:J4) (mg:Str->Option J3) (base:L5) (CX:CXT) (k:Nat) (f:K1) (fd:N2) (ps:List Str) (sp:Sp):Prop where
 len:∀vs H Q E,sp vs H Q E->vs.length=ps.length
 run:∀(A:O9) (outer:List Env) (s:J5) (H:Hp) (args:Args) (us:List J3) (vs:List V) (Q:VK) (E:XK),cv k A->vh P w K mg base A outer s H->aw1 s fd args (ps.zip us)->ax vs us->sp vs H Q E ->
  ak4 (N3 P w) A (.call (.ref f) args) (CR CX outer P w H s Q E) s
theorem vh.make{P:M9}{w:P5}{K:J4}{c:Str->Option J3}{base:L5}{A:O9}{a:List Env}{s:J5}{H:Hp}(e:vh P w K c base A a s H) (C:K1) (us:List J3) (f:List (Str×J3)) :
  vh P w K c base (A.under (.builtin "type.__call__" ⟨.ref C::us,f⟩)) a s H:=⟨by first|exact e.frames|(simpa[O9.under,Code.envs,Code.isFrame,pushEnvs]using e.frames),e.mod,e.bs,e.bsz,e.funs,e.frf,e.hok,e.bare⟩
section
variable{X:Cx}{y:List (K1×Obj)}{σ:St}{H:Hp}{s s':J5}
theorem Inv.env0(I:Inv X y σ H s):vh X.prog X.w X.K X.mg X.base X.A X.stack s H :=
 ⟨I.ok.frames,I.ok.mod,I.bs,K4 I.ok.bsz I.sz,I.stack,I.stkFree,I.hok,I.bare⟩
theorem Inv.after{Q:VK}{u:J3}(I:Inv X y σ H s) (h:CE X.stack X.prog X.w H s Q u s'):EP X y σ Q u s':=by
 obtain⟨v,f,os,a,un,e,r,q⟩:=h;obtain⟨i,g,d,t,c⟩:=s';obtain rfl:c=s.os:=os;exact⟨v,f,I.call (h':=i) (g':=g) (d':=d) (t':=t) (ch:=[]) un e a (fun b z=>absurd z (by simp)),r,q⟩
end
def GQ(sp:Sp) (dvs:List V) (E:XK) (t:TA):TE:=fun e H Q=>t e H fun c a=>sp (c++dvs) a Q E
def IL(C:K1) (sp:Sp) (dvs:List V) (E:XK) (t:TA):TE:=fun f H Q=>t f H fun e c=>∀x a,c x=none->c a=none->a≠x ->
 sp (.ref x::(e++dvs)) (upd (upd c a (.own x)) x (.ins C a [])) (fun v g=>v=.non/\Q (.ref x) g) E
def dN(K:J4) (c:N2) (ps:List Str) (ds:List J3):Prop :=
 ∀(s:J5) (a:List J3),K.In s.heap->(a++ds).length=ps.length->aw1 s c ⟨a,[]⟩ (ps.zip (a++ds))
theorem dN.all{K:J4}{c:N2}{ps:List Str}(h:∀us:List J3,us.length=ps.length->bindArgs c ⟨us,[]⟩=ak7 (ps.zip us)):dN K c ps []:=fun s us _ a=>by
 rw[ag7]at a ⊢;exact .of_eq (h us a)
def oh(CX:CXT) (X:Cx) (E:XK):Prop:=∀(c:List (K1×Obj)) (f:St) (H:Hp) (s:J5) (e:J3) (a:J5),Inv X c f H s->CX X.stack H s E e a->X.xe e a
section
variable{X:Cx}{CX:CXT}{k:Nat}{f C:K1}{B:N2}{ps:List Str}{sp:Sp}{dvs:List V}{ds:List J3}{E:XK}{x m:Str}{p y N:Pos}{e o:O4}{z:List O4}{Y:TE}{t:TA}
theorem AC{g:List (K1×Obj)}{σ:St}{H:Hp}{s:J5}{Q:VK}{us:List J3}{c:List V}(F:aR X.prog X.w X.K X.mg X.base CX k f B ps sp) (hr:cv k X.A) (o:dN X.K B ps ds) (j:ax dvs ds) (l:oh CX X E)
  (I:Inv X g σ H s) (r:ax c us) (h:sp (c++dvs) H Q E):K5 (N3 X.prog X.w) X.A (aw9 (.ref f) us) (EP X g σ Q) X.xe s:=by
 have i:ax (c++dvs) (us++ds):=r.append j;have n:(us++ds).length=ps.length:=by rw[<-i.length];exact F.len _ _ _ _ h
 refine aw2 (ah2 (F.run X.A X.stack s H ⟨us,[]⟩ (us++ds) (c++dvs) Q E hr I.env0 (o s us I.kIn n) i h) fun r p a=>?_);cases r with
 |error e=>exact l g σ H s e p I a
 |ok m =>
  cases m with
  |ret u=>exact I.after a
  |next=>exact ad1 a
  |brk=>exact ad1 a
  |cont=>exact ad1 a
theorem Co(F:aR X.prog X.w X.K X.mg X.base CX k f B ps sp) (hr:cv k X.A) (hg:Gl X x) (i:X.mg x=some (.ref f)) (o:ab9 X.K (.ref f)=true) (n:dN X.K B ps ds) (g:ax dvs ds) (l:oh CX X E)
  (ha:PA X (e::z) t) (hdb:autoParam ((x==("__debug__":Str))=false) L2.zq1._auto_1) (he:autoParam (K8 (e::z) X.env=(false,af7 e X.env)::K8 z X.env) L2.zq0._auto_1) (hpl:autoParam ((aa2 y (K8 z X.env)).any (·.1)=false) L2.zq0._auto_1) :
  PE X (.Call (.Name x p) (e::z) [] y) (GQ sp dvs E t):=by
 intro m s j H Q I h;refine U3 (kE I hg i ?_ hdb);refine PySem.W.callWith_K (h₀:=X.base) I.ok.mod.kin o (thn (ha y m s j H _ I h) fun u w a=>a.el fun A C c r q=>⟨c.kIn,?_⟩) he hpl;exact AC F hr n g l c r q
structure Mk(K:J4) (C f:K1):Prop where
 makes:PySem.W.makesIn K C=true
 init:W7 K (.ref C) "__init__"=some (some (.ref f))
 fn:PySem.W.isFn K (.ref f)=true
 kp:ab9 K (.ref C)=true
theorem A4{i:List (K1×Obj)}{σ:St}{H:Hp}{s:J5}{Q:VK}{us:List J3}{j:List V}(M:Mk X.K C f) (F:aR X.prog X.w X.K X.mg X.base CX k f B ps sp) (hr:cv (k+1) X.A) (J:dN X.K B ps ds) (n:ax dvs ds)
  (z:oh CX X E) (I:Inv X i σ H s) (r:ax j us)
  (h:∀x c,H x=none->H c=none->c≠x->sp (.ref x::(j++dvs)) (upd (upd H c (.own x)) x (.ins C c [])) (fun v w=>v=.non/\Q (.ref x) w) E) :
  K5 (N3 X.prog X.w) X.A (aw9 (.ref C) us) (EP X i σ Q) X.xe s:=by
 have l:=h (s.heap.objs.size+1) s.heap.objs.size (I.hok.fresh (ap3 _)) (I.hok.fresh (J7 _)) (K9 (W8 _));have g:=Inv.made (C:=C) I;have m:ax (V.ref (s.heap.objs.size+1)::(j++dvs)) (Q0 (s.heap.objs.size+1)::(us++ds)):=.cons rfl (r.append n);have G:(Q0 (s.heap.objs.size+1)::us++ds).length=ps.length:=by
  have e:=m.length;rw[F.len _ _ _ _ l]at e;exact e.symm
 refine aw2 (yY (f:=f) I.kIn M.makes M.init (beq_iff_eq.mp M.fn) (ah2 (F.run _ X.stack _ _ ⟨Q0 (s.heap.objs.size+1)::us,[]⟩ (Q0 (s.heap.objs.size+1)::(us++ds)) _ _ E (hr.make C us [])
  (g.env0.make C us []) (J _ (Q0 (s.heap.objs.size+1)::us) g.kIn G) m l) fun r L a=>?_))
 cases r with
 |error e=>exact z i σ _ _ e L g a
 |ok A =>
  cases A with
  |ret u =>
   obtain⟨v,q,p,N,O,o⟩:=g.after a;subst O;exact⟨N,⟨V.ref (s.heap.objs.size+1),q,p,rfl,o⟩⟩
  |next=>exact ad1 a
  |brk=>exact ad1 a
  |cont=>exact ad1 a
theorem BO(M:Mk X.K C f) (F:aR X.prog X.w X.K X.mg X.base CX k f B ps sp) (hr:cv (k+1) X.A) (hg:Gl X x) (i:X.mg x=some (.ref C)) (n:dN X.K B ps ds) (g:ax dvs ds) (l:oh CX X E)
  (ha:PA X (e::z) t) (hdb:autoParam ((x==("__debug__":Str))=false) L2.zq1._auto_1) (he:autoParam (K8 (e::z) X.env=(false,af7 e X.env)::K8 z X.env) L2.zq0._auto_1) (hpl:autoParam ((aa2 y (K8 z X.env)).any (·.1)=false) L2.zq0._auto_1) :
  PE X (.Call (.Name x p) (e::z) [] y) (IL C sp dvs E t):=by
 intro m s j H Q I h;refine U3 (kE I hg i ?_ hdb);refine PySem.W.callWith_K (h₀:=X.base) I.ok.mod.kin M.kp (thn (ha y m s j H _ I h) fun o u a=>a.el fun w A c r q=>⟨c.kIn,?_⟩) he hpl;exact A4 M F hr n g l c r q
end
structure au(N P:List Str) (sc:ai7):Prop where
 kind:sc.kind=.function
 co:sc.isCoroutine=false
 gen:sc.isGenerator=false
 nd:N.Nodup
 pre:N.take P.length=P
 par:∀x∈P,sc.names.lookup x=some .local∨sc.names.lookup x=some .cell
 nofree:∀y∈sc.names,y.2≠.free
theorem pY{aq3:Str->Option W4}{x:Str}:∀{binds:List (Str×J3)}{m:Str->Option J3},(∀v,(x,v)∉binds)->bindL aq3 binds m x=m x
 |[],_,_=>rfl
 |(n,v)::r,m,h=>by
  unfold bindL;rw[pY fun w a=>h w (P4 _ a)]
  split
  ·have:x≠n:=by rintro rfl;exact h v U1
   simp[this]
  ·rfl
theorem qz{aq3:Str->Option W4}{x:Str}:∀{binds:List (Str×J3)}{m:Str->Option J3},(∀v,(x,v)∉binds)->bindC aq3 binds m x=m x
 |[],_,_=>rfl
 |(n,v)::r,m,h=>by
  unfold bindC;rw[qz fun w a=>h w (P4 _ a)]
  split
  ·rfl
  ·have:x≠n:=by rintro rfl;exact h v U1
   simp[this]
theorem pQ{aq3:Str->Option W4}{x:Str}{v:J3}:∀{P:List Str}{a:List J3}{i:Nat}{m:Str->Option J3},P.Nodup->P[i]?=some x->a[i]?=some v->aq3 x=some .local ->
  bindL aq3 (P.zip a) m x=some v
 |[],_,_,_,_,h,_,_=>by simp at h
 |_::_,[],_,_,_,_,h,_=>by simp at h
 |p::P,w::a,0,m,f,e,c,g=>by
  simp at e c;subst e;subst c;show bindL aq3 ((p,w)::P.zip a) m p=_;unfold bindL;rw[pY fun v j=>(aa4.mp f).1 (List.of_mem_zip j).1,if_pos g];simp
 |p::P,w::a,i+1,m,f,e,c,g=>by
  show bindL aq3 ((p,w)::P.zip a) m x=_;unfold bindL;exact pQ (i:=i) (aa4.mp f).2 (by simpa using e) (by simpa using c) g
theorem qi{aq3:Str->Option W4}{x:Str}{v:J3}:∀{P:List Str}{a:List J3}{i:Nat}{m:Str->Option J3},P.Nodup->P[i]?=some x->a[i]?=some v->aq3 x≠some .local ->
  bindC aq3 (P.zip a) m x=some v
 |[],_,_,_,_,h,_,_=>by simp at h
 |_::_,[],_,_,_,_,h,_=>by simp at h
 |p::P,w::a,0,m,f,e,c,g=>by
  simp at e c;subst e;subst c;show bindC aq3 ((p,w)::P.zip a) m p=_;unfold bindC;rw[qz fun v j=>(aa4.mp f).1 (List.of_mem_zip j).1,if_neg g];simp
 |p::P,w::a,i+1,m,f,e,c,g=>by
  show bindC aq3 ((p,w)::P.zip a) m x=_;unfold bindC;exact qi (i:=i) (aa4.mp f).2 (by simpa using e) (by simpa using c) g
noncomputable def gJ(N:List Str) (a:List V):St:=a.map some++O0 (N.length-a.length) none
noncomputable def sP(CX:CXT) (P:M9) (w:P5) (K:J4) (j:Str->Option J3) (base:L5) (N:List Str) (g:Str) (c:ai7) (f:K1) (i:J3) (A:O9) (a:List Env) (s:J5) (H:Hp) (E:XK):Cx where
 prog:=P
 w:=w
 K:=K
 mg:=j
 base:=base
 A:=A.deeper (au5 g c s.heap.objs.size f i)
 N:=N
 s₀:=s
 H₀:=H
 env:=au5 g c s.heap.objs.size f i
 outer:=a
 stack:=au5 g c s.heap.objs.size f i::a
 ex:=[]
 calm:=true
 fn:=fun _=>true
 pn:=[]
 xe:=fun e m=>K5 (N3 P w) (A.deeper (au5 g c s.heap.objs.size f i)) (leaving (au5 g c s.heap.objs.size f i) e) (fun _ h=>CX a H s E e h) (fun l h=>CX a H s E l h) m
theorem um{a:ai7}{n:Nat}{x:Str}(h:a.names.lookup x=some .cell):∃c,(ax6 n a.names []).lookup x=some c:=by
 have q:=PySem.W.cellsFrom_some a.names n [] (.inl h);exact Option.isSome_iff_exists.mp q
theorem xW{CX:CXT}{P:M9}{w:P5}{K:J4}{Q:Str->Option J3}{base:L5}{N ps:List Str}{l:Str}{g:ai7}{f:K1}{M:J3}{A:O9}{j:List Env}{s R:J5}{H:Hp}{E:XK}{us:List J3}{G:List V}
  (S:au N ps g) (Z:A.handled=none) (o:vh P w K Q base A j s H) (hl:G.length=ps.length) (r:ax G us)
  (x:InCallC s s.heap.objs.size (bindL (au5 l g s.heap.objs.size f M).kindOf (ps.zip us) fun _=>none) (ax6 (s.heap.objs.size+1) g.names []) (bindC (au5 l g s.heap.objs.size f M).kindOf (ps.zip us) fun _=>none) R) :
  Inv (sP CX P w K Q base N l g f M A j s H E) [] (gJ N G) H R:=by
 have Y:ps.length<=N.length:=by have:=congrArg al7 S.pre;rw[R3]at this;lia
 obtain⟨O,tk,rfl,U⟩:=x.done;have C:∀b:K1,b∉(sP CX P w K Q base N l g f M A j s H E).ex:=fun b z=>absurd (show b∈([]:List K1)from z) (by simp);refine⟨⟨o.mod,S.kind,rfl,rfl,J7 _,fun y z c O m=>?_,fun y B=>?_,fun y c _ h=>?_,fun _=>Z,O9.frames_deeper o.frames,.inr ⟨rfl,rfl⟩,fun b z=>absurd z (C b),o.bs,o.bsz,fun b _ _=>C b,fun b z=>absurd z (C b),o.funs,o.frf⟩,
  rfl,o.bare,Un.kept U,⟨_,x.toInCall.ns,fun i y v O m h3=>?_⟩,fun y c h=>⟨_,x.cell y c h⟩,o.hok.fresh (J7 _),fun y c h=>?_,fun p J=>absurd (show p∈([]:List (K1×Obj))from J) (by simp),o.hok.kept U,?_⟩
 ·exact name_of_addr x.apart (W6 O) (W6 m)
 ·have B:g.names.lookup y=some .cell∨g.names.lookup y=some .free:=B;rcases B with B|B
  ·exact um B
  ·exact absurd rfl (S.nofree _ (W6 B))
 ·exact V4 (x.above y c (W6 h))
 ·have L:i<G.length:=by
   unfold gJ at m
   by_cases L:i<G.length
   ·exact L
   ·rw[ab2 (by simpa using L)]at m;rw[ah6]at m
    split at m<;>cases m
  have X:G[i]?=some v:=by
   unfold gJ at m;rw[T0 (by simpa using L),N9]at m;cases e:G[i]? with
   |none=>rw[e]at m;cases m
   |some a=>rw[e]at m;cases m;rfl
  obtain⟨u,T,rv⟩:=r.get X;have J:ps[i]?=some y:=by
   rw[<-S.pre,ad4 (by lia)];exact O
  have I:ps.Nodup:=by rw[<-S.pre];exact S.nd.sublist (List.take_sublist _ _)
  refine⟨u,rv,?_⟩;rcases S.par y (O5 J)with k|k
  ·exact .inl ⟨k,pQ I J T k⟩
  ·obtain⟨c,e⟩:=um (n:=s.heap.objs.size+1) k;refine .inr ⟨.inl k,c,e,?_⟩;have q:=x.cell y c e;rw[qi I J T (by show g.names.lookup y≠_;rw[k];decide)]at q;exact q
 ·exact o.hok.fresh (V4 (x.above y c (W6 h)))
 ·unfold gJ;show _=N.length;rw[N7,J0,List.length_replicate]
  lia
theorem IH{CX:CXT}{P:M9}{w:P5}{K:J4}{O:Str->Option J3}{base:L5}{k:Nat}{f:K1}{name g:Str}{i:Arguments}{j:List ae4}{a:ai7}{dV kV C pm h ct oc:J3}{an od:Option K1}
  {R:Array (Option J3)} {N ps:List Str} {sp:Sp} (lk:K.lookup f=some ⟨oc,od,.func (ah3 name g i j a dV kV C pm an h ct),R⟩) (X:al0 K h g=true) (S:au N ps a)
  (len:∀m H Q E,sp m H Q E->m.length=ps.length)
  (B:∀ (A:O9) (c:List Env) (s:J5) (H:Hp) (m:List V) (Q:VK) (E:XK),cv k (A.deeper (au5 g a s.heap.objs.size f h)) → sp m H Q E →
   ∃t,PSs (sP CX P w K O base N g a f h A c s H E) j t/\t { nx:=fun _ p=>Q .non p,rt:=Q } (gJ N m) H) :
  aR P w K O base CX (k+1) f (ah3 name g i j a dV kV C pm an h ct) ps sp:=by
 refine⟨len,fun A c s H a0 us m Q E T L hb r M=>?_⟩;have hl:=len _ _ _ _ M;have KX:K.In s.heap:=L.mod.kin.keeps fun b o e=>(L.bs b o e).1;have U:s.heap.NoLimit:=L.mod.nolimit.keeps fun b o e=>(L.bs b o e).1;have z:∀y∈ps.zip us,a.names.lookup y.1=some .local∨(a.names.lookup y.1=some .cell/\((ax6 (s.heap.objs.size+1) a.names []).lookup y.1).isSome=true):=fun z17z hy=>by
  obtain⟨n,v⟩:=z17z
  rcases S.par n (List.of_mem_zip hy).1 with q|q
  ·exact .inl q
  ·exact .inr ⟨q,PySem.W.cellsFrom_some _ _ _ (.inl q)⟩
 refine codeAny_call_function T.depth (KX _ _ lk) rfl S.co S.gen rfl (PySem.W.codeRec_of KX X) (hb _ _ _ _ ?_);refine wpAny_newFunctionEnv_cells S.kind z fun a1 he s1 x=>?_;subst he;refine⟨U.keeps x.toInCall.keep,codeAny_func ?_⟩;obtain⟨t,ht,hq⟩:=B A c s H m Q E (T.deeper _) M;have I:Inv (sP CX P w K O base N g a f h A c s H E) [] (gJ N m) H s1:=xW S T.hd L hl r x;refine U6 (ht [] s1 (gJ N m) H _ I hq) (fun fl Y hs=>?_) fun e Y hs=>hs;have G:∀{l:St} {p:Hp} {v:V} {u:J3},Inv (sP CX P w K O base N g a f h A c s H E) [] l p Y->aF v u->Q v p->CE c P w H s Q u Y :=
  fun {l p v u} J Z q=>⟨v,p,J.os,J.bare,J.base,J.hok,Z,q⟩
 cases fl with
 |ret u =>
  obtain⟨v,l,p,J,Z,q⟩:=hs;exact G J Z q
 |next =>
  obtain⟨l,p,J,q⟩:=hs;exact G (v:=V.non) (u:=T9) J rfl q
 |brk =>
  obtain⟨_,_,_,q⟩:=hs;exact ad1 q
 |cont =>
  obtain⟨_,_,_,q⟩:=hs;exact ad1 q
section
variable{X:Cx}{x:Str}{p y:Pos}{e:O4}{z:List O4}{t:TA}{id T:String}{r:List V->Hp->VK->Prop}
def tCB(r:List V->Hp->VK->Prop) (t:TA):TE:=fun e H Q=>t e H fun c a=>r c a Q
theorem tG(l:di X (.builtin id) r) (hg:Gl X x) (g:X.mg x=none) (u:ac5 x=some (.builtin id)) (ha:PA X (e::z) t) (hn:autoParam (x≠"__name__") L2.zq1._auto_1) (hdb:autoParam ((x==("__debug__":Str))=false) L2.zq1._auto_1)
  (he:autoParam (K8 (e::z) X.env=(false,af7 e X.env)::K8 z X.env) L2.zq0._auto_1) (hpl:autoParam ((aa2 y (K8 z X.env)).any (·.1)=false) L2.zq0._auto_1):PE X (.Call (.Name x p) (e::z) [] y) (tCB r t):=by
 intro f s c H Q I h;refine U3 (cO I hg g u ?_ hn hdb);exact X9 (thn (ha y f s c H _ I h) fun j n a=>a.el fun q w o i m=>l f n c w q j Q o i m) he hpl
theorem yl(l:di X (.type T) r) (hg:Gl X x) (g:X.mg x=none) (u:ac5 x=some (.type T)) (ha:PA X (e::z) t) (hn:autoParam (x≠"__name__") L2.zq1._auto_1) (hdb:autoParam ((x==("__debug__":Str))=false) L2.zq1._auto_1)
  (he:autoParam (K8 (e::z) X.env=(false,af7 e X.env)::K8 z X.env) L2.zq0._auto_1) (hpl:autoParam ((aa2 y (K8 z X.env)).any (·.1)=false) L2.zq0._auto_1):PE X (.Call (.Name x p) (e::z) [] y) (tCB r t):=by
 intro f s c H Q I h;refine U3 (cO I hg g u ?_ hn hdb);exact S2 (thn (ha y f s c H _ I h) fun j n a=>a.el fun q w o i m=>l f n c w q j Q o i m) he hpl
end
end L2
namespace HT
open PySem PyProof.Rows
section
open PySem.SeqAt
open PySem.AutoSeq1 (wpAny_loadPart')
open PySem.MeetsSeq PySem.MeetsSeq2 PySem.MeetsSeq3
end
section
variable{prog:M9}{w:P5}{A:O9}{E:J3->J5->Prop}{s:J5}
theorem cat_tup{t b:K1}{c ws:List J3}{Q:J3->J5->Prop}(B:aj8 s.heap t c.toArray) (H:aj8 s.heap b ws.toArray) (z:c≠[])
  (G:ws=[]->Q (.ref t) s) (C:ws≠[]->Q (.ref s.heap.objs.size) { s with heap:=s.heap.push { cls:=.type "tuple",data:=.seq (c++ws).toArray } })
  (hsz:c.length+ws.length<=K0):K5 (N3 prog w) A (ad3 .Add (.ref t) (.ref b)) Q E s:=by
 obtain⟨⟨cls,x,data,o⟩,l,q,n,m⟩:=id B;obtain⟨⟨u,g,data2,f⟩,a,i,p,h⟩:=id H;simp only at q m i h;subst q m i h;have e:c.toArray++ws.toArray=(c++ws).toArray:=by simp
 by_cases j:ws=[]
 ·exact concat_meets ⟨_,l,rfl⟩ ⟨_,a,rfl⟩ noFill_tuple_add seq_tuple_add PySem.F.slot_tuple_add PySem.F.entry_tuple_add (PySem.F.args_tuple_add_2 _ _)
   (tuple_addW1 t b c.toArray ws.toArray n p x g o f (by simpa using z) (by simp[j])) ⟨l,a,G j⟩
 ·refine concat_meets ⟨_,l,rfl⟩ ⟨_,a,rfl⟩ noFill_tuple_add seq_tuple_add PySem.F.slot_tuple_add PySem.F.entry_tuple_add (PySem.F.args_tuple_add_2 _ _)
   (tuple_addW2 t b c.toArray ws.toArray n p x g o f (by simpa using z) (by simpa using j) (by rw[K3,K3];exact hsz)) ⟨l,a,?_⟩
  rw[e];exact C j
noncomputable def sIx(n d:Nat):Option Int->Nat
 |none=>d
 |some v=>if v<0 then(v+(n:Int)).toNat else min v.toNat n
theorem sIx_none(n d:Nat):sIx n d none=d:=rfl
theorem sIx_nat(n d k:Nat):sIx n d (some (k:Int))=min k n:=by
 show(if(k:Int)<0 then((k:Int)+(n:Int)).toNat else min (k:Int).toNat n)=min k n;rw[if_neg (by lia),V8]
theorem En(n d:Nat) (c:d<=n) (o:Option Int):sIx n d o<=n:=by
 cases o with
 |none=>exact c
 |some v =>
  show(if v<0 then(v+(n:Int)).toNat else min v.toNat n)<=n
  by_cases a:v<0
  ·rw[if_pos a];lia
  ·rw[if_neg a];exact Nat.min_le_right _ _
theorem xj(v:Int) (n d:Nat):(if v<0 then max (v+(n:Int)) 0 else min v (n:Int))=((sIx n d (some v):Nat):Int):=by
 show(if v<0 then max (v+(n:Int)) 0 else min v (n:Int))=(((if v<0 then(v+(n:Int)).toNat else min v.toNat n):Nat):Int)
 by_cases a:v<0
 ·simp only[if_pos a];lia
 ·simp only[if_neg a];lia
theorem vD(lo a:Option Int) (n:Nat):L3.Slice.sliceAdjust lo a 1 (n:Int)=(((sIx n 0 lo:Nat):Int),((sIx n n a:Nat):Int)):=by
 have c:¬ ((1:Int)<0):=by decide
 unfold L3.Slice.sliceAdjust;simp only[c,if_false];refine ax1 ?_ ?_
 ·cases lo with
  |none=>rfl
  |some v=>exact xj v n 0
 ·cases a with
  |none=>rfl
  |some v=>exact xj v n n
theorem vR(i j:Nat):V9 (i:Int) (j:Int) 1=j-i:=by
 unfold V9;have a:(1:Int) > 0:=by decide
 simp only[a,if_true,Int.ediv_one]
 split<;>lia
theorem nT{v:J3}{o:Option Int}{Q:Option Int->J5->Prop}(p:av5 v o) (h:Q o s):K5 (N3 prog w) A (L3.Slice.slicePartIndex v) Q E s:=by
 cases p with
 |none=>exact aq9 h
 |int i t=>exact slicePart_int h
theorem fW{i:K1}{g f:J3}{lo c:Option Int}{n:Nat}{Q:Int×Int×Nat->J5->Prop}(hs:s.heap.IsSliceOf i g f .none) (j:av5 g lo) (l:av5 f c)
  (h:Q (((sIx n 0 lo:Nat):Int),1,sIx n n c-sIx n 0 lo) s):K5 (N3 prog w) A (ae8 (.ref i) (ak7 (n:Int))) Q E s:=by
 obtain⟨os,a,m,e⟩:=id hs;unfold ae8 L3.Slice.sliceFields;refine o0 (o0 (T8 a e (x:=g) rfl (o0 (T8 a e (x:=f) rfl (o0 (T8 a e (x:=.none) rfl (J1 ?_)))))));refine o0 (aq9 ?_);show K5 _ _ (if((1:Int)==0)=true then _ else _) _ _ s;rw[if_neg (by decide)];refine o0 (nT j (o0 (nT l (o0 (J1 ?_)))));show K5 _ _ (match L3.Slice.sliceAdjust lo c 1 (n:Int)with|(lo,c)=>ak7 (lo,(1:Int),V9 lo c 1)) _ _ s;rw[vD lo c n];show K5 _ _ (ak7 (((sIx n 0 lo:Nat):Int),(1:Int),V9 ((sIx n 0 lo:Nat):Int) ((sIx n n c:Nat):Int) 1)) _ _ s;rw[vR];exact J1 h
theorem Br(xs:Array J3) (i k:Nat):((N5 k).filterMap fun(m:Nat)=>xs[((i:Int)+(m:Int)*1).toNat]?).toArray=((xs.toList.drop i).take k).toArray:=by
 have e:(fun(m:Nat)=>xs[((i:Int)+(m:Int)*1).toNat]?)=fun m=>xs[i+m]?:=by
  funext m;have:((i:Int)+(m:Int)*1).toNat=i+m:=by lia
  rw[this]
 rw[e];have:=pick_run xs i k;rw[List.filterMap_map]at this;have a:((fun x=>xs[x]?)∘fun x=>i+x)=fun m=>xs[i+m]?:=rfl;rw[a]at this;rw[this]
theorem getItem_tuple_cut{t g:K1}{a:Array J3}{o p:J3}{lo e:Option Int}{Q:J3->J5->Prop}(f:aj8 s.heap t a) (hs:s.heap.IsSliceOf g o p .none) (x:av5 o lo) (u:av5 p e)
  (B:¬ (sIx a.size 0 lo=0/\sIx a.size a.size e=a.size))
  (h:Q (.ref s.heap.objs.size) { s with heap:=s.heap.push { cls:=.type "tuple",data:=.seq ((a.toList.drop (sIx a.size 0 lo)).take (sIx a.size a.size e-sIx a.size 0 lo)).toArray } })
  (hsz:a.size<=K0):K5 (N3 prog w) A (ap4 (.ref t) (.ref g)) Q E s:=by
 have c:sizeOk (.seq ((a.toList.drop (sIx a.size 0 lo)).take (sIx a.size a.size e-sIx a.size 0 lo)).toArray):=by
  show((a.toList.drop (sIx a.size 0 lo)).take (sIx a.size a.size e-sIx a.size 0 lo)).toArray.size<=K0;rw[K3,R3,V5,L8]
  lia
 have G:sIx a.size a.size e<=a.size:=En _ _ (J7 _) e;obtain⟨os,l,n,z⟩:=id hs;have i:s.TypeIs (.ref g) "slice":=⟨os,l,n⟩;unfold ap4
 try with_reducible refine U8 ?_
 first|refine o0 (J1 ?_)|skip
 refine o0 (wpAny_sequenceKey f.typeIs (by decide) ?_);refine o0 (P2 (name:=N1 "__getitem__") f.typeIs R0
  (O7 R0 f.typeIs entry_tuple_getitem ?_ (args_tuple_getitem _ _)))
 show K5 _ _ (ab3 (.ref t) >>= _) _ _ s;refine o0 (ar7 f ?_);refine o0 (ah4 i ?_);rw[if_pos (by decide)];refine o0 (fW hs x u ?_);have j:¬ ((((sIx a.size 0 lo:Nat):Int)==0&&(1:Int)==1&&(sIx a.size a.size e-sIx a.size 0 lo)==a.size)=true):=by
  intro q;rw[O1,O1]at q;have H:((sIx a.size 0 lo:Nat):Int)=0:=eq_of_beq q.1.1;have C:sIx a.size a.size e-sIx a.size 0 lo=a.size:=eq_of_beq q.2;exact B ⟨by lia,by lia⟩
 show K5 _ _ (if(((sIx a.size 0 lo:Nat):Int)==0&&(1:Int)==1&&(sIx a.size a.size e-sIx a.size 0 lo)==a.size)=true then _ else _) _ _ s;rw[if_neg j,Br]
 first
  |exact o0 (m:=R9 _) (N0 (J1 ⟨_,rfl,J1 h⟩) c)
  |exact o0 (m:=R9 _) (N0 (o0 (J1 (J1 ⟨_,rfl,J1 h⟩))) c)
  |exact o0 (o0 (m:=R9 _) (N0 (J1 (J1 ⟨_,rfl,J1 h⟩)) c))
  |exact o0 (o0 (m:=R9 _) (N0 (J1 ⟨_,rfl,J1 h⟩) c))
end
end HT
namespace L2
open PySem PySem.Spec PyProof.Rows
abbrev TO:=St->Hp->(Option Int->Hp->Prop)->Prop
def PO(X:Cx) (e:Option O4) (t:TO):Prop :=
 ∀(c:List (K1×Obj)) (s:J5) (a:St) (H:Hp) (Q:Option Int->Hp->Prop),Inv X c a H s->t a H Q ->
  K5 (N3 X.prog X.w) X.A (evalPart e X.env) (fun u g=>∃o f,Inv X c a f g/\av5 u o/\Q o f) X.xe s
def DD:TO:=fun _ H Q=>Q none H
def GG(t:TE):TO:=fun c H Q=>t c H fun x a=>∃i,x=.int i/\Q (some i) a
section
variable{X:Cx}{e:O4}{te:TE}{B N:Option O4}{W Y:TO}{pos Z:Pos}
theorem Cc:PO X none DD:=by
 intro a s c H Q I h;rw[evalPart_none];exact J1 ⟨none,H,I,.none,h⟩
theorem BP(h:PE X e te):PO X (some e) (GG te):=by
 intro g s c H Q I j;rw[evalPart_some];refine thn (h g s c H _ I j) fun u o a=>a.el fun x n m f l=>?_;obtain⟨i,rfl,q⟩:=l;obtain⟨t,rfl⟩:=f;exact⟨some i,n,m,.int i t,q⟩
def SlR(X:Cx) (r:V->Option Int->Option Int->Hp->VK->Prop):Prop :=
 ∀(a:List (K1×Obj)) (s:J5) (e:St) (H:Hp) (x:V) (v vl vu:J3) (B N:Option Int) (c:K1) (Q:VK),Inv X a e H s->aF x v->s.heap.IsSliceOf c vl vu .none->av5 vl B->av5 vu N->r x B N H Q ->
  ∃T id,aw3 (.type T) "__getitem__"=ak7 (some (.builtin id))/\s.TypeIs v T/\K5 (N3 X.prog X.w) X.A (ap4 v (.ref c)) (EP X a e Q) X.xe s
theorem SlR.or{r c:V->Option Int->Option Int->Hp->VK->Prop}(h:SlR X r) (h':SlR X c):SlR X (fun x B N H Q=>r x B N H Q∨c x B N H Q):=by
 intro a s e H x v vl vu B N sl Q I rx hs pl pu q;rcases q with q|q
 ·exact h a s e H x v vl vu B N sl Q I rx hs pl pu q
 ·exact h' a s e H x v vl vu B N sl Q I rx hs pl pu q
def tSl(r:V->Option Int->Option Int->Hp->VK->Prop) (te:TE) (W Y:TO):TE:=fun a H Q=>te a H fun x e=>W a e fun l c=>Y a c fun u f=>r x l u f Q
theorem BC{r:V->Option Int->Option Int->Hp->VK->Prop}(hr:SlR X r) (he:PE X e te) (A:PO X B W) (S:PO X N Y):PE X (.Subscript e (.Slice B N none Z) pos) (tSl r te W Y):=by
 intro c s f H Q I h;refine aw4 (thn (he c s f H _ I h) fun v E j=>j.el fun x H1 G U z=>?_);refine wpAny_Slice (thn (A c E f H1 _ G z) fun g s2 ⟨l,w,J,R,n⟩=>thn (S c s2 f w _ J n) fun i a z19z=>?_);obtain⟨u,m,o,P,M⟩:=z19z;rw[evalPart_none];refine J1 ?_;have L:Inv X c f m { a with heap:=a.heap.push { cls:=.type "slice",data:=.fields #[g,i,.none] } }:=o.kept (t':=a.toks) fun b ob q=>u8 _ q;obtain⟨T,id,C,p,O⟩:=hr c { a with heap:=a.heap.push { cls:=.type "slice",data:=.fields #[g,i,.none] } } f m x v g i l u a.heap.objs.size Q L U (L5.IsSliceOf.new ..) R P M;show K5 (N3 X.prog X.w) X.A (subscriptTail e (.Slice B N none Z) v (.ref a.heap.objs.size)) (EP X c f Q) X.xe { a with heap:=a.heap.push { cls:=.type "slice",data:=.fields #[g,i,.none] } };exact tail_any (ops:=[.ref a.heap.objs.size,v]) p C O (by with_unfolding_all rfl)
noncomputable def rJ(xs:List V) (B N:Option Int):List V:=(xs.drop (HT.sIx xs.length 0 B)).take (HT.sIx xs.length xs.length N-HT.sIx xs.length 0 B)
theorem mC(xs:List V) (B N:Option Int):(rJ xs B N).length<=xs.length:=by
 unfold rJ;rw[R3,V5]
 lia
def JD(K:J4):V->Option Int->Option Int->Hp->VK->Prop:=fun x B N H Q=>∃a c,x=.ref a/\SqT K H a c /\
 ¬ (HT.sIx c.length 0 B=0/\HT.sIx c.length c.length N=c.length)/\∀p,H p=none->Q (.ref p) (upd H p (.tup (rJ c B N)))
theorem F7:SlR X (JD X.K):=by
 intro l s n H x v vl vu B N sl Q I rx hs pl pu h;obtain⟨a,c,rfl,j,i,q⟩:=h;cases rx;obtain⟨its,r,f,g⟩:=I.tuple j;have e:its.toArray.size=c.length:=by rw[K3];exact r.length.symm
 refine⟨"tuple",_,R0.lookup,f.typeIs,?_⟩;refine HT.getItem_tuple_cut f hs pl pu (by rw[e];exact i) ?_ (by rw[e];exact g);rw[e];refine⟨.ref s.heap.objs.size,_,I.laid (t':=s.toks) (o:=.tup (rJ c B N)) (fun b m q=>u8 _ q) (J7 _) ?_,rfl,q _ (I.hok.fresh (J7 _))⟩;exact⟨K4 (mC c B N) g,_,(r.drop (HT.sIx c.length 0 B)).take (HT.sIx c.length c.length N-HT.sIx c.length 0 B),lq.new _ _⟩
def Hg(K:J4):R2:=fun x y H Q=>∃a b e c,x=.ref a/\y=.ref b/\SqT K H a e/\SqT K H b c/\e≠[]/\e.length+c.length<=K0 /\
 (c=[]->Q (.ref a) H)/\(c≠[]->∀p,H p=none->Q (.ref p) (upd H p (.tup (e++c))))
theorem ax.nil_iff{xs:List V}{us:List J3}(r:ax xs us):us=[]↔xs=[]:=by
 cases r with
 |nil=>simp
 |cons _ _=>simp
theorem Cd:OpR X (ad3 .Add) (Hg X.K):=by
 intro E s C H x y v u Q I rx ry h;obtain⟨a,b,j,p,rfl,rfl,i,B,n,f,A,l⟩:=h;cases rx;cases ry;obtain⟨its,e,m,_⟩:=I.tuple i;obtain⟨g,c,Z,_⟩:=I.tuple B;refine HT.cat_tup m Z (fun z=>n (e.nil_iff.mp z)) (fun z=>⟨.ref a,H,I,rfl,A (c.nil_iff.mp z)⟩) (fun z=>?_) (by rw[<-e.length,<-c.length];exact f);refine⟨.ref s.heap.objs.size,_,I.laid (t':=s.toks) (o:=.tup (j++p)) (fun b G q=>u8 _ q) (J7 _) ?_,rfl,l (fun w=>z (c.nil_iff.mpr w)) _ (I.hok.fresh (J7 _))⟩;exact⟨by rw[N7];exact f,_,e.append c,lq.new _ _⟩
end
noncomputable def ixN(n:Nat) (i:Int):Option Nat:=if 0<=i then(if i<n then some i.toNat else none)else if -(n:Int)<=i then some (i+n).toNat else none
noncomputable def atI{a:Type}(xs:List a) (i:Int):Option a:=(ixN xs.length i).bind fun j=>xs[j]?
theorem BV{n:Nat}{i:Int}{j:Nat}(h:ixN n i=some j):seqIndex? i n=some j/\j<n/\-(n:Int)<=i/\i<n:=by
 unfold ixN at h
 by_cases c:0<=i
 ·rw[if_pos c]at h
  by_cases a:i<n
  ·rw[if_pos a]at h;have e:i.toNat=j:=V0 h;exact⟨by rw[seqIndex_of c a,e],by lia,by lia,a⟩
  ·rw[if_neg a]at h;cases h
 ·rw[if_neg c]at h
  by_cases a:-(n:Int)<=i
  ·rw[if_pos a]at h;have e:(i+n).toNat=j:=V0 h;exact⟨by rw[seqIndex_neg (by lia) a,e],by lia,a,by lia⟩
  ·rw[if_neg a]at h;cases h
theorem rg{a:Type}{xs:List a}{i:Int}{v:a}(h:atI xs i=some v):∃j,seqIndex? i xs.length=some j/\xs[j]?=some v/\j<xs.length/\-(xs.length:Int)<=i/\i<xs.length:=by
 unfold atI at h;cases e:ixN xs.length i with
 |none=>rw[e]at h;cases h
 |some j =>
  rw[e]at h;obtain⟨l,g,c,f⟩:=BV e;exact⟨j,l,h,g,c,f⟩
theorem cL{a:Type}{xs:List a}{j:Nat}{v:a}(h:xs[j]?=some v):atI xs (j:Int)=some v:=by
 have c:j<xs.length:=(L6.mp h).1;have e:ixN xs.length (j:Int)=some j:=by
  unfold ixN;rw[if_pos (by lia),if_pos (by lia)];simp
 unfold atI;rw[e];exact h
def xl(b:O4):Prop:=∀o i,au6 b false o i=operate [o,i] (ap4 o i)
def IxR(X:Cx) (r:R2):Prop :=
 ∀(a slice:O4) (c:List (K1×Obj)) (s:J5) (e:St) (H:Hp) (x y:V) (v u:J3) (Q:VK),Inv X c e H s->aF x v->aF y u->r x y H Q ->
  au6 slice false v u=operate [v,u] (ap4 v u)->K5 (N3 X.prog X.w) X.A (subscriptTail a slice v u) (EP X c e Q) X.xe s
def MtR(X:Cx) (id:String) (r:V->List V->Hp->VK->Prop):Prop :=
 ∀(a:List (K1×Obj)) (s:J5) (f:St) (H:Hp) (x:V) (c:List V) (v:J3) (e:List J3) (Q:VK),Inv X a f H s->aF x v->ax c e->r x c H Q ->
  K5 (N3 X.prog X.w) X.A (aw9 (.builtin id) (v::e)) (EP X a f Q) X.xe s
section
variable{X:Cx}{a b:O4}{Z tb:TE}{Y:Pos}
theorem G5{r:R2}(hr:IxR X r) (ha:PE X a Z) (f:PE X b tb) (hs:xl b):PE X (.Subscript a b Y) (tOp r Z tb):=by
 intro c s g H Q I h;exact aw4 (Eo ha f I h fun v u m x y i j e l q=>hr a b c m g i x y v u Q j e l q (hs _ _))
def Ju(K:J4):R2:=fun x y H Q=>∃p a i v,x=.ref p/\y=.int i/\SqL K H p a/\atI a i=some v/\Q v H
def JB(K:J4):R2:=fun x y H Q=>∃p a i v,x=.ref p/\y=.int i/\SqT K H p a/\atI a i=some v/\Q v H
def Jk:R2:=fun x y H Q=>∃z i c,x=.str z/\y=.int i/\z.length<=K0/\atI z.cps.toList i=some c/\Q (.str ⟨#[c]⟩) H
theorem wF:IxR X (Ju X.K):=by
 intro e slice n s m H x y v u Q I rx ry h hs;obtain⟨p,O,i,z,rfl,rfl,E,L,q⟩:=h;cases rx;obtain⟨t,rfl⟩:=ry;obtain⟨its,r,f,P⟩:=I.list E;obtain⟨j,c,C,N,J,B⟩:=rg L;obtain⟨w,A,g⟩:=r.get C;have G:=r.length;have R:=nZ;have a:EP X n m Q w s:=⟨z,H,I,g,q⟩
 by_cases o:0<=i
 ·have l:i.toNat=j:=by
   rw[seqIndex_of o B]at c;exact V0 c
  exact item_listR f.isList o (by lia) (by rw[l];simpa using A) a hs
 ·have l:(i+(its.toArray.size:Int)).toNat=j:=by
   rw[seqIndex_neg (by lia) J]at c;rw[K3,<-G];exact V0 c
  exact subscriptTail_builtinR (x:=w) f.isList.typeIs slot_list_getitem.lookup
   (wpAny_getItem_list_neg (Q:=fun r M=>r=w/\EP X n m Q r M) f.isList (by lia) (by rw[K3]<;>lia) (by lia) (by rw[l];simpa using A) ⟨rfl,a⟩) hs
theorem FJ:IxR X (JB X.K):=by
 intro a slice l s f H x y v u Q I rx ry h hs;obtain⟨p,L,i,z,rfl,rfl,o,B,q⟩:=h;cases rx;obtain⟨t,rfl⟩:=ry;obtain⟨its,r,g,M⟩:=I.tuple o;obtain⟨j,n,m,J,N,G⟩:=rg B;obtain⟨w,E,c⟩:=r.get m;have A:=r.length;have O:=nZ;have e:EP X l f Q w s:=⟨z,H,I,c,q⟩;exact subscriptTail_builtinR (x:=w) g.typeIs slot_tuple_getitem.lookup
  (getItem_tuple (j:=j) (Q:=fun r C=>r=w/\EP X l f Q r C) g (by lia) (by lia) (by rw[K3,<-A];exact n) (by simpa using E) ⟨rfl,e⟩) hs
theorem Ff:IxR X Jk:=by
 intro a slice C s A H x y v u Q I rx ry h hs;obtain⟨z,i,c,rfl,rfl,B,p,q⟩:=h;obtain⟨t,rfl⟩:=rx;obtain⟨E,rfl⟩:=ry;obtain⟨j,e,l,w,o,f⟩:=rg p;have n:z.cps.toList.length=z.length:=by simp[Str.length]
 rw[n]at e o f;have G:=nZ;exact tail_any (typeIs_str s z t) slot_str_getitem.lookup (getItem_str (c:=c) (by
  have m:decide (i < -(2 ^ 63:Int))=false:=decide_eq_false (by lia);have g:decide (i>=2 ^ 63)=false:=decide_eq_false (by lia);rw[m,g,Bool.or_false]) (by rw[e];simpa using l) ⟨.str ⟨#[c]⟩,H,I.tok _,⟨_,rfl⟩,q⟩) hs
theorem Inv.lst{a:List (K1×Obj)}{σ:St}{H:Hp}{s:J5}{p:K1}{xs:List V}(I:Inv X a σ H s) (h:H p=some (.lst xs)) :
  ∃(its:List J3) (n:Nat),ax xs its/\s.heap.get? p=some { cls:=.type "list",data:=.seq its.toArray n }/\xs.length<=K0:=by
 obtain⟨z,its,n,r,e⟩:=I.hok p _ h;exact⟨its,n,r,e,z⟩
theorem rX(lo a:Option Int) (n:Nat):(an0 lo a none n).1=((HT.sIx n 0 lo:Nat):Int)/\(an0 lo a none n).2.1=((HT.sIx n n a:Nat):Int)/\(an0 lo a none n).2.2=1:=by
 refine⟨?_,?_,rfl⟩
 ·cases lo with
  |none=>simp[an0,HT.sIx]
  |some i =>
   simp only[an0,HT.sIx,Option.getD_none,show(1:Int) > 0 by decide,if_true]
   by_cases h:i<0
   ·simp only[h,if_true]<;>lia
   ·simp only[h,if_false]<;>lia
 ·cases a with
  |none=>simp[an0,HT.sIx]
  |some i =>
   simp only[an0,HT.sIx,Option.getD_none,show(1:Int) > 0 by decide,if_true]
   by_cases h:i<0
   ·simp only[h,if_true]<;>lia
   ·simp only[h,if_false]<;>lia
theorem pj(its:List J3) (lo a:Option Int):slicePick its.toArray lo a none=((its.drop (HT.sIx its.length 0 lo)).take (HT.sIx its.length its.length a-HT.sIx its.length 0 lo)).toArray:=by
 obtain⟨f,e,c⟩:=rX lo a its.toArray.size;unfold slicePick;rw[f,e,c];simp only[sliceRange_one,pick_run,K3]<;>rfl
def Jr(K:J4):V->Option Int->Option Int->Hp->VK->Prop:=fun x lo e H Q=>∃a c,x=.ref a/\SqL K H a c/\∀p,H p=none->Q (.ref p) (upd H p (.lst (rJ c lo e)))
theorem Cg:SlR X (Jr X.K):=by
 intro j s m H x v vl vu lo hi sl Q I rx hs pl pu h;obtain⟨a,c,rfl,i,q⟩:=h;cases rx;obtain⟨its,r,e,g⟩:=I.list i;have f:=r.length;refine⟨"list",_,slot_list_getitem.lookup,e.isList.typeIs,?_⟩;refine wpAny_getItem_list_slice e.isList hs pl pu .none (by simp) ?_ (by rw[K3]<;>lia);rw[pj,<-f];refine⟨.ref s.heap.objs.size,_,I.laid (t':=s.toks) (o:=.lst (rJ c lo hi)) (fun b l q=>u8 _ q) (J7 _) ?_,rfl,q _ (I.hok.fresh (J7 _))⟩;exact⟨K4 (mC c lo hi) g,_,0,(r.drop (HT.sIx c.length 0 lo)).take (HT.sIx c.length c.length hi-HT.sIx c.length 0 lo),J8 _ rfl⟩
noncomputable def iF:V->Bool
 |.non=>true
 |.bl _=>true
 |.int _=>true
 |.str _=>true
 |_=>false
noncomputable def eqV:V->V->Bool
 |.non=>fun zy=>match zy with|.non=>true|_=>false
 |.bl a=>fun zy=>match zy with|.bl b=>a==b|.int b=>(if a then 1 else 0)==b|_=>false
 |.int a=>fun zy=>match zy with|.bl b=>a==(if b then 1 else 0)|.int b=>a==b|_=>false
 |.str a=>fun zy=>match zy with|.str b=>a==b|_=>false
 |_=>fun _=>false
theorem F6{A:O9}{s:J5}{y x:V}{u v:J3}(g:aF y u) (c:aF x v) (h:iF y=true) (f:iF x=true):X0 A s u v (eqV y x):=by
 cases y with
 |non =>
  cases g;cases x with
  |non=>cases c;exact X0.same _
  |bl b=>cases c;exact X0.none_bool b
  |int b=>obtain⟨t,rfl⟩:=c;exact X0.none_int b t
  |str b=>obtain⟨t,rfl⟩:=c;exact X0.none_str b t
  |_=>exact absurd (show false=true from f) P7
 |bl a =>
  cases g;cases x with
  |non=>cases c;exact X0.bool_none a
  |bl b=>cases c;exact X0.bool_bool a b
  |int b=>obtain⟨t,rfl⟩:=c;exact X0.bool_int a b t
  |str b=>obtain⟨t,rfl⟩:=c;exact X0.bool_str a b t
  |_=>exact absurd (show false=true from f) P7
 |int a =>
  obtain⟨e,rfl⟩:=g;cases x with
  |non=>cases c;exact X0.int_none a e
  |bl b=>cases c;exact X0.int_bool a e b
  |int b=>obtain⟨t,rfl⟩:=c;exact X0.int_int a e b t
  |str b=>obtain⟨t,rfl⟩:=c;exact X0.int_str a e b t
  |_=>exact absurd (show false=true from f) P7
 |str a =>
  obtain⟨e,rfl⟩:=g;cases x with
  |non=>cases c;exact X0.str_none a e
  |bl b=>cases c;exact X0.str_bool a e b
  |int b=>obtain⟨t,rfl⟩:=c;exact X0.str_int a e b t
  |str b=>obtain⟨t,rfl⟩:=c;exact X0.str_str a e b t
  |_=>exact absurd (show false=true from f) P7
 |_=>exact absurd (show false=true from h) P7
noncomputable def eqU(x:V) (u:J3):Bool:=match u with
 |.none=>eqV .non x
 |.bool b=>eqV (.bl b) x
 |.int i _=>eqV (.int i) x
 |.str z _=>eqV (.str z) x
 |_=>false
theorem zU{x y:V}{u:J3}(r:aF y u) (f:iF y=true):eqU x u=eqV y x:=by
 cases y with
 |non=>cases r;rfl
 |bl b=>cases r;rfl
 |int i=>obtain⟨t,rfl⟩:=r;rfl
 |str z=>obtain⟨t,rfl⟩:=r;rfl
 |_=>exact absurd (show false=true from f) P7
theorem lA{x:V}:∀{xs:List V}{us:List J3},ax xs us->xs.all iF=true->us.any (eqU x)=xs.any fun y=>eqV y x
 |_,_,.nil,_=>rfl
 |y::xs,u::us,.cons r t,f=>by
  rw[ah7,O1]at f;rw[ac0,ac0,zU r f.1,lA t f.2]
theorem gT{A:O9}{s:J5}{x:V}{v:J3}(c:aF x v) (e:iF x=true):∀{xs:List V}{us:List J3},ax xs us->xs.all iF=true->∀u∈us,X0 A s u v (eqU x u)
 |_,_,.nil,_=>fun u a=>by cases a
 |y::xs,u::us,.cons r t,f=>fun g a=>by
  rw[ah7,O1]at f;rcases L1.mp a with rfl|a
  ·rw[zU r f.1];exact F6 r c f.1 e
  ·exact gT c e t f.2 g a
noncomputable def inV(x:V) (xs:List V):Bool:=xs.any fun y=>eqV y x
def rIn(K:J4) (c:Bool):R2:=fun x y H Q=>∃p a,y=.ref p/\(SqL K H p a∨SqT K H p a)/\iF x=true/\a.all iF=true/\Q (.bl (if c then !inV x a else inV x a)) H
theorem xR:OpR X (Q9 .In) (rIn X.K false):=by
 intro l s j H x y v u Q I rx ry h;obtain⟨p,i,rfl,a,f,fs,q⟩:=h;cases ry;rcases a with a|a
 ·obtain⟨its,r,c,g⟩:=I.list a;refine SeqAt.in_listAt (eqU x) c.isList (fun w e=>gT rx f r fs w (by simpa using e)) ⟨.bl _,H,I,rfl,?_⟩;rw[show its.toArray.any (eqU x)=its.any (eqU x)by simp,lA r fs];exact q
 ·obtain⟨its,r,c,g⟩:=I.tuple a;refine SeqAt.in_tupleAt (eqU x) c (fun w e=>gT rx f r fs w (by simpa using e)) ⟨.bl _,H,I,rfl,?_⟩;rw[show its.toArray.any (eqU x)=its.any (eqU x)by simp,lA r fs];exact q
theorem rR:OpR X (Q9 .NotIn) (rIn X.K true):=by
 intro l s j H x y v u Q I rx ry h;obtain⟨p,i,rfl,a,f,fs,q⟩:=h;cases ry;rcases a with a|a
 ·obtain⟨its,r,c,g⟩:=I.list a;refine SeqAt.notIn_listAt (eqU x) c.isList (fun w e=>gT rx f r fs w (by simpa using e)) ⟨.bl _,H,I,rfl,?_⟩;rw[show its.toArray.any (eqU x)=its.any (eqU x)by simp,lA r fs];exact q
 ·obtain⟨its,r,c,g⟩:=I.tuple a;refine SeqAt.notIn_tupleAt (eqU x) c (fun w e=>gT rx f r fs w (by simpa using e)) ⟨.bl _,H,I,rfl,?_⟩;rw[show its.toArray.any (eqU x)=its.any (eqU x)by simp,lA r fs];exact q
theorem rY:di X (.builtin "len") (fun xs H Q=>∃p a,xs=[.ref p]/\(SqL X.K H p a∨SqT X.K H p a)/\Q (.int a.length) H):=by
 intro n s l H xs m Q I r h;obtain⟨p,a,rfl,c,q⟩:=h;obtain⟨u,rfl,j⟩:=nU r;cases j;have o:=nZ;rcases c with c|c
 ·obtain⟨its,g,e,i⟩:=I.list c;have f:=g.length;exact Calls.call_len_list e.isList (by simp only[K3]<;>lia) ⟨.int a.length,H,I.tok _,⟨s.toks+1,by rw[K3,f]⟩,q⟩
 ·obtain⟨its,g,e,i⟩:=I.tuple c;have f:=g.length;exact len_tuple e (by simp only[K3]<;>lia) ⟨.int a.length,H,I.tok _,⟨s.toks+1,by rw[K3,f]⟩,q⟩
theorem rF:di X (.builtin "len") (fun xs H Q=>∃z,xs=[.str z]/\z.length<=K0/\Q (.int z.length) H):=by
 intro a s g H xs f Q I r h;obtain⟨z,rfl,c,q⟩:=h;obtain⟨u,rfl,t,rfl⟩:=nU r;have e:=nZ;exact len_str (by lia) ⟨.int z.length,H,I.tok _,⟨_,rfl⟩,q⟩
theorem di.or{f:J3}{r c:List V->Hp->VK->Prop}(h:di X f r) (h':di X f c):di X f (fun xs H Q=>r xs H Q∨c xs H Q):=by
 intro a s e H xs g Q I rs q;rcases q with q|q
 ·exact h a s e H xs g Q I rs q
 ·exact h' a s e H xs g Q I rs q
theorem rK:di X (.type "list") (fun xs H Q=>∃p f,xs=[.ref p]/\(SqL X.K H p f∨SqT X.K H p f)/\∀l,H l=none->Q (.ref l) (upd H l (.lst f))):=by
 intro G s C H xs L Q I r h;obtain⟨p,f,rfl,j,q⟩:=h;obtain⟨u,rfl,J⟩:=nU r;cases J;have m:∀(its:List J3),ax f its->f.length<=K0->∀(a:L5) (c:Nat),(∀b B,s.heap.get? b=some B->a.get? b=some B) ->
   a.get? s.heap.objs.size=some { cls:=.type "list",dict:=none,data:=.seq its.toArray c,slots:=#[] }->EP X G C Q (.ref s.heap.objs.size) { s with heap:=a }:=fun its g i a c kp e =>
  ⟨.ref s.heap.objs.size,_,I.laid (t':=s.toks) kp (J7 _) (show bB X.prog X.w _ a _ (.lst f)from⟨i,its,c,g,e⟩),rfl,q _ (I.hok.fresh (J7 _))⟩
 rcases j with j|j
 ·obtain⟨its,g,x,i⟩:=I.list j;have E:=g.length;obtain⟨o,A,z,n,w⟩:=x.isList;exact call_list_seq p (.inl rfl) A z w (fun a c kp e=>m its g i a c kp e) (by simp only[K3]<;>lia)
 ·obtain⟨its,g,x,i⟩:=I.tuple j;have E:=g.length;obtain⟨o,A,z,n,w⟩:=x;exact call_list_seq p (.inr rfl) A z w (fun a c kp e=>m its g i a c kp e) (by simp only[K3]<;>lia)
theorem oZ:di X (.type "tuple") (fun xs H Q=>∃p a,xs=[.ref p]/\((SqL X.K H p a/\∀l,H l=none->Q (.ref l) (upd H l (.tup a)))∨(SqT X.K H p a/\Q (.ref p) H))):=by
 intro n s j H xs B Q I r h;obtain⟨p,a,rfl,h⟩:=h;obtain⟨u,rfl,x⟩:=nU r;cases x;rcases h with⟨g,q⟩|⟨g,q⟩
 ·obtain⟨its,i,f,m⟩:=I.list g;have A:=i.length;refine call_tuple_list f.isList (fun c kp=>?_) (by simp only[K3]<;>lia);have w:Inv X n j H { s with heap:=c }:=I.kept (t':=s.toks) kp;have z:Inv X n j (upd H c.objs.size (.tup a)) { s with heap:=c.push { cls:=.type "tuple",data:=.seq its.toArray } } :=
   w.laid (t':=s.toks) (fun b o e=>u8 _ e) (J7 _) (show bB X.prog X.w _ _ _ (.tup a)from⟨m,its,i,lq.new _ _⟩)
  exact⟨.ref c.objs.size,_,z,rfl,q _ (w.hok.fresh (J7 _))⟩
 ·obtain⟨its,i,f,m⟩:=I.tuple g;exact call_tuple_same f ⟨.ref p,H,I,rfl,q⟩
def tyV(K:J4) (T:String) (x:V) (H:Hp):Prop:=match x with
 |.str _=>T="str"
 |.int _=>T="int"
 | .ref p => (T = "list" ∧ ∃ c,SqL K H p c) ∨ (T = "tuple" ∧ ∃ o,K.lookup p = some o ∧ o.cls = .type "tuple" ∧ o.dict = none) ∨
   (T="dict"/\((∃a,H p=some (.dK a))∨∃a,H p=some (.dT a)))∨(T="set"/\∃S n,H p=some (.set S n))
 |_=>False
theorem FY{A:List (K1×Obj)}{σ:St}{H:Hp}{s:J5}{T:String}{x:V}{v:J3}(I:Inv X A σ H s) (r:aF x v) (ty:tyV X.K T x H) :
  s.TypeIs v T/\∀a,v=.ref a->∃q,s.heap.get? a=some q/\q.dict=none:=by
 cases x with
 |str z =>
  obtain⟨t,rfl⟩:=r;cases(show T="str" from ty);exact⟨typeIs_str s z t,fun _ e=>nomatch e⟩
 |int i =>
  obtain⟨t,rfl⟩:=r;cases(show T="int" from ty);exact⟨au2 s i t,fun _ e=>nomatch e⟩
 |ref p =>
  cases r;rcases ty with⟨rfl,B,w⟩|⟨rfl,o,f,u,h⟩|⟨rfl,f⟩|⟨rfl,S,n,f⟩
  ·obtain⟨its,_,m,_⟩:=I.list w;refine⟨m.isList.typeIs,fun a e=>?_⟩;cases e;obtain⟨o,n,e,c,h,_⟩:=m;exact⟨o,e,h⟩
  ·refine⟨⟨o,I.kIn p o f,u⟩,fun a e=>?_⟩;cases e;exact⟨o,I.kIn _ o f,h⟩
  ·have z:∃o,s.heap.get? p=some o/\o.ExactDict:=by
    rcases f with⟨j,f⟩|⟨j,f⟩
    ·obtain⟨_,_,_,_,o,_,_,e,g,_⟩:=I.hok p _ f;exact⟨o,e,g⟩
    ·obtain⟨_,_,_,_,o,_,_,e,g,_⟩:=I.hok p _ f;exact⟨o,e,g⟩
   obtain⟨o,e,g⟩:=z;refine⟨⟨o,e,g.1⟩,fun a l=>?_⟩;cases l;exact⟨o,e,g.2.1⟩
  ·obtain⟨o,_,_,_,e,g,_⟩:=I.hok p _ f;refine⟨⟨o,e,g.1⟩,fun a l=>?_⟩;cases l;exact⟨o,e,g.2.1⟩
 |_=>exact ad1 ty
def tBM(K:J4) (T:String) (r:V->List V->Hp->VK->Prop) (W:TE) (t:TA):TE:=fun a H Q=>W a H fun x c=>tyV K T x c/\t a c fun e f=>r x e f Q
variable{o e:O4}{B:List O4}{W:TE}{t:TA}{name:Str}{e9 N:Pos}{T id:String}{r:V->List V->Hp->VK->Prop}
theorem Hz(P:PlainAttrs T) (slot:Slot T name id) (g:typeOf (.builtin id)=ak7 (.type "method_descriptor")) (n:MtR X id r) (M:PE X o W) (ha:PA X (e::B) t)
  (E:autoParam (aj9 o name X.env (af7 o X.env)=af7 o X.env) L2.zq0._auto_1)
  (p:autoParam (((aa2 N (K8 (e :: B) X.env)).all (fun x => !x.1) && (backToKw N (au7 [] X.env)).all (fun x => x.1.isSome)
  &&decide ((e::B).length+([]:List au8).length+(if([]:List au8).isEmpty then 0 else 1)<30))=true) L2.zq0._auto_1)
  (q:autoParam ((e9.endLine==N.line)=true) L2.zq0._auto_1) (hs:autoParam (K8 (e::B) X.env=(false,af7 e X.env)::K8 B X.env) L2.zq0._auto_1) (w:autoParam ((aa2 N (K8 B X.env)).any (·.1)=false) L2.zq0._auto_1) :
  PE X (.Call (.Attribute o name e9) (e::B) [] N) (tBM X.K T r W t):=by
 intro c s a H Q I h;refine wpAny_Call_method_late E p q rfl (thn (M c s a H _ I h) fun v L z20z=>?_);obtain⟨x,S,l,i,ty,J⟩:=z20z;obtain⟨C,z⟩:=FY l i ty;refine⟨T,id,P,slot,g,C,z,?_⟩;have j:=ha N c L a S _ l J;rw[hs]at j ⊢;refine Calls.callWith_builtin (by show(false || (aa2 N (K8 B X.env)).any (·.1))=false;rw[w]<;>rfl) (Calls.evalArgs_plain ?_);exact thn j fun A G f=>f.el fun O u R U m=>n c G a u x O v A Q R i U m
end
def MtM(X:Cx) (id:String) (r:V->List V->Hp->VK->Prop):Prop :=
 ∀(a:List (K1×Obj)) (s:J5) (f:St) (H:Hp) (x:V) (c:List V) (v:J3) (e:List J3) (Q:VK),Inv X a f H s->aF x v->ax c e->r x c H Q ->
  K5 (N3 X.prog X.w) X.A (aw9 (.builtin id) (v::e)) (EP X a f Q) X.xe s
theorem ax.un{x:V}{xs:List V}{us:List J3}(h:ax (x::xs) us):∃u a,us=u::a/\aF x u/\ax xs a:=by
 cases h with
 |cons r t=>exact⟨_,_,rfl,r,t⟩
theorem ax.one{x:V}{us:List J3}(h:ax [x] us):∃u,us=[u]/\aF x u:=by
 obtain⟨u,a,rfl,r,t⟩:=h.un;cases t;exact⟨u,rfl,r⟩
theorem ax.two{x y:V}{us:List J3}(h:ax [x,y] us):∃u v,us=[u,v]/\aF x u/\aF y v:=by
 obtain⟨u,a,rfl,r,t⟩:=h.un;obtain⟨v,rfl,q⟩:=t.one;exact⟨u,v,rfl,r,q⟩
theorem ax.reverse{xs:List V}{us:List J3}(h:ax xs us):ax xs.reverse us.reverse:=by
 induction h with
 |nil=>exact .nil
 |cons r t ih=>rw[an1,an1];exact ax.append ih (.cons r .nil)
theorem ax.rep{xs:List V}{us:List J3}(h:ax xs us):∀k:Nat,ax (O0 k xs).flatten (O0 k us).flatten
 |0=>.nil
 |k+1=>by
  rw[ab7,ab7,ag8,ag8];exact ax.append h (ax.rep h k)
theorem lU(its:List J3):∀(k:Nat) (a:List J3),
  aw5 (fun g c=>g++c) a.toArray (O0 k its.toArray)=(a++(O0 k its).flatten).toArray
 |0,a=>by simp
 |k+1,a=>by
  have e:a.toArray++its.toArray=(a++its).toArray:=by simp
  have f:(a++its)++(O0 k its).flatten=a++(O0 (k+1) its).flatten:=by
   rw[ab7,ag8,an2]
  rw[<-f,<-lU its k (a++its),<-e,ab7,am3]
section
variable{X:Cx}{y:List (K1×Obj)}{σ:St}{H:Hp}{s:J5}{l b:K1}{xs B N:List V}
theorem Inv.lset{its its':List J3}{n:Nat}{f:Array J3->Array J3}{t':Nat}(I:Inv X y σ H s) (j:H l=some (.lst xs))
  (e:s.heap.get? l=some { cls:=.type "list",data:=.seq its.toArray n }) (a:f its.toArray=its'.toArray) (h:ax B its') (g:B.length<=K0) :
  Inv X y σ (upd H l (.lst B)) { s with heap:=s.heap.update l (am0 f),toks:=t' }:=by
 have q:=PySem.IsL.update e f;rw[a]at q;refine I.write (x:=l) (e:=l) (by rw[j];exact trivial) (.inl rfl) (fun m u i c=>(L5.get?_update_other s.heap (am0 f) (ab6 i)).trans c) ⟨_,q⟩ ?_;exact⟨g,its',_,h,q⟩
theorem Inv.lnew{its:List J3}{t':Nat}(I:Inv X y σ H s) (c:ax B its) (a:B.length<=K0) :
  Inv X y σ (upd H s.heap.objs.size (.lst B)) { s with heap:=s.heap.push { cls:=.type "list",data:=.seq its.toArray },toks:=t' } :=
 I.laid (fun _ _ q=>u8 _ q) (J7 _) ⟨a,its,0,c,J8 _ rfl⟩
theorem Inv.fresh(I:Inv X y σ H s):H s.heap.objs.size=none:=I.hok.fresh (J7 _)
theorem Inv.lstM(I:Inv X y σ H s) (a:H l=some (.lst xs)):xs.length<=K0/\∃(its:List J3) (n:Nat),ax xs its/\xs.length=its.length/\s.heap.get? l=some { cls:=.type "list",data:=.seq its.toArray n }:=by
 obtain⟨z,its,n,r,e⟩:=I.hok l _ a;exact⟨z,its,n,r,r.length,e⟩
theorem yR{n:Nat}(h:n<=K0):L3.List.listTooLong n=false:=by
 unfold L3.List.listTooLong;exact decide_eq_false (by lia)
end
section
variable{X:Cx}
def wj:V->List V->Hp->VK->Prop:=fun x c H Q=>∃l a y,x=.ref l/\c=[y]/\H l=some (.lst a)/\a.length<K0/\Q .non (upd H l (.lst (a++[y])))
theorem xF:MtM X "list.append" wj:=by
 intro j s g H x o v us Q I rx rv h;obtain⟨l,f,y,rfl,rfl,a,i,q⟩:=h;cases rx;obtain⟨u,rfl,c⟩:=rv.one;obtain⟨z,its,n,r,m,e⟩:=I.lstM a;refine ar4 F.slot_list_append ⟨_,e,rfl⟩ F.entry_list_append (F.args_list_append_2 _ _) (PySem.list_append l its.toArray n u (by rw[K3];lia)) ⟨e,?_⟩;refine⟨.non,_,I.lset (its':=its++[u]) a e (by simp) (r.append (.cons c .nil)) ?_,rfl,q⟩;rw[N7,List.length_singleton]
 assumption
def Js:R2:=fun x y H Q=>∃l b c a,x=.ref l/\y=.ref b/\H l=some (.lst c)/\H b=some (.lst a)/\c.length+a.length<=K0/\∀p,H p=none->Q (.ref p) (upd H p (.lst (c++a)))
theorem Fi:OpR X (ad3 .Add) Js:=by
 intro C s p H x y v u Q I rx ry h;obtain⟨l,b,o,E,rfl,rfl,i,f,B,q⟩:=h;cases rx;cases ry;obtain⟨z,its,n,r,G,e⟩:=I.lstM i;obtain⟨A,a,w,m,j,g⟩:=I.lstM f;refine PySem.P.add_list e g ?_ (by rw[K3,K3];lia);have c:its.toArray++a.toArray=(its++a).toArray:=by simp
 rw[c];exact⟨.ref _,_,I.lnew (t':=s.toks) (r.append m) (by rw[N7];assumption),rfl,q _ I.fresh⟩
def JI:R2:=fun x y H Q=>∃l k a,x=.ref l/\y=.int k/\H l=some (.lst a)/\-(2 ^ 63)<=k/\k<2 ^ 63/\a.length*k.toNat<=K0 /\
 ∀p,H p=none->Q (.ref p) (upd H p (.lst (O0 k.toNat a).flatten))
theorem rL{a:Type}(xs:List a) (k:Nat):(O0 k xs).flatten.length=k*xs.length:=by
 induction k with
 |zero=>simp
 |succ k ih=>rw[ab7,ag8,N7,ih,Nat.succ_mul,Nat.add_comm]
theorem EN:OpR X (ad3 .Mult) JI:=by
 intro N s M H x y v u Q I rx ry h;obtain⟨l,k,L,rfl,rfl,B,C,A,p,q⟩:=h;cases rx;obtain⟨t,rfl⟩:=ry;obtain⟨z,its,n,r,E,e⟩:=I.lstM B;have w:its.toArray.size*k.toNat<=K0:=by rw[K3,<-E];exact p
 have f:¬ its.toArray.size*k.toNat > (2 ^ 63-1) / 8:=by
  have:(K0:Nat)<=(2 ^ 63-1) / 8:=by decide
  lia
 have i:¬ (!Builtin.List.listFitsIndex k)=true:=by
  rw[fitsIndex_both C A];exact P7
 have c:¬ L3.List.listTooLong (its.toArray.size*k.toNat)=true:=by
  rw[yR w];exact P7
 have g:aw5 (fun j o=>j++o) #[] (O0 (if its.toArray.isEmpty=true then 0 else k.toNat) its.toArray)=(O0 k.toNat its).flatten.toArray:=by
  have J:∀m:Nat,aw5 (fun j o=>j++o) #[] (O0 m its.toArray)=(O0 m its).flatten.toArray:=fun m=>by
   have:=lU its m [];rw[O8]at this;exact this
  rw[J];cases its with
  |nil=>simp
  |cons a O=>rw[if_neg (by simp)]
 refine wpAny_binaryOp_repeat_ref (T:="list") (U:="int") (by decide) ⟨_,e,rfl⟩ (fun G=>au2 G k t) noFill_list_mul F.fills_int_mul ap5 repeat_list F.slot_int_index.lookup
  (ar4 ap5 (au2 s k t) F.entry_int_rmul (F.args_int_rmul_2 _ _) (int___rmul___int_list k t l its.toArray n)
   ⟨e,rfl,⟨_,e,rfl⟩,ar4 F.slot_list_mul ⟨_,e,rfl⟩ F.entry_list_mul (F.args_list_mul_2 _ _) (AutoListH.list___mul___list_int_3 l its.toArray n k t i f c) ⟨e,?_⟩⟩)
 rw[g];exact⟨.ref _,_,I.lnew (t':=s.toks) (r.rep k.toNat) (by rw[rL,ao1];exact p),rfl,q _ I.fresh⟩
end
end L2
namespace Att
open PySem PySem.W PySem.Calls PyProof.Rows
theorem mR{P:Params}{h:L5}:∀(ns:List Int) (c:List J3),WellAll P h c (ns.map WData.int)->ax7 c ns:=by
 intro ns
 induction ns with
 |nil =>
  intro c w;rw[ao2]at w;cases w;exact .nil
 |cons n ns ih =>
  intro c w;rw[L7]at w;cases w with
  |cons a b =>
   cases a;exact .cons _ _ (ih _ b)
theorem yB{l:OpenLaw}{n:Nat}(hn:l.most=some n) {P:Params}{h:L5}{args:List WData}{c:List J3}
  (e:l.row.toRowW.claim.pre args=true) (j:WellAll P h c args) :
  ∃a p ns,c=[Q0 a]/\args=[WData.list (ns.map WData.int)]/\h.get? a=some { cls:=.type "list",data:=.seq p.toArray }/\ax7 p ns/\ns.length<=n:=by
 have m:WShape.hasAll [] args [.list .int]=true:=(pre_splitW e).1;have o:l.pre.holds [] { args:=args }=true:=(pre_splitW e).2;obtain⟨d,r,rfl,z,x⟩:=hasAllW_cons m;obtain rfl:=hasAllW_nil x;obtain⟨E,rfl,s⟩:=hasW_list z;obtain⟨ns,rfl⟩:=items_int s;have u:ns.length<=n:=by
  unfold OpenLaw.pre at o;have i:(WTm.not (.lt (.lit (.int (n:Int))) (.len (.arg 0)))).holds [] { args:=[.list (ns.map .int)] }=true:=by
   have i:=(holds_andW o).1;rw[hn]at i;exact i
  have g:=condW_of i (w_not (w_lt w_lit (w_len_list (w_arg rfl))));rw[J0]at g;refine Nat.le_of_not_lt fun q=>?_;have B:(n:Int)<((ns.length:Nat):Int):=by lia
  first
   |(rw[decide_eq_true B]at g;exact absurd g (by decide))
   |(simp at g;lia)
 cases j with
 |cons A w =>
  cases w;cases A with
  |list C f=>exact⟨_,_,ns,rfl,rfl,C,mR ns _ f,u⟩
theorem yH(l:OpenLaw) (args:List WData):l.row.toRowW.claim.post args (.bool true) args=true :=
 postW_of (r:=l.row.toRowW) (X:=(true==true))
  (show WShape.has [] (.bool true) .bool=true by first|rfl|decide|simp[WShape.has,WShape.arms,WShape.armsAll])
  (show(WTm.eq .res (.lit (.bool true))).value [] { args:=args,res:=some (.bool true),after:=args }=some (.bool (true==true))from w_eq_bool (w_res rfl) w_lit) rfl
theorem attach_call{l:OpenLaw}{n:Nat}{q:M9}{e:List Str}{J:(Str->Option J3)->L5->Prop}{L:P5->L5->Prop}{d:DefRec}
  (hn:l.most=some n) (C:d.params.defaults=[])
  (aw9:∀ (w:P5) (g c:J5) (u A:Str → Option J3) (m:K1) (o:Obj) (E x h:J3) (a:K1) (j:List J3) (ns:List Int),
   Ground q e [] J w g u A c.heap->L w c.heap ->
   c.heap.get? m=some o->o.data=.func (docDef d.name d.params d.body d.scope E x h)->c.heap.CodeRec x d.name->u d.name=some (.ref m) ->
   c.heap.get? a=some { cls:=.type "list",data:=.seq j.toArray }->ax7 j ns->ns.length<=n->c.gens=#[] ->
   ak4 (N3 l.prog w) au9 (.call (.ref m) ⟨[.ref a],[]⟩) (fun r s'=>r=.ok (.ret (.bool true))/\OldK c.heap s'.heap/\s'.os=c.os/\ar5 s'.gens) c) :
  WalkO q e J L l.row.toRowW d [] (fun f j=>PySem.call f j):=by
 intro w g c u A G Y m o E x h dV kV T U H O z Z N I as s M R B a0;obtain rfl:dV=.none:=Dflts.none O C;obtain rfl:kV=.none:=Dflts.noKw O;obtain⟨a,j,ns,rfl,rfl,p,i,P⟩:=yB hn s B;refine enter_call (ah2 (aw9 w g c u A m o E x h a j ns G Y T (fd_plain U) H z p i P Z) fun r s' hq=>?_);obtain⟨rfl,Q,X,S⟩:=hq;exact⟨.inl ⟨.bool true,.bool true,[],rfl,fun _=>rfl,.bool true,yH l _,fun _=>⟨ar8.nil,fun _ hm=>(nomatch hm)⟩⟩,Q,X,S⟩
section
variable{prog:M9}{w:P5}{A:O9}{E:J3->J5->Prop}{s:J5}{K:Frag}
end
end Att
namespace L2
open PySem PySem.Spec PyProof.Rows
theorem qv:∀{a:List J3}{ns:List Int},ax7 a ns->ax (ns.map V.int) a
 |_,_,.nil=>.nil
 |_,_,.cons n t h=>.cons ⟨t,rfl⟩ (qv h)
def DC(H:Hp):Prop:=∀b,H b=none∨∃o a,H b=some (.frz o (.lst a))
theorem Bi{P:M9}{w:P5}{K:J4}{I Q:Str->Option J3}{CX:CXT}{k:Nat}{S a:K1}{fd:N2}{x:Str}{sp:Sp}{c:J5}{p:List J3}{ns:List Int}
  (KX:K.In c.heap) (B:c.heap.Ns L9 I) (g:c.heap.Ns builtinsNs Q) (T:∀x:Str,x≠"__name__"->Q x=ac5 x) (E:c.heap.NoLimit) (hg:c.gens=#[])
  (ha:c.heap.get? a=some { cls:=.type "list",data:=.seq p.toArray }) (hi:ax7 p ns) (hl:ns.length<=K0) (hr:cv k au9)
  (F:∀base:L5,K.In base->base.Ns L9 I->aR P w K I base CX k S fd [x] sp) (l:∀(s:J5) (u:J3),aw1 s fd ⟨[u],[]⟩ [(x,u)])
  (X:∀H:Hp,DC H->SqL K H a (ns.map V.int)->sp [.ref a] H (fun v _=>v=.bl true) fun _ _ _=>False)
  (R:∀H e s',CX [] H c (fun _ _ _=>False) e s'->False) :
  ak4 (N3 P w) au9 (.call (.ref S) ⟨[.ref a],[]⟩) (fun r s'=>r=.ok (.ret (.bool true))/\OldK c.heap s'.heap/\s'.os=c.os/\ar5 s'.gens) c:=by
 have rv:=qv hi;have J:=hi.length
 -- from an abstract heap in which nothing but the script may be tracked
 have j:∀H:Hp,DC H->SqL K H a (ns.map V.int)->HOk P w H c.heap->(∀b,H b≠none->b=a)->(H a≠none->K.lookup a=none) ->
   ak4 (N3 P w) au9 (.call (.ref S) ⟨[.ref a],[]⟩) (fun r s'=>r=.ok (.ret (.bool true))/\OldK c.heap s'.heap/\s'.os=c.os/\ar5 s'.gens) c:=by
  intro H hO hS C hA hK;have f:∀{b:K1} {o:Obj},c.heap.get? b=some o->H b=none->(qY c.heap H).get? b=some o:=fun e n=>Bs e n;have Y:∀{b:K1} {o:Obj} {L:Array ac7} {N:Nat},c.heap.get? b=some o->o.data=.dict L N->H b=none:=fun {b o L N} e d=>by
   cases q:H b with
   |none=>rfl
   |some u =>
    have U:b=a:=hA b (by rw[q];simp);subst U;rw[ha]at e;cases e;have d':Data.seq p.toArray _=Data.dict L N:=d;cases d'
  have i:∀{b:K1} {m:Str->Option J3},c.heap.Ns b m->(qY c.heap H).Ns b m:=fun {b m} z21z=>(by obtain⟨o,L,N,e,d,r⟩:=z21z;exact ⟨o,L,N,f e (Y e d),d,r⟩);have A:K.In (qY c.heap H):=fun b o e=>f (KX b o e) (by
   cases q:H b with
   |none=>rfl
   |some u =>
    have U:b=a:=hA b (by rw[q];simp);subst U;rw[hK (by rw[q];simp)]at e;cases e)
  have hM:Mod K I (qY c.heap H):=⟨A,i B,⟨Q,i g,T⟩,let⟨mc,h1,h2⟩:=E;⟨mc,i h1,h2⟩⟩;have e0:vh P w K I (qY c.heap H) au9 [] c H:=⟨rfl,hM,fun b o e=>Ce e,Nat.le_of_eq (yI _ _),trivial,fun b g=>absurd (show b∈([]:List K1)from g) (by simp),C,.of_eq hg⟩;refine ah2 ((F _ A (i B)).run au9 [] c H ⟨[.ref a],[]⟩ [.ref a] [.ref a] _ _ hr e0 (l c (.ref a)) (.cons rfl .nil) (X H hO hS)) fun r s' h=>?_;cases r with
  |error e=>exact(R H e s' h).elim
  |ok fl =>
   cases fl with
   |next=>exact ad1 h
   |brk=>exact ad1 h
   |cont=>exact ad1 h
   |ret u =>
    obtain⟨v,H',os,O,un,M,r',q⟩:=h;have q':v=.bl true:=q;subst q';obtain rfl:u=J3.bool true:=r';refine⟨rfl,OldK.of_keep fun b o e=>?_,os,O⟩;cases q:H b with
    |none=>exact un.keep b o e q (by intro z;exact absurd (show b∈([]:List K1)from z) (by simp)) (by simp)
    |some u =>
     rcases hO b with z|⟨ob,xs,z⟩
     ·rw[q]at z;cases z
     ·have z2:=un.frzs b ob _ z;obtain⟨e1,_⟩:=C b _ z;obtain⟨e2,_⟩:=M b _ z2;rw[e]at e1;cases e1;exact e2
 cases Z:K.lookup a with
 |some o =>
  -- the script is one of the module's own objects
  have e:=KX a o Z;rw[ha]at e;cases e;refine j (fun _=>none) (fun _=>.inl rfl) (.inr ⟨_,p.toArray,_,Z,rfl,rfl,rfl,by rw[K3,J];exact hl,by simpa using rv⟩) (fun b u z=>by have G:(none:Option HO)=some u:=z;cases G) (fun b z=>absurd rfl z) fun z=>absurd rfl z
 |none =>
  refine j (fun b=>if b=a then some (.frz { cls:=.type "list",data:=.seq p.toArray } (.lst (ns.map V.int)))else none) (fun b=>?_) (.inl (.inr ⟨{ cls:=.type "list",data:=.seq p.toArray },if_pos rfl⟩)) (fun b u z=>?_) (fun b z=>?_) fun _=>Z
  ·by_cases g:b=a
   ·exact .inr ⟨_,_,if_pos g⟩
   ·exact .inl (if_neg g)
  ·by_cases g:b=a
   ·have G:=(if_pos g).symm.trans z;cases G;subst g;exact⟨ha,by rw[J0];exact hl,p,_,rv,ha⟩
   ·have G:=(if_neg g).symm.trans z;cases G
  ·by_cases g:b=a
   ·exact g
   ·exact absurd (if_neg g) z
theorem wz{l:PySem.W.OpenLaw}{n k:Nat}{q:M9}{g:List Str}{S:(Str->Option J3)->L5->Prop}{M:P5->L5->Prop}{d:DefRec}{K:Params->J4}{CX:P5->CXT}{sp:P5->Sp}{x:Str}
  (hn:l.most=some n) (B:n<=K0) (I:d.params.defaults=[]) (hr:cv k au9)
  (R:∀(w:P5) (h:L5),M w h->(K w.params).In h)
  (F:∀ (w:P5) (i:Str → Option J3) (p:K1) (h:L5),(K w.params).In h → h.Ns L9 i → i d.name = some (.ref p) →
   ∃E:N2,(∀(s:J5) (u:J3),aw1 s E ⟨[u],[]⟩ [(x,u)]) /\
    ∀base:L5,(K w.params).In base->base.Ns L9 i->aR l.prog w (K w.params) i base (CX w) k p E [x] (sp w))
  (C:∀(w:P5) (H:Hp) (a:K1) (ns:List Int),ns.length<=n->DC H->SqL (K w.params) H a (ns.map V.int)->sp w [.ref a] H (fun v _=>v=.bl true) fun _ _ _=>False)
  (A:∀(w:P5) (H:Hp) (s:J5) (e:J3) (s':J5),CX w [] H s (fun _ _ _=>False) e s'->False) :
  PySem.W.WalkO q g S M l.row.toRowW d [] (fun f N=>PySem.call f N):=by
 refine Att.attach_call hn I fun w O j i mb p o pm cd P a N ns G Y ho hd a0 z m c J U=>?_;have L:=R w _ Y;obtain⟨E,Z,Q⟩:=F w i p _ L G.T.g z;exact Bi L G.T.g G.T.b G.T.builtins G.T.nolimit U m c (K4 J B) hr Q Z (fun H X T=>C w H a ns J X T) fun H e s'=>A w H j e s'
end L2
/- THE LAST THEOREM (shape; LID,My.* are yours):
   My.Adr: a structure of the addresses that your layer names (classes,functions);My.Txt K t: a structure (Prop) of the equations over K;
   My.txt_mk:{K} {implicit addresses ..} (e1:nsIn K L9 "law"=some (some (.ref f))) (e2:K.lookup f=some ⟨oc,od,.func (fnOf "law" "law" params body scope dV kV doc pm an cdv ct),sl⟩) (e3:codeIn K cdv "law"=true) ..:∃t,My.Txt K t
set_option maxRecDepth 100000 in
set_option maxHeartbeats 0 in
theorem PySem.Challenge.cw_LID_holds : PySem.Challenge.rw_LID.Holds := by
 w_on;o_law;k_head;(case hw=>w_witness2)
 k_fill
 refine L2.wz (l:=PySem.Challenge.rw_LID) (n:=63) (k:=40) (x:="script") (CX:=fun w=>..) (sp:=fun _=>My.sp_law) rfl (by decide) rfl ⟨rfl,by decide,by decide⟩ (fun w h Y=>PySem.W.kIn_of Y) ?F ?S ?C
 case F =>
  intro w o j h i G e;have T:∃t,My.Txt (L2.KOf i) t:=by
   dsimp only[L2.KOf]                          -- K must stand as «<heap const> w.params» for k_is
   refine' My.txt_mk ?e1 ?e2 ?e3 ..
   (case e1=>PySem.W.k_is)                    -- in the order: a name->its address->its object->its parts
   (case e2=>PySem.W.k_is)
   ..
  obtain⟨t,T⟩:=T;have m:=e.symm.trans (U9 i G T.law);cases m                                       -- j is the law's own address;exact⟨_,fun s u=>.of_eq rfl,fun c f g=>My.law_fn T f g⟩     -- if «.of_eq rfl» comes too early: refine' ⟨_,?b,fun c f g=>My.law_fn T f g⟩;exact fun s u=>.of_eq rfl
 case S=>exact fun w H a q z p A=>..
 case C=>exact ..
(the tactic k_is has no namespace: write k_is) -/
namespace L2
open PySem PySem.Spec PyProof.Rows
noncomputable def gp(s:ae4):Arguments:=match s with
 |.FunctionDef _ a _ _ _ _ _ _ _ _=>a
 |_=>{ posonlyargs:=[],args:=[],vararg:=none,kwonlyargs:=[],kw_defaults:=[],kwarg:=none,defaults:=[] }
noncomputable def dE(s:ae4):List ae4:=match s with
 |.FunctionDef _ _ b _ _ _ _ _ _ _=>b
 |_=>[]
noncomputable def ai(s:ae4):ai7:=match s with
 |.FunctionDef _ _ _ _ _ _ a _ _ _=>a
 |_=>{ kind:=.function,names:=[],isGenerator:=false,isCoroutine:=false }
abbrev CX0:CXT:=fun _ _ _ _ _ _=>False
abbrev E0:XK:=fun _ _ _=>False
theorem yV{X:Cx}:oh CX0 X E0:=fun _ _ _ _ _ _ _ h=>h.elim
structure Fun(K:J4) (x qual:Str) (st:ae4) (f:K1) (fd:N2):Prop where
 ex:∃(oc:J3) (od:Option K1) (kV doc pm:J3) (an:Option K1) (cdv ct:J3) (osl:Array (Option J3)),
  fd=ah3 x qual (gp st) (dE st) (ai st) .none kV doc pm an cdv ct/\K.lookup f=some ⟨oc,od,.func fd,osl⟩/\al0 K cdv qual=true
 kp:ab9 K (.ref f)=true
section
variable{P:M9}{w:P5}{K:J4}{z:Str->Option J3}{base:L5}{f:K1}{y:N2}
theorem Fun.ok{x c:Str}{st:ae4}{f:K1}{y:N2}{N ps:List Str}{k:Nat}{sp:Sp}(F:Fun K x c st f y) (S:au N ps (ai st)) (len:∀i H Q E,sp i H Q E->i.length=ps.length)
  (g:∀ (e:J3) (A:O9) (a:List Env) (s:J5) (H:Hp) (i:List V) (Q:VK) (E:XK),cv k (A.deeper (au5 c (ai st) s.heap.objs.size f e)) → sp i H Q E →
   ∃t,PSs (sP CX0 P w K z base N c (ai st) f e A a s H E).nox (dE st) t/\t { nx:=fun _ n=>Q .non n,rt:=Q } (gJ N i) H):aR P w K z base CX0 (k+1) f y ps sp:=by
 obtain⟨I,C,kV,o,J,G,e,B,m,rfl,p,l⟩:=F.ex;refine IH p l S len fun A a s H i Q E u j=>?_;obtain⟨t,h,q⟩:=g e A a s H i Q E u j;exact⟨t,h.nox,q⟩
theorem Fun.binds{x a:Str}{st:ae4}{f:K1}{y:N2}{ps:List Str}(F:Fun K x a st f y)
  (h:∀(kV e g:J3) (i:Option K1) (c ct:J3) (us:List J3),us.length=ps.length->bindArgs (ah3 x a (gp st) (dE st) (ai st) .none kV e g i c ct) ⟨us,[]⟩=ak7 (ps.zip us)):dN K y ps []:=by
 obtain⟨m,o,kV,e,g,i,c,ct,j,rfl,n,l⟩:=F.ex;exact .all (h kV e g i c ct)
theorem zg{x a:Str}{st:ae4}{f:K1}{m:J3}{n j:Option K1}{h:Array (Option J3)}{kV g i e ct:J3}(l:K.lookup f=some ⟨m,n,.func (ah3 x a (gp st) (dE st) (ai st) .none kV g i j e ct),h⟩)
  (c:al0 K e a=true) (k:ab9 K (.ref f)=true):Fun K x a st f (ah3 x a (gp st) (dE st) (ai st) .none kV g i j e ct):=⟨⟨m,n,kV,g,i,j,e,ct,h,rfl,l,c⟩,k⟩
end
theorem aW{c A B:Prop} [Decidable c] (e:c->A) (a:¬ c->B):if c then A else B:=by
 by_cases h:c
 ·rw[if_pos h];exact e h
 ·rw[if_neg h];exact a h
section
variable{κ:Type} [DecidableEq κ]
noncomputable def dX(a:List (κ×V)) (k:κ):Option V:=(a.find? fun c=>decide (c.1=k)).map (·.2)
noncomputable def gh(a:List (κ×V)) (k:κ) (v:V):List (κ×V) :=
 if(a.any fun c=>decide (c.1=k))=true then a.map (fun c=>if c.1=k then(c.1,v)else c)else a++[(k,v)]
noncomputable def JJ(a:List (κ×V)) (k:κ):List (κ×V):=a.filter fun c=>decide (c.1≠k)
theorem kh{p:κ×V}{r:List (κ×V)}{k:κ}(e:p.1=k):dX (p::r) k=some p.2:=by simp[dX,ae7,e]
theorem kS{p:κ×V}{r:List (κ×V)}{k:κ}(e:¬ p.1=k):dX (p::r) k=dX r k:=by simp[dX,ae7,e]
theorem ug(k:κ):∀a:List (κ×V),(a.any fun c=>decide (c.1=k))=(dX a k).isSome
 |[]=>rfl
 |p::r=>by
  rw[ac0]
  by_cases e:p.1=k
  ·simp only[kh e,decide_eq_true e,Bool.true_or,Option.isSome_some]
  ·rw[kS e,decide_eq_false e,Bool.false_or];exact ug k r
theorem ij(a:List (κ×V)) (k:κ) (v:V):(gh a k v).length<=a.length+1:=by
 unfold gh
 split
 ·rw[J0];lia
 ·rw[N7,M8,ap6];exact J7 _
theorem jM.isSome_eq{o:Option V}{u:Option J3}(r:jM o u):o.isSome=u.isSome:=by
 cases o with
 |none=>cases u with
  |none=>rfl
  |some _=>exact(show False from r).elim
 |some _=>cases u with
  |none=>exact(show False from r).elim
  |some _=>rfl
theorem jM.getD{o:Option V}{u:Option J3}{d:V}{d':J3}(r:jM o u) (rd:aF d d'):aF (o.getD d) (u.getD d'):=by
 cases o with
 |none=>cases u with
  |none=>exact rd
  |some _=>exact(show False from r).elim
 |some _=>cases u with
  |none=>exact(show False from r).elim
  |some _=>exact r
theorem KV.val{a:List (κ×V)}{g:List (κ×J3)}(r:KV a g) (k:κ):jM (dX a k) (al8 g k):=by
 unfold KV at r
 induction r with
 |nil=>exact al9
 |@cons p q l f h t ih =>
  obtain⟨i,j⟩:=h
  by_cases e:p.1=k
  ·have c:q.1=k:=i.symm.trans e;have b:al8 (q::f) k=some q.2:=by simp[al8,ae7,c]
   rw[kh e,b];exact j
  ·have c:¬ q.1=k:=fun z=>e (i.trans z);have b:al8 (q::f) k=al8 f k:=by simp[al8,ae7,c]
   rw[kS e,b];exact ih
theorem KV.any{a:List (κ×V)}{e:List (κ×J3)}(r:KV a e) (k:κ):(a.any fun c=>decide (c.1=k))=e.any fun c=>decide (c.1=k):=by
 unfold KV at r
 induction r with
 |nil=>rfl
 |cons h t ih=>rw[ac0,ac0,ih,h.1]
theorem KV.repl{c:List (κ×V)}{g:List (κ×J3)}(r:KV c g) (k:κ) {y:V}{u:J3}(j:aF y u) :
  KV (c.map fun a=>if a.1=k then(a.1,y)else a) (g.map fun a=>if a.1=k then(a.1,u)else a):=by
 unfold KV at r ⊢
 induction r with
 |nil=>exact .nil
 |@cons p q m l h t ih =>
  rw[L7,L7];refine .cons ?_ ih;obtain⟨f,i⟩:=h
  by_cases e:p.1=k
  ·rw[if_pos e,if_pos (f.symm.trans e)];exact⟨f,j⟩
  ·rw[if_neg e,if_neg (fun z=>e (f.trans z))];exact⟨f,i⟩
theorem KV.put{a:List (κ×V)}{c:List (κ×J3)}(r:KV a c) (k:κ) {y:V}{u:J3}(f:aF y u):KV (gh a k y) (stored c k u):=by
 unfold gh stored;rw[r.any k]
 by_cases e:(c.any fun g=>decide (g.1=k))=true
 ·rw[if_pos e,if_pos e];exact r.repl k f
 ·rw[if_neg e,if_neg e];exact ad0.snoc r ⟨rfl,f⟩
theorem KV.length{a:List (κ×V)}{c:List (κ×J3)}(r:KV a c):a.length=c.length:=am2 r
end
theorem jo{P:M9}{w:P5}{k:Key}{u:J3}(r:aF (kV k) u):(bc P w).is k u=true:=by
 cases k with
 |inl i=>obtain⟨t,e⟩:=(show ∃t,u=ag5 i t from r);subst e;exact si P w i t
 |inr x=>obtain⟨t,e⟩:=(show ∃t,u=ax3 x t from r);subst e;exact tF P w x t
theorem ql{P:M9}{w:P5}:∀{ks:List Key}{us:List J3},ax (ks.map kV) us->ItemsAre (bc P w) ks us
 |[],_,r=>by rw[ao2]at r;cases r;exact .nil
 |k::ks,_,r=>by
  rw[L7]at r;cases r with
  |cons h t=>exact .cons (jo h) (ql t)
abbrev KT(H:Hp):List (List Key×V)->List (List Key×K1×J3)->Prop:=ad0 fun p q=>p.1=q.1/\H q.2.1=some (.tup (p.1.map kV))/\aF p.2 q.2.2
theorem KT.val{H:Hp}{a:List (List Key×V)}{xs:List (List Key×K1×J3)}(r:KT H a xs) (k:List Key):jM (dX a k) ((atKey xs k).map (·.2)):=by
 induction r with
 |nil=>exact al9
 |@cons p q j f h t ih =>
  obtain⟨g,_,i⟩:=h
  by_cases e:p.1=k
  ·have c:q.1=k:=g.symm.trans e;have b:atKey (q::f) k=some q.2:=by simp[atKey,ae7,c]
   rw[kh e,b];exact i
  ·have c:¬ q.1=k:=fun z=>e (g.trans z);have b:atKey (q::f) k=atKey f k:=by simp[atKey,ae7,c]
   rw[kS e,b];exact ih
theorem KT.repl{H:Hp}{a:List (List Key×V)}{xs:List (List Key×K1×J3)}(r:KT H a xs) (k:List Key) {y:V}{u:J3}(j:aF y u) :
  KT H (a.map fun f=>if f.1=k then(f.1,y)else f) (xs.map (putAt k u)):=by
 induction r with
 |nil=>exact .nil
 |@cons p q m l h t ih =>
  rw[L7,L7];refine .cons ?_ ih;obtain⟨c,g,i⟩:=h;unfold putAt
  by_cases e:p.1=k
  ·rw[if_pos e,if_pos (c.symm.trans e)];exact⟨c,g,j⟩
  ·rw[if_neg e,if_neg (fun z=>e (c.trans z))];exact⟨c,g,i⟩
theorem KT.put{H:Hp}{a:List (List Key×V)}{xs:List (List Key×K1×J3)}(r:KT H a xs) (k:List Key) {b:K1}{y:V}{u:J3}(f:H b=some (.tup (k.map kV))) (c:aF y u) :
  KT H (gh a k y) (av0 xs k b u):=by
 have e:(a.any fun g=>decide (g.1=k))=(atKey xs k).isSome:=by
  rw[ug,(r.val k).isSome_eq,Option.isSome_map]
 unfold gh av0;rw[e]
 by_cases q:(atKey xs k).isSome=true
 ·rw[if_pos q,if_pos q];exact r.repl k c
 ·rw[if_neg q,if_neg q];exact ad0.snoc r ⟨rfl,f,c⟩
theorem KT.keeps{H e:Hp}{a:List (List Key×V)}{xs:List (List Key×K1×J3)}(r:KT H a xs) (f:∀b c,H b=some (.tup c)->e b=some (.tup c)):KT e a xs :=
 ad0.mapP r fun _ _ z=>⟨z.1,f _ _ z.2.1,z.2.2⟩
section
variable{P:M9}{w:P5}{H:Hp}{h:L5}{a:K1}
theorem DO{u:HO}(ok:HOk P w H h) (e:Rd H a u):bB P w H h a u:=e.ok ok
theorem oY{c:List (Key×V)}(ok:HOk P w H h) (e:Rd H a (.dK c)):c.length<=K0/\(a==Z6)=false/\∃f,KV c f/\h.DictOf (bc P w) a f :=
 show bB P w H h a (.dK c)from DO ok e
theorem DM{c:List (Key×V)}(ok:HOk P w H h) (e:H a=some (.dK c)):c.length<=K0/\(a==Z6)=false/\∃f,KV c f/\h.DictOf (bc P w) a f:=oY ok (.inl e)
theorem l0{ks:List Key}(ok:HOk P w H h) (e:H a=some (.tup (ks.map kV))):(at2 (bc P w)).is h ks a:=by
 obtain⟨_,its,r,o,g,f,⟨n,c⟩,_⟩:=(show bB P w H h a (.tup (ks.map kV))from ok a _ e);exact⟨o,its.toArray,n,g,f,c,by simpa using ql r⟩
theorem oR{c:List (List Key×V)}(ok:HOk P w H h) (e:Rd H a (.dT c)):c.length<=K0/\(a==Z6)=false /\
  ∃xs,KT H c xs/\h.DictOfH (at2 (bc P w)) a xs:=by
 obtain⟨z,y,xs,r,o,s,u,B,A,j,n,i⟩:=(show bB P w H h a (.dT c)from DO ok e);refine⟨z,y,xs,r,o,s,u,B,A,j,n,fun x f=>?_,i⟩;have all:∀{l:List (List Key×V)} {m:List (List Key×K1×J3)},KT H l m->∀x∈m,(at2 (bc P w)).is h x.1 x.2.1:=by
  intro l m q
  induction q with
  |nil=>intro x f;exact nomatch f
  |@cons p q E C g t ih =>
   intro x f;rcases L1.mp f with e|f
   ·subst e;exact l0 ok (by rw[<-g.1];exact g.2.1)
   ·exact ih x f
 exact all r x f
theorem IR{c:List (List Key×V)}(ok:HOk P w H h) (e:H a=some (.dT c)):c.length<=K0/\(a==Z6)=false /\
  ∃xs,KT H c xs/\h.DictOfH (at2 (bc P w)) a xs:=oR ok (.inl e)
end
def ie(H:Hp) (a:K1) (y:V) (r:Option V):Prop :=
 (∃c k,Rd H a (.dK c)/\y=kV k/\r=dX c k)∨∃c k b,Rd H a (.dT c)/\y=.ref b/\H b=some (.tup (k.map kV))/\r=dX c k
def sO(H:Hp) (a:K1) (y v:V) (e:Hp):Prop :=
 (∃c k,H a=some (.dK c)/\y=kV k/\c.length<K0/\e=upd H a (.dK (gh c k v))) ∨
 ∃c k b,H a=some (.dT c)/\y=.ref b/\H b=some (.tup (k.map kV))/\c.length<K0/\e=upd H a (.dT (gh c k v))
theorem ie.k{H:Hp}{a:K1}{c:List (Key×V)}{k:Key}(e:H a=some (.dK c)):ie H a (kV k) (dX c k):=.inl ⟨c,k,.inl e,rfl,rfl⟩
theorem ie.t{H:Hp}{a b:K1}{c:List (List Key×V)}{k:List Key}(e:H a=some (.dT c)) (f:H b=some (.tup (k.map kV))):ie H a (.ref b) (dX c k):=.inr ⟨c,k,b,.inl e,rfl,f,rfl⟩
theorem sO.k{H:Hp}{a:K1}{c:List (Key×V)}{k:Key}{v:V}(e:H a=some (.dK c)) (f:c.length<K0):sO H a (kV k) v (upd H a (.dK (gh c k v))):=.inl ⟨c,k,e,rfl,f,rfl⟩
theorem sO.t{H:Hp}{a b:K1}{c:List (List Key×V)}{k:List Key}{v:V}(e:H a=some (.dT c)) (f:H b=some (.tup (k.map kV))) (g:c.length<K0) :
  sO H a (.ref b) v (upd H a (.dT (gh c k v))):=.inr ⟨c,k,b,e,rfl,f,g,rfl⟩
section
variable{X:Cx}{B:List (K1×Obj)}{σ:St}{H:Hp}{s:J5}{a:K1}{y v:V}{u r:J3}{o:Option V}{A:O9}{E:J3->J5->Prop}
theorem Inv.big(I:Inv X B σ H s):Z6<s.heap.objs.size:=by
 have h:L9<s.heap.objs.size:=(I.mod.glob.keeps I.bk).lt;exact ao3 (by decide) h
theorem vt{Q:J3->J5->Prop}(L:A.units+1<Z4) (I:Inv X B σ H s) (g:ie H a y (some v)) (w:aF y u) (h:∀i s',Inv X B σ H s'->aF v i->Q i s') :
  K5 (N3 X.prog X.w) A (ap4 (.ref a) u) Q E s:=by
 rcases g with⟨m,k,e,ey,l⟩|⟨m,k,b,e,ey,eb,l⟩
 ·subst ey;obtain⟨z,x,J,c,n⟩:=oY I.hok e;obtain⟨i,j,f⟩:=jM.some_of (v:=v) (o:=al8 J k) (by rw[l];exact c.val k);exact wpAny_getItem_of (jo w) n.mapOf j (h i _ (I.tok _) f)
 ·subst ey;cases(show u=Q0 b from w);obtain⟨z,x,C,c,n⟩:=oR I.hok e;obtain⟨i,j,f⟩:=jM.some_of (v:=v) (o:=(atKey C k).map (·.2)) (by rw[l];exact c.val k);obtain⟨p,G,q⟩:=Option.map_eq_some_iff.mp j;refine wpAny_getItem_heap (ai9 L) (l0 I.hok eb) n G ?_;rw[q];exact h i _ (I.tok _) f
theorem HX{Q:J3->J5->Prop}(n:A.units+1<Z4) (I:Inv X B σ H s) (g:ie H a y o) (m:aF y u) (h:∀s',Inv X B σ H s'->Q (.bool o.isSome) s') :
  K5 (N3 X.prog X.w) A (Q9 .In u (.ref a)) Q E s:=by
 rcases g with⟨i,k,e,ey,l⟩|⟨i,k,b,e,ey,eb,l⟩
 ·subst ey;obtain⟨z,f,w,c,j⟩:=oY I.hok e;refine wpAny_in_of (jo m) f j.mapOf ?_;rw[<-(c.val k).isSome_eq,<-l];exact h _ (I.tok _)
 ·subst ey;cases(show u=Q0 b from m);obtain⟨z,f,p,c,j⟩:=oR I.hok e;refine wpAny_in_heap (ai9 n) (l0 I.hok eb) f j ?_;have q:=(c.val k).isSome_eq;rw[Option.isSome_map]at q;rw[<-q,<-l];exact h _ (I.tok _)
theorem A2{Q:J3->J5->Prop}(n:A.units+1<Z4) (I:Inv X B σ H s) (g:ie H a y o) (m:aF y u) (h:∀s',Inv X B σ H s'->Q (.bool (!o.isSome)) s') :
  K5 (N3 X.prog X.w) A (Q9 .NotIn u (.ref a)) Q E s:=by
 rcases g with⟨i,k,e,ey,l⟩|⟨i,k,b,e,ey,eb,l⟩
 ·subst ey;obtain⟨z,f,w,c,j⟩:=oY I.hok e;refine wpAny_notIn_of (jo m) f j.mapOf ?_;rw[<-(c.val k).isSome_eq,<-l];exact h _ (I.tok _)
 ·subst ey;cases(show u=Q0 b from m);obtain⟨z,f,p,c,j⟩:=oR I.hok e;refine wpAny_notIn_heap (ai9 n) (l0 I.hok eb) f j ?_;have q:=(c.val k).isSome_eq;rw[Option.isSome_map]at q;rw[<-q,<-l];exact h _ (I.tok _)
theorem iN{h':L5}{t':Nat}{c:HO}(I:Inv X B σ H s) (g:Mut (H a)) (hs:O6 a s.heap h') (he:∃q,h'.get? a=some q) (new:bB X.prog X.w (upd H a c) h' a c) :
  Inv X B σ (upd H a c) { s with heap:=h',toks:=t' } :=
 I.write (x:=a) (e:=a) g (.inl rfl) (fun b q f z=>(hs.2 b f).trans z) he new
theorem AZ{P:M9}{w:P5}{i:Hp}{h':L5}{c:List (Key×V)}{e:List (Key×J3)}(z:c.length<=K0) (g:(a==Z6)=false) (f:KV c e) (h:h'.DictOf (bc P w) a e) :
  bB P w i h' a (.dK c):=⟨z,g,e,f,h⟩
theorem uN{C:Hp}{Q:Unit->J5->Prop}(U:A.units+1<Z4) (I:Inv X B σ H s) (g:sO H a y v C) (L:aF y u) (G:aF v r) (h:∀s',Inv X B σ C s'->Q () s') :
  K5 (N3 X.prog X.w) A (setItem (.ref a) u r) Q E s:=by
 rcases g with⟨f,k,e,ey,l,eH⟩|⟨f,k,b,e,ey,eb,l,eH⟩
 ·subst ey eH;obtain⟨z,n,T,i,p⟩:=DM I.hok e;have w:T.length<=K0:=by rw[<-i.length];exact z
  have o:(gh f k v).length<=K0:=by have:=ij f k v;exact K4 (by assumption) (by assumption)
  refine wpAny_setItem_pairs (hsz:=w) (jo L) p fun x j hs=>h _ ?_;have S:∃q,x.get? a=some q:=let⟨q,_,_,m,_⟩:=j;⟨q,m⟩
  exact iN I (by rw[e];exact al9) hs S (AZ o n (i.put k G) j)
 ·subst ey eH;cases(show u=Q0 b from L);obtain⟨z,n,O,i,p⟩:=IR I.hok e;have w:O.length<=K0:=by rw[<-am2 i];exact z
  have o:(gh f k v).length<=K0:=by have:=ij f k v;exact K4 (by assumption) (by assumption)
  refine wpAny_setItem_heap (hsz:=w) (ai9 U) (l0 I.hok eb) p fun x j hs=>h _ ?_;obtain⟨q,R,Y,m,Z,N,P,_,M⟩:=j;refine iN I (by rw[e];exact al9) hs ⟨q,m⟩ ⟨o,n,_,(i.put k eb G).keeps fun c ys J=>?_,q,R,Y,m,Z,N,P,M⟩;rw[aO (Hk J e (fun z=>nomatch z))];exact J
end
def A3(i:O4):Prop:=∀a c,au6 i false a c=operate [a,c] (ap4 a c)
theorem xo{prog:M9}{w:P5}{A:O9}{E:J3->J5->Prop}{s:J5}{env:Env}{a slice:O4}{n:Pos}{T id:String}{Q:J3->J5->Prop}
  (q:aw3 (.type T) "__getitem__"=ak7 (some (.builtin id))) (hs:A3 slice)
  (h:K5 (N3 prog w) A (af7 a env) (fun o g=>K5 (N3 prog w) A (af7 slice env) (fun i c=>c.TypeIs o T/\K5 (N3 prog w) A (ap4 o i) Q E c) E g) E s) :
  K5 (N3 prog w) A (af7 (.Subscript a slice n) env) Q E s:=by
 refine aw4 (U6 h (fun o g l=>U6 l (fun i c e=>?_) fun _ _ x=>x) fun _ _ x=>x);obtain⟨p,e⟩:=e;unfold subscriptTail;refine o0 ?_;rw[getitemInPython_of_ne p.not_modules];refine o0 (ac8 p q ?_);have j:K5 (N3 prog w) A (au6 slice false o i) (fun r f=>K5 (N3 prog w) A (letTemporaryGo a o r >>= fun _=>ak7 r) Q E f) E c:=by
  rw[hs o i];exact wpAny_operating (U6 e (fun r f m=>o0 (wpAny_letTemporaryGo (J1 m))) fun _ _ x=>x)
 first
  |exact J1 (o0 j)
  |exact o0 (J1 (o0 j))
  |exact o0 j
theorem tV{X:Cx}{h:List (K1×Obj)}{σ:St}{H:Hp}{s:J5}{a:K1}{y:V}{o:Option V}(I:Inv X h σ H s) (g:ie H a y o):s.TypeIs (.ref a) "dict":=by
 rcases g with⟨c,k,e,_,_⟩|⟨c,k,b,e,_,_,_⟩
 ·obtain⟨_,_,j,_,f⟩:=oY I.hok e;exact f.typeIs
 ·obtain⟨_,_,i,_,f⟩:=oR I.hok e;exact f.typeIs
def Ht(g ty:TE):TE:=fun e H Q=>g e H fun x f=>ty e f fun y c=>∃a v,x=.ref a/\ie c a y (some v)/\Q v c
def HC(ty f:TE):TE:=fun e H Q=>ty e H fun y g=>f e g fun x c=>∃a o,x=.ref a/\ie c a y o/\Q (.bl o.isSome) c
def we(ty f:TE):TE:=fun e H Q=>ty e H fun y g=>f e g fun x c=>∃a o,x=.ref a/\ie c a y o/\Q (.bl (!o.isSome)) c
def Gv(i ty tv:TE):TS:=fun D c H=>tv c H fun v h=>i c h fun x f=>ty c f fun y g=>∃a e,x=.ref a/\sO g a y v e/\D.nx c e
section
variable{X:Cx}{o i e z:O4}{Y B Z:Pos}{N W tv:TE}
theorem CT(p:X.A.units+1<Z4) (J:PE X o N) (C:PE X i W) (hs:A3 i):PE X (.Subscript o i Y) (Ht N W):=by
 intro j s f H Q I h;refine xo PySem.F.slot_dict_getitem.lookup hs (thn (J j s f H _ I h) fun u E e=>e.el fun x L G B A=>thn (C j E f L _ G A) fun O P z22z=>?_);obtain⟨y,q,l,w,a,v,z,g,m⟩:=z22z;subst z;obtain rfl:u=Q0 a:=B;exact⟨tV l g,vt p l g w fun M R n c=>⟨v,q,n,c,m⟩⟩
theorem FU(m:X.A.units+1<Z4) (A:PE X i W) (E:PE X o N):PC X .In i o (HC W N):=by
 intro f s e H Q I h;refine thn (A f s e H _ I h) fun M B c=>c.el fun y J C p w=>thn (E f B e J _ C w) fun u O z23z=>?_;obtain⟨x,n,G,z,a,L,q,g,j⟩:=z23z;subst q;obtain rfl:u=Q0 a:=z;exact HX m G g p fun P l=>⟨.bl L.isSome,n,l,rfl,j⟩
theorem xN(m:X.A.units+1<Z4) (A:PE X i W) (E:PE X o N):PC X .NotIn i o (we W N):=by
 intro f s e H Q I h;refine thn (A f s e H _ I h) fun M B c=>c.el fun y J C p w=>thn (E f B e J _ C w) fun u O z24z=>?_;obtain⟨x,n,G,z,a,L,q,g,j⟩:=z24z;subst q;obtain rfl:u=Q0 a:=z;exact A2 m G g p fun P l=>⟨.bl (!L.isSome),n,l,rfl,j⟩
theorem xc(P:X.A.units+1<Z4) (G:PE X o N) (A:PE X i W) (S:PE X z tv) (hs:ak9 z (some (.Subscript o i B)) Y.line X.env=ak7 false) :
  PS X (.Assign [.Subscript o i B] z Y) (Gv N W tv):=by
 intro f s e H D I h;refine wpAny_Assign_Subscript (thn (S f s e H _ I h) fun r C c=>c.el fun v T E R q=>thn (G f C e T _ E q) fun u Q c=>c.el fun x m J w j=>thn (A f Q e m _ J j) fun iv Z z25z=>?_) hs;obtain⟨y,H3,l,n,a,O,p,g,M⟩:=z25z;subst p;obtain rfl:u=Q0 a:=w;exact uN P l g n R fun U L=>⟨e,O,L,M⟩
end
theorem yQ{P:M9}{w:P5}{H:Hp}(h:L5) (a:Z6<h.objs.size):bB P w H (h.push { cls:=.type "dict",data:=.dict #[] }) h.objs.size (.dK []) :=
 ⟨P1 _,beq_eq_false_iff_ne.mpr (ab6 (K9 a)),[],.nil,L5.DictOf.new h⟩
theorem yM{P:M9}{w:P5}{H:Hp}(h:L5) (a:Z6<h.objs.size):bB P w H (h.push { cls:=.type "dict",data:=.dict #[] }) h.objs.size (.dT []) :=
 ⟨P1 _,beq_eq_false_iff_ne.mpr (ab6 (K9 a)),[],.nil,_,#[],0,J8 _ rfl,⟨rfl,rfl,rfl⟩,rfl,rfl,an8⟩
def EL:TE:=fun _ H Q=>∀p,H p=none->Q (.ref p) (upd H p (.dK []))
def F2:TE:=fun _ H Q=>∀p,H p=none->Q (.ref p) (upd H p (.dT []))
section
variable{X:Cx}{y:Pos}
theorem Bn:PE X (.Dict [] [] y) EL:=fun c s e H Q I h =>
 wpAny_Dict_empty ⟨.ref s.heap.objs.size,_,I.laid (a:=s.heap.objs.size) (o:=.dK []) (t':=s.toks) (fun _ _ q=>u8 _ q) (J7 _) (yQ s.heap I.big),rfl,h _ (I.hok.fresh (J7 _))⟩
theorem A7:PE X (.Dict [] [] y) F2:=fun c s e H Q I h =>
 wpAny_Dict_empty ⟨.ref s.heap.objs.size,_,I.laid (a:=s.heap.objs.size) (o:=.dT []) (t':=s.toks) (fun _ _ q=>u8 _ q) (J7 _) (yM s.heap I.big),rfl,h _ (I.hok.fresh (J7 _))⟩
end
structure M1(X:Cx) (o:O4) (m:Str) (e9:Pos) (e:O4) (cg:Pos):Prop where
 base:aj9 o m X.env (af7 o X.env)=af7 o X.env
 few:((aa2 cg (K8 [e] X.env)).all (fun x=>!x.1)&&(backToKw cg (au7 [] X.env)).all (fun x=>x.1.isSome)
 &&decide (([e]:List O4).length+([]:List au8).length+(if([]:List au8).isEmpty then 0 else 1)<30))=true
 line:(e9.endLine==cg.line)=true
 trees:aa2 cg (K8 [e] X.env)=[(false,af7 e X.env)]
structure M2(X:Cx) (o:O4) (m:Str) (e9:Pos) (e f:O4) (cg:Pos):Prop where
 base:aj9 o m X.env (af7 o X.env)=af7 o X.env
 few:((aa2 cg (K8 [e,f] X.env)).all (fun x=>!x.1)&&(backToKw cg (au7 [] X.env)).all (fun x=>x.1.isSome)
 &&decide (([e,f]:List O4).length+([]:List au8).length+(if([]:List au8).isEmpty then 0 else 1)<30))=true
 line:(e9.endLine==cg.line)=true
 trees:aa2 cg (K8 [e,f] X.env)=[(false,af7 e X.env),(false,af7 f X.env)]
def IsD(H:Hp) (a:K1):Prop:=(∃c,Rd H a (.dK c))∨∃c,Rd H a (.dT c)
theorem Ai{X:Cx}{l:List (K1×Obj)}{σ:St}{H:Hp}{s:J5}{a:K1}(I:Inv X l σ H s) (d:IsD H a) :
  s.TypeIs (.ref a) "dict"/\(∀b,Q0 a=.ref b->∃c,s.heap.get? b=some c/\c.dict=none)/\(a==Z6)=false:=by
 rcases d with⟨i,e⟩|⟨i,e⟩
 ·obtain⟨_,g,n,_,f⟩:=oY I.hok e;refine⟨f.typeIs,fun b q=>?_,g⟩;cases q;obtain⟨c,_,_,h,j,_⟩:=f;exact⟨c,h,j.2.1⟩
 ·obtain⟨_,g,m,_,f⟩:=oR I.hok e;refine⟨f.typeIs,fun b q=>?_,g⟩;cases q;obtain⟨c,_,_,h,j,_⟩:=f;exact⟨c,h,j.2.1⟩
section
variable{X:Cx}{B:List (K1×Obj)}{σ:St}{H:Hp}{s:J5}{a:K1}{y d:V}{u r:J3}{o:Option V}{A:O9}{E:J3->J5->Prop}
theorem CY{Q:J3->J5->Prop}(q:A.units+1<Z4) (I:Inv X B σ H s) (g:ie H a y o) (n:aF y u) (rd:aF d r) (h:∀m s',Inv X B σ H s'->aF (o.getD d) m->Q m s') :
  K5 (N3 X.prog X.w) A (aw9 (.builtin "dict.get") [.ref a,u,r]) Q E s:=by
 rcases g with⟨j,k,e,ey,l⟩|⟨j,k,b,e,ey,eb,l⟩
 ·subst ey;obtain⟨z,i,w,c,f⟩:=oY I.hok e;refine call_meetsIn PySem.F.slot_dict_get f.typeIs PySem.F.entry_dict_get (PySem.F.args_dict_get_3 _ _ _) (meets_dict_get_default (bc X.prog X.w) a (jo n) i r) ⟨_,f.mapOf,h _ _ (I.tok _) ?_⟩;rw[l];exact(c.val k).getD rd
 ·subst ey;cases(show u=Q0 b from n);obtain⟨z,i,p,c,f⟩:=oR I.hok e;refine call_meetsIn PySem.F.slot_dict_get f.typeIs PySem.F.entry_dict_get (PySem.F.args_dict_get_3 _ _ _) (meetsH_dict_get_default (at2 (bc X.prog X.w)) a b i r) ⟨ai9 q,k,p,l0 I.hok eb,f,h _ _ (I.tok _) ?_⟩;rw[l];exact(c.val k).getD rd
end
def FP(h ty tx:TE):TE:=fun c H Q=>h c H fun x e=>∃a,x=.ref a/\IsD e a/\ty c e fun y g=>tx c g fun z f=>∃o,ie f a y o/\Q (o.getD z) f
section
variable{X:Cx}{o e f:O4}{B N:Pos}{W Y tx:TE}
theorem zu(Z:X.A.units+1<Z4) (M:PE X o W) (he:PE X e Y) (U:PE X f tx) (m:M2 X o "get" B e f N):PE X (.Call (.Attribute o "get" B) [e,f] [] N) (FP W Y tx):=by
 intro i s j H Q I h;refine wpAny_Call_method m.base m.few m.line PySem.F.plainAttrs_dict PySem.F.slot_dict_get PySem.F.type_dict_get (thn (M i s j H _ I h) fun u L z26z=>?_);obtain⟨x,H1,n,J,a,E,d,G⟩:=z26z;subst E;obtain rfl:u=Q0 a:=J;obtain⟨p,T,_⟩:=Ai n d;refine⟨p,T,?_⟩;rw[m.trees];refine Calls.callWith_builtin rfl (Calls.evalArgs_plain (U2 (thn (he i L j H1 _ n G) fun iv s2 l=>l.el fun y A O C q =>
  U2 (thn (U i s2 j A _ O q) fun fv s3 ⟨z,S,w,rz,ov,g,R⟩=>X4 ?_))))
 exact CY Z w g C rz fun w' s4 P c=>⟨_,S,P,c,R⟩
end
noncomputable def aD(X:Cx) (a:ai7) (e:List (Str×K1)) (N:List Str) (C:K1) (s:J5) (H:Hp) (c:List K1):Cx where
 prog:=X.prog
 w:=X.w
 K:=X.K
 mg:=X.mg
 base:=X.base
 A:=X.A
 N:=N
 s₀:=s
 H₀:=H
 env:=compEnvC a e C X.env
 outer:=X.stack
 stack:=X.stack
 ex:=c
 calm:=X.calm
 fn:=fun _=>false
 pn:=[]
 xe:=fun _ _=>False
noncomputable def bS:List Bool->St->St
 |true::c,v::a=>v::bS c a
 |false::c,_::a=>none::bS c a
 |[],_::a=>none::bS [] a
 |_,[]=>[]
theorem bV:∀(ms:List Bool) (σ:St),(bS ms σ).length=σ.length
 |true::ms,v::σ=>by simp[bS,bV ms σ]
 |false::ms,_::σ=>by simp[bS,bV ms σ]
 |[],_::σ=>by simp[bS,bV [] σ]
 |[],[]=>by simp[bS]
 |true::_,[]=>by simp[bS]
 |false::_,[]=>by simp[bS]
theorem i6:∀{ms:List Bool}{σ:St}{i:Nat}{v:V},(bS ms σ)[i]?=some (some v)->ms[i]?=some true/\σ[i]?=some (some v)
 |true::ms,v::σ,0,x,h=>by simpa[bS]using h
 |true::ms,v::σ,i+1,x,h=>by
  have:=i6 (ms:=ms) (σ:=σ) (i:=i) (v:=x) (by simpa[bS]using h);simpa using this
 |false::ms,_::σ,0,x,h=>by simp[bS]at h
 |false::ms,_::σ,i+1,x,h=>by
  have:=i6 (ms:=ms) (σ:=σ) (i:=i) (v:=x) (by simpa[bS]using h);simpa using this
 |[],_::σ,0,x,h=>by simp[bS]at h
 |[],_::σ,i+1,x,h=>by
  have:=i6 (ms:=[]) (σ:=σ) (i:=i) (v:=x) (by simpa[bS]using h);simpa using this
 |[],[],_,_,h=>by simp[bS]at h
 |true::_,[],_,_,h=>by simp[bS]at h
 |false::_,[],_,_,h=>by simp[bS]at h
noncomputable def gg(ms:List Bool) (k:Nat) (σ:St):St:=bS ms σ++O0 k none
theorem xC{ms:List Bool}{k:Nat}{σ:St}{i:Nat}{v:V}(h:(gg ms k σ)[i]?=some (some v)):i<σ.length/\ms[i]?=some true/\σ[i]?=some (some v):=by
 unfold gg at h
 by_cases a:i<(bS ms σ).length
 ·rw[T0 a]at h;exact⟨by rwa [bV]at a,i6 h⟩
 ·rw[ab2 (by lia),ah6]at h
  split at h<;>cases h
structure dW(X:Cx) (scope:ai7) (cl:List (Str×K1)) (ms:List Bool) (aq:List Str):Prop where
 kind:scope.kind=.function
 ncell:∀y∈scope.names,y.2≠.cell
 names:∀y∈scope.names,y.2=.local->scope.names.lookup y.1=some .local
 clos:closureFor scope X.env=ak7 cl
 sub:∀x c,cl.lookup x=some c->X.env.cells.lookup x=some c
 has:∀x,scope.names.lookup x=some .free->∃c,cl.lookup x=some c
 fr:∀x,scope.names.lookup x=some .free->X.env.scope.names.lookup x=some .cell∨X.env.scope.names.lookup x=some .free
 mask:∀(i:Nat) (x:Str),ms[i]?=some true->X.N[i]?=some x->scope.names.lookup x=some .free
 mlen:ms.length<=X.N.length
theorem ku{env:Env}:∀{names:List (Str×W4)}{x:Str}{k:W4},
  (names.map fun(n,k)=>if(k==ac1&&env.scope.kind==.function&&env.kindOf n==some .cell)then(n,am4)else(n,k)).lookup x=some k->(∀y∈names,y.2≠.cell)->k=.cell∨k=.free->names.lookup x=some .free
 |[],_,_,h,_,_=>by simp at h
 |(n,c)::r,x,k,h,f,i=>by
  have ih:=@ku env r x k;have h:af8 x ((if(c==ac1&&env.scope.kind==.function&&env.kindOf n==some .cell)=true then(n,am4)else(n,c))::_)=some k:=h;cases e:x==n with
  |true =>
   by_cases a:(c==ac1&&env.scope.kind==.function&&env.kindOf n==some .cell)=true
   ·have:c=.free:=by
     simp at a;exact a.1.1
    subst this;simp[S6,e]
   ·rw[if_neg a]at h;simp only[S6,e]at h;cases h;rcases i with rfl|rfl
    ·exact absurd rfl (f (n,.cell) U1)
    ·simp[S6,e]
  |false =>
   by_cases a:(c==ac1&&env.scope.kind==.function&&env.kindOf n==some .cell)=true
   ·rw[if_pos a]at h;simp only[S6,e]at h ⊢;exact ih h (fun y g=>f y (P4 _ g)) i
   ·rw[if_neg a]at h;simp only[S6,e]at h ⊢;exact ih h (fun y g=>f y (P4 _ g)) i
theorem kQ{env:Env}:∀{names:List (Str×W4)}{x:Str},names.lookup x=some .free ->
  (names.map fun(n,k)=>if(k==ac1&&env.scope.kind==.function&&env.kindOf n==some .cell)then(n,am4)else(n,k)).lookup x=some .cell ∨
  (names.map fun(n,k)=>if(k==ac1&&env.scope.kind==.function&&env.kindOf n==some .cell)then(n,am4)else(n,k)).lookup x=some .free
 |[],_,h=>by simp at h
 |(n,c)::r,x,h=>by
  have ih:=@kQ env r x;show af8 x ((if(c==ac1&&env.scope.kind==.function&&env.kindOf n==some .cell)=true then(n,am4)else(n,c))::_)=_∨af8 x ((if(c==ac1&&env.scope.kind==.function&&env.kindOf n==some .cell)=true then(n,am4)else(n,c))::_)=_;cases a:x==n with
  |true =>
   simp only[S6,a]at h;cases h
   split
   ·left;simp[S6,a]
   ·right;simp[S6,a]
  |false =>
   simp only[S6,a]at h
   split<;>(simp only[S6,a];exact ih h)
section
variable{X:Cx}{Y:List (K1×Obj)}{σ:St}{H Z:Hp}{s s2:J5}{B:ai7}{W:List (Str×K1)}{ms:List Bool}{aq:List Str}
theorem vc(I:Inv X Y σ H s) (S:dW X B W ms aq) {fp:List K1}(a:∀b∈fp,dP X Y H b) (i:∀b∈fp,b<s.heap.objs.size) {C:K1}(j:s.heap.objs.size<=C) :
  (aD X B W (X.N++aq) C s H fp).Ok where
 mod:=I.ok.mod
 kind:=S.kind
 glob:=I.ok.glob
 blt:=I.ok.blt
 above:=j
 inj:=fun x y c m l=>I.ok.inj x y c (S.sub x c m) (S.sub y c l)
 has:=fun x f=>S.has x (ku (env:=X.env) (k:=if(aD X B W (X.N++aq) C s H fp).env.kindOf x=some .cell then .cell else .free) (by
  rcases f with f|f
  ·rw[if_pos f];exact f
  ·rw[if_neg (by rw[f];decide)];exact f) S.ncell (by split<;>simp))
 cab:=fun x c h=>by cases h
 hd:=I.ok.hd
 frames:=I.ok.frames
 stk:=.inl rfl
 exf:=fun b g=>⟨K9 (K7 (i b g) j),fun x c e=>(a b g).2.2.2.2.1 x c (S.sub x c e)⟩
 bs:=I.bs
 bsz:=K4 I.ok.bsz I.sz
 noex:=fun b o e g=>by
  rcases(a b g).2.2.2.1 with z|z
  ·exact I.ok.noex b o e z
  ·exact absurd (K7 (K6 e) (K4 I.ok.bsz z)) (af2 _)
 exfs:=fun b g z=>by
  rcases L1.mp (I.stkSub b z)with e|e
  ·exact(a b g).2.1 e
  ·exact(a b g).2.2.1 e
 funs:=I.stack
 frf:=I.stkFree
theorem wJ(I:Inv X Y σ H s) (S:dW X B W ms aq) {fp:List K1}(w:∀b∈fp,dP X Y H b) (h:∀b∈fp,b<s.heap.objs.size) {C:K1}(G:s.heap.objs.size<=C)
  (os:s2.os=s.os) (a:ar5 s2.gens) (keep:∀b o,s.heap.get? b=some o->s2.heap.get? b=some o) {m:Str->Option J3} (hn:s2.heap.Ns C m) :
  Inv (aD X B W (X.N++aq) C s H fp) [] (gg ms aq.length σ) H s2 where
 ok:=vc I S w h G
 os:=os
 bare:=a
 base:=Un.kept keep
 loc:=⟨m,hn,fun i x v O N Z=>by
  obtain⟨T,M,U⟩:=xC N;have A:i<X.N.length:=by rw[<-I.len];exact T
  have L:X.N[i]?=some x:=by
   have n:(X.N++aq)[i]?=some x:=O
   rwa [T0 A]at n
  have f:=S.mask i x M L;obtain⟨m0,P,Q⟩:=I.loc;obtain⟨u,r,l⟩:=Q i x v L U (by rcases S.fr x f with z|z<;>simp[Vis,z]);refine⟨u,r,.inr ⟨?_,?_⟩⟩
  ·exact kQ (env:=X.env) f
  ·obtain⟨c,J⟩:=S.has x f;have j:=S.sub x c J;rcases l with⟨k,_⟩|⟨_,c',e,z⟩
   ·rcases S.fr x f with z|z<;>(have E:X.env.scope.names.lookup x=some .local:=k;rw[z]at E;cases E)
   ·rw[j]at e;cases e;obtain⟨o,q,g⟩:=z;exact⟨c,J,o,keep _ _ q,g⟩⟩
 cell:=fun x c e=>by
  obtain⟨v,o,q,g⟩:=I.cell x c (S.sub x c e);exact⟨v,o,keep _ _ q,g⟩
 free:=I.hok.fresh G
 freeC:=fun x c e=>I.freeC x c (S.sub x c e)
 pin:=fun p R=>absurd (show p∈([]:List (K1×Obj))from R) (by simp)
 hok:=I.hok.kept keep
 len:=by
  unfold gg;rw[N7,bV,List.length_replicate,I.len];show _=(X.N++aq).length;rw[N7]
end
def PIf(X:Cx) (a:List O4) (t:TT):Prop :=
 ∀(f:List (K1×Obj)) (s:J5) (e:St) (H:Hp) (Q:Bool->Hp->Prop),Inv X f e H s->t e H Q ->
  K5 (N3 X.prog X.w) X.A (forIn a true fun c r=>if r=true then do let ok <-isTrue c X.env (af7 c X.env);ak7 (aa5 ok)else ak7 (aa5 r)) (TP X f e Q) X.xe s
def IU:TT:=fun _ H Q=>Q true H
theorem BJ{X:Cx}:PIf X [] IU:=fun _ _ _ H _ I h=>wpAny_tests_nil ⟨H,I,h⟩
theorem BM{X:Cx}{c:O4}{t:TT}(h:PT X c t):PIf X [c] t:=fun a s e H Q I q=>wpAny_tests_one (h a s e H Q I q)
noncomputable abbrev gD(its:List J3) (n:Nat):Obj:={ cls:=.type "list",data:=.seq its.toArray n }
theorem thF{c:Type}{t:Sem c}{Q f:c->J5->Prop}{M:Model}{A:O9}{E:J3->J5->Prop}{s:J5}(i:E=fun _ _=>False) (h:K5 M A t Q E s) (g:∀a s,Q a s->f a s):K5 M A t f (fun _ _=>False) s:=U6 h g fun e s x=>by rw[i]at x;exact x
noncomputable abbrev lcE(el:O4) (a:List ao9) (c:ai7) (ps:Pos):O4:=.ListComp el a c ps
section
variable{prog:M9}{w:P5}{A:O9}{R:at6->J5->Prop}{s:J5}{el N z i:O4}{fs:List O4}{k:Nat}{p:Pos}{it y:J3}{env:Env}{B:List ao9}{H:ai7}{ps:Pos}
abbrev AWt:=(J5->Prop)->J5->Prop
def wg(prog:M9) (w:P5) (A:O9) (z:O4) (y:J3) (env:Env):AWt:=fun Ok s=>K5 (N3 prog w) A (af7 z env) (fun x a=>K5 (N3 prog w) A (aw9 (.builtin "list.append") [y,x]) (fun _ c=>Ok c) (fun _ _=>False) a) (fun _ _=>False) s
def Gp(a:O4) (k:Nat) (p:Pos) (N:O4) (fs:List O4) (e:J3->J3->Env->Sem Fin):Prop:=∀it y env,compTurn a k it y env=(do
  standAt p
  let r <-ag3 it
  match r with
   |none=>ak7 (Fin.done Flow.next)
   |some v=>do
    aj2 N it v
    at0 N env v
    let ok <-forIn fs true fun c r=>if r=true then do let ok <-PySem.isTrue c env (af7 c env);ak7 (aa5 ok)else ak7 (aa5 r)
    if ok=true then e it y env else again (ar9 a k it y env))
def Gh(prog:M9) (w:P5) (A:O9) (e:O4) (k:Nat) (h:J3->J3->Env->Sem Fin) (it y:J3) (env:Env) (g:AWt):Prop :=
 ∀Ok s (R:at6->J5->Prop) (E:J3->J5->Prop),g Ok s->K5 (N3 prog w) A (h it y env) (fun a c=>match a with|.done f=>R (.ok f) c|.again i=>i=ar9 e k it y env/\Ok c) E s
theorem pf{z:J3->J3->Env->Sem Fin}{u:AWt}(C:Gp (lcE el B H ps) k p N fs z) (J:autoParam ((ar9 (lcE el B H ps) k it y env).quiet=true) L2.zq0._auto_1) (E:Gh prog w A (lcE el B H ps) k z it y env u) (I:Nat->J5->Prop)
  (l:∀ n s,I n s → K5 (N3 prog w) A (ag3 it) (fun r a => match r with
   |none=>R (.ok .next) a
   | some v => K5 (N3 prog w) A (aj2 N it v) (fun _ a => K5 (N3 prog w) A (at0 N env v) (fun _ g =>
     K5 (N3 prog w) A (forIn fs true fun c r=>if r=true then do let ok <-isTrue c env (af7 c env);ak7 (aa5 ok)else ak7 (aa5 r)) (fun ok f =>
      if ok=true then u (fun q=>∃m,m<n/\I m q) f
      else ∃m,m<n/\I m f) (fun _ _=>False) g) (fun _ _=>False) a) (fun _ _=>False) a) (fun _ _=>False) s)
  (n:Nat) (h:I n s) :
  ak4 (N3 prog w) A (.compLoop (lcE el B H ps) k it y env) R s:=by
 refine codeAny_loop J I (fun n s G=>?_) n h;show K5 _ A ((compTurn (lcE el B H ps) k it y env).onRaise (fun x=>do noteFrame x env;theTreesLotGoes x)) _ _ s;refine wpAny_noted ?_;rw[C];refine o0 (as0 (o0 (U6 (l n s G) (fun r a e=>?_) fun _ _ j=>j.elim)));cases r with
 |none=>exact J1 e
 |some v =>
  refine o0 (U6 e (fun _ L e=>?_) fun _ _ j=>j.elim);refine o0 (U6 e (fun _ g o=>o0 (U6 o (fun ok f i=>?_) fun _ _ j=>j.elim)) fun _ _ j=>j.elim);cases ok with
  |false=>exact J1 ⟨rfl,i⟩
  |true=>exact E _ _ _ _ i
noncomputable def DT(a:O4) (k:Nat) (z:O4):J3->J3->Env->Sem Fin:=fun it y env=>bind (bind (af7 z env) fun x=>bind (aw9 (J3.builtin "list.append") [y,x]) fun _=>ak7 ()) fun(_:Unit)=>again (ar9 a k it y env)
theorem DB:Gh prog w A (lcE el B H ps) k (DT (lcE el B H ps) k z) it y env (wg prog w A z y env):=fun Ok s R E h =>
 o0 (o0 (U6 h (fun x g a=>o0 (U6 a (fun _ f c=>J1 (J1 ⟨rfl,c⟩)) fun _ _ e=>e.elim)) fun _ _ e=>e.elim))
end
abbrev BK:=List V->St->Hp->(List V->St->Hp->Prop)->Prop
def rC(J:It) (g:TG) (tc:TT) (B:BK) (W:Nat->Nat->List V->St->Hp->Prop) (Z:List V->St->Hp->Prop):Prop :=
 ∀i m c j H,W i m c j H->c.length<=K0/\((J.stop i H/\Z c j H) ∨
  (J.go i H/\∀x f,J.yld i H x f->g x j f fun a o=>tc a o fun b n=>if b=true then B c a n (fun h l f=>∃e,e<m/\W (i+1) e h l f)else ∃e,e<m/\W (i+1) e c a n))
def tN(te:TE):BK:=fun c a H Z=>te a H fun y e=>Z (c++[y]) a e
section
variable{Y:Cx}{D:K1}{el W N i1:O4}{fs:List O4}{g:TG}{tc:TT}{te:TE}{wi:TI}{B:BK}{k:Nat}{p:Pos}{gs:List ao9}{sc:ai7}{ps:Pos}
def D9(Y:Cx) (D:K1) (i:AWt) (B:BK):Prop:=∀(P:List (K1×Obj)) (its:List J3) (j:Nat) (f:List V) (h:St) (H:Hp) (s:J5) (Z:List V->St->Hp->Prop),Inv Y ([(D,gD its j)]++P) h H s->ax f its->f.length<=K0->(∀p∈P,p.1≠D)->B f h H Z ->
 i (fun l=>∃c a m e g,Inv Y ([(D,gD a m)]++P) e g l/\ax c a/\Z c e g) s
structure pW(Y:Cx) (D:K1):Prop where
 pn:Y.pn=[]
 calm:Y.calm=true
 xe:Y.xe=fun _ _=>False
 ex:D∈Y.ex∨Y.s₀.heap.objs.size<=D
 cell:∀x c,Y.env.cells.lookup x=some c->c≠D
theorem AWt.mono_leaf{prog:M9}{w:P5}{A:O9}{c:J3}{env:Env}{Ok a:J5->Prop}{s:J5}(h:wg prog w A N c env Ok s) (k:∀s,Ok s->a s):wg prog w A N c env a s :=
 U6 h (fun _ _ e=>U6 e (fun _ _ f=>k _ f) fun _ _ x=>x) fun _ _ x=>x
theorem Bk(c:pW Y D) (he:PE Y N te):D9 Y D (wg Y.prog Y.w Y.A N (.ref D) Y.env) (tN te):=by
 intro P its x S j H s Z I B M u q;refine thF c.xe (he _ s j H _ I q) fun v A n=>n.el fun y w l G J=>?_;have a:=l.pin (D,gD its x) (N6 _ (Q8 _ U1));have m:its.toArray.size<=K0:=by rw[K3,<-B.length];exact M
 refine PySem.wpAny_list_append_plain (hsz:=m) ⟨x,a.1⟩ fun T f h=>?_;obtain⟨C,f⟩:=f;have i:Inv Y [] j w { A with heap:=T } :=
  Inv.turned (t':=A.toks) (it:=D) (l.pins_of fun p g=>absurd g (by simp)) (fun b o U e=>(h.2 b U).trans e) a.2.1 a.2.2.1 c.ex c.cell (fun p g=>absurd (show p∈([]:List (K1×Obj))from by rw[c.pn]at g;exact g) (by simp))
 refine⟨S++[y],its++[v],C,j,w,i.pins_of fun p g=>?_,B.append (.cons G .nil),J⟩;rcases L4.mp g with z|z
 ·have e:p=(D,gD (its++[v]) C):=K2.mp z;subst e;refine⟨?_,a.2.1,a.2.2.1,a.2.2.2.1,fun v z=>by cases z⟩;rw[f];simp[gD]
 ·obtain⟨O,Q,R,E,L⟩:=l.pin p (N6 _ (N6 _ z));exact⟨(h.2 _ (u p z)).trans O,Q,R,E,L⟩
structure Lv(Y:Cx) (D:K1) (ce:O4) (k:Nat) (p:Pos) (W:O4) (fs:List O4) (B:BK):Prop where
 ex:∃bd AW,Gp ce k p W fs bd/\(∀it,Gh Y.prog Y.w Y.A ce k bd it (.ref D) Y.env AW)/\D9 Y D AW B/\∀{Ok Ok':J5->Prop} {s:J5},AW Ok s->(∀s,Ok s->Ok' s)->AW Ok' s
theorem BD(c:pW Y D) (he:PE Y N te) (a:Gp (lcE el gs sc ps) k p W fs (DT (lcE el gs sc ps) k N)):Lv Y D (lcE el gs sc ps) k p W fs (tN te):=⟨_,_,a,fun _=>DB,Bk c he,AWt.mono_leaf⟩
theorem yk(c:pW Y D) (L:Lv Y D (lcE el gs sc ps) k p W fs B) {Q:K1}
  (hg:PG Y W g) (b4:PIf Y fs tc) {P:List (K1×Obj)} (b3:∀p∈P,p.1≠D)
  {its0:List J3} {nn0:Nat} {M:List V} {σ:St} {H:Hp} {s:J5} (I:Inv Y ([(D,gD its0 nn0)]++P) σ H s) (a':ax M its0) {j:List K1} {A:Nat->L5->Prop} {J2:It} (T:lZ Y.prog Y.w Y.K W J2 j Q A) (st:A 0 s.heap)
  (f:∀b∈j,dP Y ([(D,gD its0 nn0)]++P) H b) {W2:Nat->Nat->List V->St->Hp->Prop} {Z2:List V->St->Hp->Prop} {m0:Nat} (w0:W2 0 m0 M σ H) (O:rC J2 g tc B W2 Z2) {R:at6->J5->Prop}
  (hR:∀(s':J5) (w:List V) (its:List J3) (n:Nat) (a:St) (m:Hp),Inv Y ([(D,gD its n)]++P) a m s'->ax w its->w.length<=K0->Z2 w a m->R (.ok .next) s') :
  ak4 (N3 Y.prog Y.w) Y.A (.compLoop (lcE el gs sc ps) k (.ref Q) (.ref D) Y.env) R s:=by
 obtain⟨bd,AW,hT,q,hB,b0⟩:=L.ex;have G:∀{H:Hp} {n:Nat} {its:List J3},(∀b∈j,H b=none)->∀b∈j,dP Y ([(D,gD its n)]++P) H b:=fun hn b q=>by
  obtain⟨_,a1,a2,a3,a4,a5⟩:=f b q;refine⟨hn b q,a1,a2,a3,a4,fun p hp=>?_⟩;rw[c.pn,O8]at hp;rcases L4.mp hp with z|z
  ·obtain rfl:=K2.mp z;exact a5 (D,gD its0 nn0) (by rw[c.pn];simp)
  ·exact a5 p (by rw[c.pn];simp[z])
 refine pf hT rfl (q _) (fun n s'=>∃i w its C a m,Inv Y ([(D,gD its C)]++P) a m s'/\ax w its/\A i s'.heap/\(∀b∈j,m b=none)/\W2 i n w a m) ?_ m0
  ⟨0,M,its0,nn0,σ,H,I,a',st,fun b q=>(f b q).1,w0⟩
 rintro n s' ⟨i,w,its,C,a,m,I4,rv,S,N,w4⟩;obtain⟨hz,h⟩:=O i n w a m w4;rcases h with⟨stop,hZ⟩|⟨go,step⟩
 ·refine thn (T.done Y rfl rfl rfl c.calm i _ s' _ m (fun _ _=>False) I4 (G N) S stop) fun r s4 z28z=>?_;obtain⟨hr,I5⟩:=z28z;subst hr;exact hR s4 w its C a m I5 rv hz hZ
 ·refine thn (T.item Y rfl rfl rfl c.calm i _ s' _ m (fun _ _=>False) I4 (G N) S go) fun r s5 z29z=>?_;obtain⟨u,hr,h5⟩:=z29z;subst hr;refine thn h5 fun _ s6 z30z=>?_;obtain⟨x,H6,I6,r6,y6,J,b1⟩:=z30z;have a7:=I6.pinned (G b1) (T.obj _ _ J);refine thF c.xe (hg _ s6 _ H6 x u _ a7 r6 (step x H6 y6)) fun _ s7 z31z=>?_;obtain⟨E,H7,I7,q7⟩:=z31z;refine thF c.xe (b4 _ s7 E H7 _ I7 q7) fun ok s8 b2=>b2.el fun H8 I8 q8=>?_;have l:∀{its:List J3} {C:Nat} {Z:St} {H9:Hp} {s9:J5},Inv Y (([(D,gD its C)]++P)++jP j s6.heap) Z H9 s9->A (i+1) s9.heap/\∀b∈j,H9 b=none:=fun {its C Z H9 s9} I9 =>
   ⟨T.keep _ _ _ J fun b q o e=>(I9.pin (b,o) (N6 _ (N6 _ (du q e)))).1,fun b q=>by
    obtain⟨o,e,d⟩:=T.obj _ _ J b q;exact(I9.pin (b,o) (N6 _ (N6 _ (du q e)))).2.1⟩
  cases ok with
  |false =>
   obtain⟨m',hm,w8⟩:=q8;obtain⟨a8,b8⟩:=l I8;exact⟨m',hm,i+1,w,its,C,E,H8,I8.unpinned,rv,a8,b8,w8⟩
  |true =>
   have X:∀p∈P++jP j s6.heap,p.1≠D:=fun p hp=>by
    rcases L4.mp hp with z|z
    ·exact b3 p z
    ·have q:=(qm z).1;intro e;exact(f _ q).2.2.2.2.2 (D,gD its0 nn0) (by rw[c.pn];simp) e.symm
   refine b0 (hB (P++jP j s6.heap) its C w E H8 s8 _ (by rw[<-an2];exact I8) rv hz X q8) ?_;rintro s9 ⟨a0,U,n',a,m,I',a6,m',hm,w'⟩;rw[<-an2]at I';obtain⟨a9,b9⟩:=l I';exact⟨m',hm,i+1,a0,U,n',a,m,I'.unpinned,a6,a9,b9,w'⟩
end
section
variable{X:Cx}{ae:List (K1×Obj)}{σ Y:St}{H2 H':Hp}{s2 s':J5}{I:ai7}{cl:List (Str×K1)}{ms:List Bool}{aq:List Str}{elt t0 i0:O4}{f0:List O4}{gs:List ao9}{g0:TG}{tc0:TT}{B:BK}{p pos:Pos}
theorem qG(S:dW X I cl ms aq) (dh:X.calm=true)
  (a3:∀C s H A,PG (aD X I cl (X.N++aq) C s H A) t0 g0) (R:∀C s H A,PIf (aD X I cl (X.N++aq) C s H A) f0 tc0)
  (hL:∀C s H A D,pW (aD X I cl (X.N++aq) C s H A) D->Lv (aD X I cl (X.N++aq) C s H A) D (lcE elt (⟨t0,i0,f0,0⟩::gs) I pos) 0 p t0 f0 B)
  (q:Inv X ae σ H2 s2) {it:K1} {fp:List K1} {tn:Nat->L5->Prop} {J:It} (T:lZ X.prog X.w X.K t0 J fp it tn) (w:tn 0 s2.heap) (fz:∀b∈fp,dP X ae H2 b)
  {W:Nat->Nat->List V->St->Hp->Prop} {Z:List V->St->Hp->Prop} {m0:Nat} (w0:W 0 m0 [] (gg ms aq.length σ) H2) (O:rC J g0 tc0 B W Z)
  {RR:J3->K1->at6->J5->Prop} {E:J3->J5->Prop}
  (a1:∀ (s':J5) (L:List V) (its:List J3) (n:Nat) (Y:St) (H':Hp),Inv (aD X I cl (X.N ++ aq) (s2.heap.objs.size + 1) s2 H2 fp) [(s2.heap.objs.size,gD its n)] Y H' s' → ax L its → L.length ≤ K0 → Z L Y H' →
   RR (.ref s2.heap.objs.size) (s2.heap.objs.size+1) (.ok .next) s') :
  K5 (N3 X.prog X.w) X.A (newList []) (fun U g=>K5 (N3 X.prog X.w) X.A (newFunctionEnv I X.env.globals cl [] X.env.qual none .none (some X.env)) (fun m G =>
   ak4 (N3 X.prog X.w) X.A (.compStart (lcE elt (⟨t0,i0,f0,0⟩::gs) I pos) 0 (.ref it) U { m with scope:=relabel I X.env }) (RR U m.locals) G) E g) E s2:=by
 refine N0 (wpAny_newFunctionEnv S.ncell (by intro y hy;simp at hy) (fun h f a=>?_) S.kind);dsimp only at f a ⊢;have a4:(s2.heap.push { cls:=.type "list",dict:=none,data:=.seq ([]:List J3).toArray }).objs.size=s2.heap.objs.size+1:=by rw[R6]
 rw[a4]at f a ⊢;have j:∀b∈fp,b<s2.heap.objs.size:=fun b i=>by
  obtain⟨o,e,_⟩:=T.obj _ _ w b i;exact K6 e
 have u:∀b o,s2.heap.get? b=some o->h.get? b=some o:=fun b o e=>a.extBut b o (K9 (V1 (K6 e))) (u8 _ (u8 _ e));have M:h.get? s2.heap.objs.size=some (gD [] 0):=a.extBut _ _ (K9 (W8 _)) (u8 _ (J8 _ rfl));have a0:H2 s2.heap.objs.size=none:=q.hok.fresh (J7 _);have Q:∀b,s2.heap.objs.size<=b->b∉(aD X I cl (X.N++aq) (s2.heap.objs.size+1) s2 H2 fp).fs:=fun b i z=>by
  rcases L1.mp (q.stkSub b z)with e|e
  ·subst e;exact absurd (K7 q.lt i) (af2 _)
  ·exact q.nofs i e
 have l:∀g:J5,g={ s2 with heap:=h,toks:=s2.toks+([]:List (Str×J3)).length } ->
   ak4 (N3 X.prog X.w) X.A (.compLoop (lcE elt (⟨t0,i0,f0,0⟩::gs) I pos) 0 (.ref it) (.ref s2.heap.objs.size) (compEnvC I cl (s2.heap.objs.size+1) X.env)) (RR (.ref s2.heap.objs.size) (s2.heap.objs.size+1)) g:=by
  rintro g rfl;have I3:Inv (aD X I cl (X.N++aq) (s2.heap.objs.size+1) s2 H2 fp) [] (gg ms aq.length σ) H2 { s2 with heap:=h,toks:=s2.toks+([]:List (Str×J3)).length } :=
   wJ q S fz j (ap3 _) rfl q.bare u f
  have c:pW (aD X I cl (X.N++aq) (s2.heap.objs.size+1) s2 H2 fp) s2.heap.objs.size:=⟨rfl,dh,rfl,.inr (J7 _),fun x c e=>by
   obtain⟨v,o,ho,_⟩:=q.cell x c (S.sub x c e);exact K9 (K6 ho)⟩
  refine yk c (hL _ _ _ _ _ c) (a3 _ _ _ _) (R _ _ _ _) (P:=[]) (fun p N=>nomatch N) (its0:=[]) (nn0:=0) (I3.pins_of fun p N=>?_) .nil T (T.keep _ _ _ w fun b _ o e=>u b o e) (fun b i=>?_) w0 O ?_
  ·have e:p=(s2.heap.objs.size,gD [] 0):=K2.mp N;subst e;exact⟨M,a0,K9 (W8 _),Q _ (J7 _),fun v z=>by cases z⟩
  ·exact⟨(fz b i).1,K9 (V1 (j b i)),(vc q S fz j (ap3 _)).exfs b i,.inl i,fun x c e=>(fz b i).2.2.2.2.1 x c (S.sub x c e),fun p N=>by
    have:p=(s2.heap.objs.size,_):=K2.mp (show p∈[(s2.heap.objs.size,_)]from N);subst this;exact ac6 (j b i)⟩
  ·exact fun s' L its n Y H' I' rv hz hZ=>a1 s' L its n Y H' I' rv hz hZ
 exact codeAny_compStart_list (l _ rfl) (T.self _ 0 _ _ _ (T.keep _ _ _ w fun b _ o e=>u b o e) (l _ rfl))
end
section
variable{X:Cx}{ae:List (K1×Obj)}{σ σ':St}{H2 H':Hp}{s2 s':J5}{Y:ai7}{cl:List (Str×K1)}{ms:List Bool}{aq:List Str}{tg iter elt:O4}{ifs:List O4}{g:TG}{tc:TT}{te:TE}{pos p:Pos}{B:BK}{gs:List ao9}
theorem pT(M:Inv X ae σ H2 s2) {fp:List K1}(s:∀b∈fp,dP X ae H2 b) {its:List J3}{n:Nat}{l:List V}
  (i:Inv (aD X Y cl (X.N++aq) (s2.heap.objs.size+1) s2 H2 fp) [(s2.heap.objs.size,gD its n)] σ' H' s') (L:ax l its) (H:l.length<=K0) {h':L5} (hs:O6 (s2.heap.objs.size+1) s'.heap h') :
  Inv X ae σ (upd H' s2.heap.objs.size (.lst l)) { s' with heap:=h' }/\H' s2.heap.objs.size=none:=by
 have f:=i.pin (s2.heap.objs.size,gD its n) (N6 _ U1);have I:H' (s2.heap.objs.size+1)=none:=i.free;have C:H' s2.heap.objs.size=none:=f.2.1;have up:∀b o,b≠s2.heap.objs.size+1->s'.heap.get? b=some o->h'.get? b=some o:=fun b o a e=>(hs.2 b a).trans e;have j:∀b u,H' b=some u->b≠s2.heap.objs.size:=fun b u e z=>by rw[z,C]at e;cases e
 have E:∀b u,H' b=some u->b≠s2.heap.objs.size+1:=fun b u e z=>by rw[z,I]at e;cases e
 have p:h'.get? s2.heap.objs.size=some (gD its n):=up _ _ (K9 (W8 _)) f.1;have A:HOk X.prog X.w (upd H' s2.heap.objs.size (.lst l)) h':=fun b u e=>by
  by_cases a:b=s2.heap.objs.size
  ·subst a;rw[aK]at e;cases e;exact⟨H,its,n,L,p⟩
  ·rw[aO a]at e;refine(i.hok b u e).stay (fun c v x q=>up c v ?_ q) (fun c q=>by rw[aO (j c _ q)];exact q) fun c B q=>by rw[aO (j c _ q)];exact q
   rcases x with rfl|x
   ·exact E _ _ e
   ·exact E _ _ x
 have un:Un (frs X.stack) fp H2 (upd H' s2.heap.objs.size (.lst l)) s2.heap h':=by
  have U:=i.base;have w:∀b o,s2.heap.get? b=some o->b≠s2.heap.objs.size:=fun b o e=>K9 (K6 e);have h:∀b o,s2.heap.get? b=some o->b≠s2.heap.objs.size+1:=fun b o e=>K9 (V1 (K6 e));refine⟨fun b o e m a g=>up b o (h b o e) (U.keep b o e m a g),fun b o e m a g=>?_,fun b o e m g=>by rw[aO (w b o e)];exact U.free b o e m g,fun b o e g=>?_,
   fun b B e=>by have q:=U.tups b B e;rw[aO (j b _ q)];exact q,fun b o u e=>by have q:=U.frzs b o u e;rw[aO (j b _ q)];exact q,fun b N e=>?_⟩
  ·obtain⟨G,q⟩:=U.slot b o e m a g;exact⟨G,up b _ (h b o e) q⟩
  ·obtain⟨J,q⟩:=U.there b o e g;exact⟨J,up b _ (h b o e) q⟩
  ·obtain⟨more,q⟩:=U.tbls b N e;exact⟨more,by rw[aO (j b _ q)];exact q⟩
 exact⟨M.call' (s':={ s' with heap:=h' }) (ch:=fp) i.os un A i.bare fun b a=>⟨(s b a).2.2.2.1,(s b a).2.1,(s b a).2.2.2.2.1,(s b a).2.2.2.2.2⟩,C⟩
def FX(ms:List Bool) (k:Nat) (e:TI) (g:TG) (tc:TT) (B:BK):TE:=fun σ H Q=>e σ H fun J c=>∃(W:Nat->Nat->List V->St->Hp->Prop) (Z:List V->St->Hp->Prop),(∃m,W 0 m [] (gg ms k σ) c)/\rC J g tc B W Z /\
 ∀a σ' H p,Z a σ' H->H p=none->Q (.ref p) (upd H p (.lst a))
abbrev tLc(ms:List Bool) (k:Nat) (a:TI) (g:TG) (tc:TT) (te:TE):TE:=FX ms k a g tc (tN te)
abbrev LvC(X:Cx) (Y:ai7) (cl:List (Str×K1)) (aq:List Str) (c:O4) (p:Pos) (tg:O4) (ifs:List O4) (B:BK):Prop:=∀C s H a D,pW (aD X Y cl (X.N++aq) C s H a) D->Lv (aD X Y cl (X.N++aq) C s H a) D c 0 p tg ifs B
theorem Eu(S:dW X Y cl ms aq) (L:X.calm=true) {u:TI}(G:PI X tg iter u)
  (hg:∀C s H c,PG (aD X Y cl (X.N++aq) C s H c) tg g) (j:∀C s H c,PIf (aD X Y cl (X.N++aq) C s H c) ifs tc) (N:LvC X Y cl aq (lcE elt (⟨tg,iter,ifs,0⟩::gs) Y pos) p tg ifs B)
  (hs:autoParam (∀x,Z7 iter X.env x=ak7 x) L2.zq2._auto_1):PE X (lcE elt (⟨tg,iter,ifs,0⟩::gs) Y pos) (FX ms aq.length u g tc B):=by
 intro ae s σ H Q I h;rw[eval_ListComp];refine wpAny_comprehension_free (use:=none) rfl hs S.clos S.kind S.names (thn (G ae s σ H _ I h) fun v s1 h1=>thn h1 fun O s2 E=>?_);obtain⟨it,fp,tn,J,H2,e,o,T,l,w,W,Z,⟨m0,w0⟩,a,q⟩:=E;subst e;refine qG S L hg j N o T l w w0 a (RR:=fun i C=>compPost (N3 X.prog X.w) X.A X.xe none (EP X ae σ Q) i C) ?_;intro s' ys its n σ' H' z rv R M;obtain⟨m,P,_⟩:=z.loc;refine⟨m,P,fun h' f=>?_⟩;obtain⟨A,U⟩:=pT o w z rv R f;exact⟨.ref s2.heap.objs.size,_,A,rfl,q ys _ H' _ M U⟩
theorem yf{i:Nat}{x:Str}{j f:Pos}(hN:X.N.Nodup) (a0:X.N[i]?=some x) (hx:X.env.scope.names.lookup x=some .local)
  (N:ak9 (lcE elt (⟨tg,iter,ifs,0⟩::gs) Y pos) (some (.Name x f)) j.line X.env=ak7 true)
  (S:dW X Y cl ms aq) (dh:X.calm=true) {wi:TI} (hi:PI X tg iter wi)
  (hg:∀C s H L,PG (aD X Y cl (X.N++aq) C s H L) tg g) (a3:∀C s H L,PIf (aD X Y cl (X.N++aq) C s H L) ifs tc) (R:LvC X Y cl aq (lcE elt (⟨tg,iter,ifs,0⟩::gs) Y pos) p tg ifs B)
  (hs:autoParam (∀x,Z7 iter X.env x=ak7 x) L2.zq2._auto_1):PS X (.Assign [.Name x f] (lcE elt (⟨tg,iter,ifs,0⟩::gs) Y pos) j) (Fu (FX ms aq.length wi g tc B) (uk i)):=by
 intro ae s σ H D I h;rw[exec_Assign_Name_used _ _ _ _ N];refine o0 (as0 (o0 ?_));show K5 _ _ (do let _ <-comprehension (lcE elt (⟨tg,iter,ifs,0⟩::gs) Y pos) Y X.env _ (newList []) false (af7 iter X.env) (some (at0 (.Name x f) X.env))) _ _ s;refine o0 (U6 (wpAny_comprehension_free (use:=some (at0 (.Name x f) X.env)) (Q:=fun _ s'=>SP X ae D .next s') rfl hs S.clos S.kind S.names
  (thn (hi ae s σ H _ I h) fun v s1 h1=>thn h1 fun a5 s2 h2=>?_)) (fun _ s' hq=>J1 (J1 hq)) fun _ _ e=>e)
 obtain⟨it,fp,tn,J,H2,e,l,T,a4,f2,W,Z,⟨m0,w0⟩,w,q⟩:=h2;subst e;refine qG S dh hg a3 R l T a4 f2 w0 w (RR:=fun a2 C=>compPost (N3 X.prog X.w) X.A X.xe (some (at0 (.Name x f) X.env)) (fun _ s'=>SP X ae D .next s') a2 C) ?_;intro s' ys its n σ' H' I' rv hz hZ;obtain⟨m,hm,_⟩:=I'.loc;obtain⟨I3,hD⟩:=pT l f2 I' rv hz (O6.refl (s2.heap.objs.size+1) s'.heap);have hq:=q ys _ H' _ hZ hD;show K5 _ _ (at0 (.Name x f) X.env (.ref s2.heap.objs.size)) _ _ _;refine wpAny_assign_Name (qj I3 hN a0 (.inl hx) (v:=.ref s2.heap.objs.size) rfl (fun s4 I4 u=>?_) (.inr hx));obtain⟨a,G,E⟩:=u;have A:s2.heap.objs.size+1≠X.env.locals:=ac6 (V1 l.lt);have a1:s2.heap.objs.size+1≠a:=by
  rcases E with rfl|E
  ·exact A
  ·intro z;obtain⟨v,o,O,_⟩:=l.cell x a E;exact absurd (V1 (K6 O)) (by rw[<-z];exact af2 _)
 have P:upd H' s2.heap.objs.size (.lst ys) (s2.heap.objs.size+1)=none:=by rw[aO (ac6 (W8 _))];exact I'.free
 refine⟨m,hm.sameBut G a1,fun M U=>?_⟩;refine⟨_,_,?_,hq⟩;have R:∀b o,b≠s2.heap.objs.size+1->s4.heap.get? b=some o->M.get? b=some o:=fun b o hb e=>(U.2 b hb).trans e;have I5:=Inv.turned (t':=s4.toks) (h':=M) (it:=s2.heap.objs.size+1) I4 (fun b o hb e=>R b o hb e) P A (.inr (P9 l.sz)) (fun y c e=>by
  obtain⟨v,o,O,_⟩:=l.cell y c e;exact K9 (V1 (K6 O))) (fun p hp=>by
  exact K9 (V1 (K6 (l.pin p hp).1)))
 exact I5
theorem ze(he:∀C s H a,PE (aD X Y cl (X.N++aq) C s H a) elt te):LvC X Y cl aq (lcE elt [⟨tg,iter,ifs,0⟩] Y pos) iter.pos tg ifs (tN te):=fun _ _ _ _ _ c=>BD c (he _ _ _ _) fun _ _ _=>rfl
end
set_option genInjectivity false in
inductive Bx where
 |dk (ks:List Key)|dt (ks:List (List Key))|ins (C:K1) (fs:List Str)|key
 |obj (a:K1) (φ:List V->L5->Prop)
 deriving Inhabited
inductive D where
 |non|bl (b:Bool)|int (i:Int)|str (x:Str)|tup (ds:List D)|lst (ds:List D)|scr (ds:List D)|emp|ref (a:K1)|box (t:Bx) (ds:List D)
 deriving Inhabited
inductive HD where
 |lst (ds:List D)|dK (kvs:List (Key×D))|dT (kvs:List (List Key×D))|dKr (o:Obj) (ks:List (Key×V)) (kvs:List (Key×D))|ins (C:K1) (fs:List (Str×D))
 |ext (φ:List V->L5->Prop) (ds:List D)
 deriving Inhabited
abbrev DH:=K1->Option HD
noncomputable def aN(M:DH) (a:K1) (o:HD):DH:=fun b=>if b=a then some o else M b
noncomputable def jO(M:DH) (a:K1):DH:=fun b=>if b=a then none else M b
noncomputable abbrev noM:DH:=fun _=>none
theorem aA{M:DH}{a:K1}{o:HD}:aN M a o a=some o:=if_pos rfl
theorem av{M:DH}{a b:K1}{o:HD}(h:b≠a):aN M a o b=M b:=if_neg h
theorem n9{M:DH}{a:K1}{o u:HD}:aN (aN M a o) a u=aN M a u:=by
 funext b;unfold aN;split<;>rfl
theorem iZ{M:DH}{a:K1}:jO M a a=none:=if_pos rfl
theorem wV{M:DH}{a b:K1}(h:b≠a):jO M a b=M b:=if_neg h
theorem iD{M:DH}{a:K1}{o:HD}(h:M a=none):jO (aN M a o) a=M:=by
 funext b;unfold jO aN;split
 ·rename_i e;rw[e,h]
 ·rfl
def pX(K:J4) (M:DH) (H:Hp) (a:K1) (c:List V):Prop:=(Rd H a (.tup c)/\M a=none)∨SqT K (fun _=>none) a c
def xn(M:DH) (H:Hp) (a:K1) (c:List V):Prop:=H a=some (.lst c)/\M a=none
def qE(K:J4) (M:DH) (H:Hp) (a:K1) (c:List V):Prop:=((∃o,H a=some (.frz o (.lst c)))/\M a=none)∨SqL K (fun _=>none) a c
def IM(M:DH) (H:Hp) (a:K1):Prop:=H a=some (.dK [])/\M a=none
def pZ(M:DH) (H:Hp) (a:K1):Bx->List V->Prop
 |.dk e,c=>e.length=c.length/\(∃o,H a=some (.frz o (.dK (e.zip c))))/\M a=none
 |.dt e,c=>e.length=c.length/\(∃o,H a=some (.frz o (.dT (e.zip c))))/\M a=none
 |.ins C fs,c=>fs.length=c.length/\(∃g,H a=some (.ins C g (fs.zip c)))/\M a=none
 |.key,c=>True/\(∃f:Unit,H a=some (.tup c))/\M a=none
 |.obj b h,c=>a=b/\(∃f:Unit,H a=some (.ext (h c)))/\M a=none
mutual
def Rep(K:J4) (M:DH) (H:Hp):D->V->Prop
 |.non,v=>v=.non
 |.bl b,v=>v=.bl b
 |.int i,v=>v=.int i
 |.str x,v=>v=.str x
 |.tup e,v=>∃a c,v=.ref a/\pX K M H a c/\am K M H e c
 |.lst e,v=>∃a c,v=.ref a/\xn M H a c/\am K M H e c
 |.scr e,v=>∃a c,v=.ref a/\qE K M H a c/\am K M H e c
 |.emp,v=>∃a,v=.ref a/\IM M H a
 |.ref a,v=>v=.ref a
 |.box t e,v=>∃a c,v=.ref a/\pZ M H a t c/\am K M H e c
def am(K:J4) (M:DH) (H:Hp):List D->List V->Prop
 |[],a=>a=[]
 |d::e,a=>∃v c,a=v::c/\Rep K M H d v/\am K M H e c
end
def Ext(M:DH) (H:Hp) (e:DH) (c:Hp):Prop:=∀a o,H a=some o->M a=none->c a=some o/\e a=none
theorem Ext.refl(M:DH) (H:Hp):Ext M H M H:=fun _ _ h n=>⟨h,n⟩
theorem Ext.trans{M M1 M2:DH}{H f e:Hp}(a:Ext M H M1 f) (b:Ext M1 f M2 e):Ext M H M2 e:=fun c o h n=>b c o (a c o h n).1 (a c o h n).2
variable{K:J4}{M M' M1 M2:DH}{H H' H1 H2:Hp}
theorem pX.ext{a:K1}{c:List V}(h:pX K M H a c) (e:Ext M H M' H'):pX K M' H' a c:=by
 rcases h with⟨r|⟨o,r⟩,n⟩|h
 ·exact .inl ⟨.inl (e a _ r n).1,(e a _ r n).2⟩
 ·exact .inl ⟨.inr ⟨o,(e a _ r n).1⟩,(e a _ r n).2⟩
 ·exact .inr h
theorem xn.ext{a:K1}{c:List V}(h:xn M H a c) (e:Ext M H M' H'):xn M' H' a c:=e a _ h.1 h.2
theorem qE.ext{a:K1}{c:List V}(h:qE K M H a c) (e:Ext M H M' H'):qE K M' H' a c:=by
 rcases h with⟨⟨o,r⟩,n⟩|h
 ·exact .inl ⟨⟨o,(e a _ r n).1⟩,(e a _ r n).2⟩
 ·exact .inr h
theorem pZ.ext{a:K1}{t:Bx}{c:List V}(h:pZ M H a t c) (e:Ext M H M' H'):pZ M' H' a t c:=by
 cases t<;>(obtain⟨l,⟨o,r⟩,n⟩:=h;exact⟨l,⟨o,(e a _ r n).1⟩,(e a _ r n).2⟩)
mutual
theorem Rep.ext:∀{d:D}{v:V},Rep K M H d v->Ext M H M' H'->Rep K M' H' d v
 |.non,_,h,_=>h
 |.bl _,_,h,_=>h
 |.int _,_,h,_=>h
 |.str _,_,h,_=>h
 |.ref _,_,h,_=>h
 |.emp,_,h,e=>by
  simp only[Rep]at h ⊢;obtain⟨a,rfl,f,c⟩:=h;exact⟨a,rfl,e a _ f c⟩
 |.tup i,_,h,e=>by
  simp only[Rep]at h ⊢;obtain⟨a,g,rfl,f,c⟩:=h;exact⟨a,g,rfl,f.ext e,am.ext c e⟩
 |.lst i,_,h,e=>by
  simp only[Rep]at h ⊢;obtain⟨a,g,rfl,f,c⟩:=h;exact⟨a,g,rfl,f.ext e,am.ext c e⟩
 |.scr i,_,h,e=>by
  simp only[Rep]at h ⊢;obtain⟨a,g,rfl,f,c⟩:=h;exact⟨a,g,rfl,f.ext e,am.ext c e⟩
 |.box t i,_,h,e=>by
  simp only[Rep]at h ⊢;obtain⟨a,g,rfl,f,c⟩:=h;exact⟨a,g,rfl,f.ext e,am.ext c e⟩
theorem am.ext:∀{ds:List D}{a:List V},am K M H ds a->Ext M H M' H'->am K M' H' ds a
 |[],_,h,_=>h
 |d::ds,_,h,e=>by
  simp only[am]at h ⊢;obtain⟨v,c,rfl,g,f⟩:=h;exact⟨v,c,rfl,Rep.ext g e,am.ext f e⟩
end
theorem am.length:∀{ds:List D}{a:List V},am K M H ds a->ds.length=a.length
 |[],_,h=>by simp only[am]at h;subst h;rfl
 |d::ds,_,h=>by
  simp only[am]at h;obtain⟨v,e,rfl,f,c⟩:=h;simp[am.length c]
theorem am.nil:am K M H [] []:=by simp[am]
theorem am.cons{d:D}{v:V}{ds:List D}{a:List V}(h:Rep K M H d v) (t:am K M H ds a):am K M H (d::ds) (v::a):=by
 simp only[am];exact⟨v,a,rfl,h,t⟩
theorem am.append:∀{ds a:List D}{c ws:List V},am K M H ds c->am K M H a ws->am K M H (ds++a) (c++ws)
 |[],_,_,_,h,t=>by simp only[am]at h;subst h;exact t
 |d::ds,a,_,ws,h,t=>by
  simp only[am]at h;obtain⟨v,g,rfl,f,e⟩:=h;exact am.cons f (am.append e t)
theorem am.get:∀{ds:List D}{f:List V}{i:Nat}{d:D},am K M H ds f->ds[i]?=some d->∃v,f[i]?=some v/\Rep K M H d v
 |[],_,_,_,_,e=>by simp at e
 |d::ds,_,0,x,h,e=>by
  simp only[am]at h;obtain⟨v,j,rfl,g,c⟩:=h;simp at e;subst e;exact⟨v,rfl,g⟩
 |d::ds,_,i+1,x,h,e=>by
  simp only[am]at h;obtain⟨v,j,rfl,g,c⟩:=h;obtain⟨w,a,b⟩:=am.get (i:=i) (d:=x) c (by simpa using e);exact⟨w,by simpa using a,b⟩
theorem am.take:∀{ds:List D}{a:List V}(n:Nat),am K M H ds a->am K M H (ds.take n) (a.take n)
 |ds,a,0,_=>by simp[am]
 |[],_,n+1,h=>by simp only[am]at h;subst h;simp[am]
 |d::ds,_,n+1,h=>by
  simp only[am]at h;obtain⟨v,f,rfl,e,c⟩:=h;exact am.cons e (am.take n c)
theorem am.drop:∀{ds:List D}{a:List V}(n:Nat),am K M H ds a->am K M H (ds.drop n) (a.drop n)
 |ds,a,0,h=>h
 |[],_,n+1,h=>by simp only[am]at h;subst h;simp[am]
 |d::ds,_,n+1,h=>by
  simp only[am]at h;obtain⟨v,e,rfl,f,c⟩:=h;exact am.drop n c
theorem am.set:∀{ds:List D}{e:List V}{d:D}{v:V}(n:Nat),am K M H ds e->Rep K M H d v->am K M H (ds.set n d) (e.set n v)
 |[],_,_,_,n,h,r=>by simp only[am]at h;subst h;simp[am]
 |d::ds,_,_,_,0,h,r=>by
  simp only[am]at h;obtain⟨v,f,rfl,c,a⟩:=h;exact am.cons r a
 |d::ds,_,_,_,n+1,h,r=>by
  simp only[am]at h;obtain⟨v,f,rfl,c,a⟩:=h;exact am.cons c (am.set n a r)
theorem am.one{d:D}{a:List V}(h:am K M H [d] a):∃v,a=[v]/\Rep K M H d v:=by
 simp only[am]at h;obtain⟨v,e,rfl,c,rfl⟩:=h;exact⟨v,rfl,c⟩
theorem am.two{d e:D}{a:List V}(h:am K M H [d,e] a):∃v w,a=[v,w]/\Rep K M H d v/\Rep K M H e w:=by
 simp only[am]at h;obtain⟨v,i,rfl,f,w,g,rfl,c,rfl⟩:=h;exact⟨v,w,rfl,f,c⟩
def KR(K:J4) (M:DH) (H:Hp) {κ:Type}:List (κ×D)->List (κ×V)->Prop:=ad0 fun p q=>p.1=q.1/\Rep K M H p.2 q.2
theorem KR.ext{κ:Type}{a:List (κ×D)}{ks:List (κ×V)}(h:KR K M H a ks) (e:Ext M H M' H'):KR K M' H' a ks:=ad0.imp' (fun _ _ r=>⟨r.1,r.2.ext e⟩) h
def mr(K:J4) (M:DH) (H:Hp) (a:K1):HD->Prop
 |.lst g=>∃f,H a=some (.lst f)/\am K M H g f
 |.dK c=>∃e,H a=some (.dK e)/\KR K M H c e
 |.dT c=>∃e,H a=some (.dT e)/\KR K M H c e
 |.dKr o e c=>∃l:Unit,H a=some (.frz o (.dK e))/\KR K M H c e
 |.ins C fs=>∃h,(∃i,H a=some (.ins C i h))/\KR K M H fs h
 |.ext j g=>∃f,H a=some (.ext (j f))/\am K M H g f
def HR(K:J4) (M:DH) (H:Hp):Prop:=∀a o,M a=some o->mr K M H a o
theorem mr.some{a:K1}{o:HD}(h:mr K M H a o):∃u,H a=T7 u/\∀xs,u≠.tup xs/\∀c,u≠.frz c (.tup xs):=by
 cases o with
 |ins C fs=>obtain⟨e,⟨g,r⟩,_⟩:=h;exact⟨_,r,fun xs=>⟨(by intro z;cases z),(by intro c z;cases z)⟩⟩
 |_=>obtain⟨f,r,_⟩:=h;exact⟨_,r,fun xs=>⟨(by intro z;cases z),(by intro c z;cases z)⟩⟩
theorem mr.keep{a:K1}{o:HD}(h:mr K M H a o) (e:Ext M H M' H') (q:H' a=H a):mr K M' H' a o:=by
 cases o with
 |ins C fs=>obtain⟨c,⟨f,r⟩,t⟩:=h;exact⟨c,⟨f,by rw[q];exact r⟩,t.ext e⟩
 |_=>obtain⟨g,r,t⟩:=h;exact⟨g,by rw[q];exact r,t.ext e⟩
theorem HR.fresh(h:HR K M H) {p:K1}(e:H p=none):M p=none:=by
 cases q:M p with
 |none=>rfl
 |some o =>
  obtain⟨u,r,_⟩:=(h p _ q).some;rw[e]at r;cases r
theorem HR.nil:HR K noM H:=fun _ _ h=>nomatch h
theorem Ext.new{p:K1}{o:HO}(hr:HR K M H) (h:H p=none):Ext M H M (upd H p o):=fun a u e n=>by
 have:a≠p:=cp e h;rw[aO this];exact⟨e,n⟩
theorem HR.ext1(h:HR K M H) (e:Ext M H M H') (keep:∀a o,M a=some o->H' a=H a):HR K M H':=fun a o q=>(h a o q).keep e (keep a o q)
theorem HR.new{p:K1}{o:HO}(hr:HR K M H) (h:H p=none):HR K M (upd H p o):=hr.ext1 (Ext.new hr h) fun a u q=>by
 have:a≠p:=fun z=>by rw[z,hr.fresh h]at q;cases q
 rw[aO this]
theorem Ext.own{p:K1}{o:HO}{u:HD}(h:H p=none):Ext M H (aN M p u) (upd H p o):=fun a x e n=>by
 have:a≠p:=cp e h;rw[aO this,av this];exact⟨e,n⟩
theorem HR.put{p:K1}{o:HO}{u:HD}(hr:HR K M H) (e:Ext M H (aN M p u) (upd H p o)) (c:mr K (aN M p u) (upd H p o) p u):HR K (aN M p u) (upd H p o):=fun a w q=>by
 by_cases z:a=p
 ·subst z;rw[aA]at q;cases q;exact c
 ·rw[av z]at q;exact(hr a w q).keep e (aO z)
theorem HR.own{p:K1}{ds:List D}{a:List V}(hr:HR K M H) (h:H p=none) (r:am K M H ds a):HR K (aN M p (.lst ds)) (upd H p (.lst a)) :=
 hr.put (Ext.own h) ⟨a,aK,r.ext (Ext.own h)⟩
theorem Ext.write{a:K1}{o:HO}{u w:HD}(h:M a=some w):Ext M H (aN M a u) (upd H a o):=fun b x e n=>by
 have:b≠a:=fun z=>by rw[z,h]at n;cases n
 rw[aO this,av this];exact⟨e,n⟩
theorem HR.write{a:K1}{w:HD}{ds:List D}{c:List V}(hr:HR K M H) (h:M a=some w) (r:am K M H ds c):HR K (aN M a (.lst ds)) (upd H a (.lst c)) :=
 hr.put (Ext.write h) ⟨c,aK,r.ext (Ext.write h)⟩
def LeM(M1 M:DH):Prop:=∀a o,M1 a=some o->M a=some o
theorem LeM.none(h:LeM M1 M) {a:K1}(n:M a=none):M1 a=none:=by
 cases q:M1 a with
 |none=>rfl
 |some o=>rw[h a o q]at n;cases n
theorem LeM.refl:LeM M M:=fun _ _ h=>h
theorem LeM.no:LeM noM M:=fun _ _ h=>nomatch h
theorem LeM.del{a:K1}:LeM (jO M a) M:=fun b o h=>by
 unfold jO at h;split at h
 ·cases h
 ·exact h
theorem Ext.le(h:LeM M1 M):Ext M H M1 H:=fun a o e n=>⟨e,h.none n⟩
theorem HR.le(hr:HR K M H) (h:LeM M1 M):HR K M1 H:=fun a o q=>(hr a o (h a o q)).keep (Ext.le h) rfl
theorem Rep.froze(hr:HR K M H) (h:LeM M1 M) {a:K1}{ds:List D}(e:M a=some (.lst ds)) (n:M1 a=none):Rep K M1 H (.lst ds) (.ref a):=by
 obtain⟨c,r,t⟩:=hr a _ e;simp only[Rep];exact⟨a,c,rfl,⟨r,n⟩,t.ext (Ext.le h)⟩
abbrev DE:=List (Option D)
def SR(K:J4) (M:DH) (H:Hp) (σ:St) (a:DE):Prop:=σ.length=a.length/\∀(i:Nat) (d:D),a[i]?=some (some d)->∃v,σ[i]?=some (some v)/\Rep K M H d v
theorem SR.ext{σ:St}{c:DE}(h:SR K M H σ c) (e:Ext M H M' H'):SR K M' H' σ c:=⟨h.1,fun i d q=>let⟨v,a,r⟩:=h.2 i d q;⟨v,a,r.ext e⟩⟩
theorem SR.set{σ:St}{a:DE}{d:D}{v:V}(h:SR K M H σ a) (i:Nat) (r:Rep K M H d v):SR K M H (σ.set i (some v)) (a.set i (some d)):=by
 refine⟨by simp[h.1],fun j e q=>?_⟩
 by_cases f:j=i
 ·subst f
  by_cases c:j<a.length
  ·rw[ab4 c]at q;cases q;exact⟨v,ab4 (by rw[h.1];exact c),r⟩
  ·rw[Q5 (by simp;lia)]at q;cases q
 ·rw[ag4 (ab6 f)]at q ⊢;exact h.2 j e q
abbrev TEd:=DE->DH->(D->DH->Prop)->Prop
abbrev TAd:=DE->DH->(List D->DH->Prop)->Prop
abbrev TTd:=DE->DH->(Bool->DH->Prop)->Prop
structure fT where
 nx:DE->DH->Prop
 rt:D->DH->Prop
 bk:DE->DH->Prop:=fun _ _=>False
 ct:DE->DH->Prop:=fun _ _=>False
abbrev TSd:=fT->DE->DH->Prop
def up(K:J4) (t:TEd):TE:=fun c H Q=>∃(a:DE) (M:DH) (R:D->DH->Prop),SR K M H c a/\HR K M H/\t a M R /\
 ∀d M' v H',R d M'->Ext M H M' H'->HR K M' H'->Rep K M' H' d v->Q v H'
def upA(K:J4) (t:TAd):TA:=fun f H Q=>∃(a:DE) (M:DH) (R:List D->DH->Prop),SR K M H f a/\HR K M H/\t a M R /\
 ∀c M' e H',R c M'->Ext M H M' H'->HR K M' H'->am K M' H' c e->Q e H'
def upT(K:J4) (t:TTd):TT:=fun c H Q=>∃(a:DE) (M:DH) (R:Bool->DH->Prop),SR K M H c a/\HR K M H/\t a M R /\
 ∀b M' H',R b M'->Ext M H M' H'->HR K M' H'->Q b H'
theorem upT.el{K:J4}{t:TTd}{σ:St}{H:Hp}{Q:Bool->Hp->Prop}{P:Prop}(h:upT K t σ H Q) (f:∀(e:DE) (M:DH) (R:Bool->DH->Prop),SR K M H σ e->HR K M H->t e M R->(∀b M' H',R b M'->Ext M H M' H'->HR K M' H'->Q b H')->P):P:=by
 obtain⟨g,j,i,a,b,c,d⟩:=h;exact f g j i a b c d
theorem up.el{K:J4}{t:TEd}{σ:St}{H:Hp}{Q:VK}{P:Prop}(h:up K t σ H Q) (f:∀(e:DE) (M:DH) (R:D->DH->Prop),SR K M H σ e->HR K M H->t e M R->(∀d M' v H',R d M'->Ext M H M' H'->HR K M' H'->Rep K M' H' d v->Q v H')->P):P:=by
 obtain⟨g,j,i,a,b,c,d⟩:=h;exact f g j i a b c d
theorem upA.el{K:J4}{t:TAd}{σ:St}{H:Hp}{Q:List V->Hp->Prop}{P:Prop}(h:upA K t σ H Q) (f:∀(e:DE) (M:DH) (R:List D->DH->Prop),SR K M H σ e->HR K M H->t e M R->(∀ds M' g H',R ds M'->Ext M H M' H'->HR K M' H'->am K M' H' ds g->Q g H')->P):P:=by
 obtain⟨i,l,j,a,b,c,d⟩:=h;exact f i l j a b c d
structure UpE(K:J4) (E:fT) (D:ur) (M:DH) (H:Hp):Prop where
 nx:∀ Δ' M' σ' H',E.nx Δ' M'->Ext M H M' H'->HR K M' H'->SR K M' H' σ' Δ'->D.nx σ' H'
 bk:∀ Δ' M' σ' H',E.bk Δ' M'->Ext M H M' H'->HR K M' H'->SR K M' H' σ' Δ'->D.bk σ' H'
 ct:∀ Δ' M' σ' H',E.ct Δ' M'->Ext M H M' H'->HR K M' H'->SR K M' H' σ' Δ'->D.ct σ' H'
 rt:∀d M' v H',E.rt d M'->Ext M H M' H'->HR K M' H'->Rep K M' H' d v->D.rt v H'
theorem UpE.ext{E:fT}{D:ur}(u:UpE K E D M H) (e:Ext M H M' H'):UpE K E D M' H' :=
 ⟨fun a b c d h x=>u.nx a b c d h (e.trans x),fun a b c d h x=>u.bk a b c d h (e.trans x),fun a b c d h x=>u.ct a b c d h (e.trans x),fun a b c d h x=>u.rt a b c d h (e.trans x)⟩
def upS(K:J4) (t:TSd):TS:=fun D c H=>∃(a:DE) (M:DH) (E:fT),SR K M H c a/\HR K M H/\t E a M/\UpE K E D M H
theorem upS.el{K:J4}{t:TSd}{E:ur}{σ:St}{H:Hp}{P:Prop}(h:upS K t E σ H) (f:∀(e:DE) (M:DH) (R:fT),SR K M H σ e->HR K M H->t R e M->UpE K R E M H->P):P:=by
 obtain⟨i,g,j,a,b,c,d⟩:=h;exact f i g j a b c d
def PEd(X:Cx) (e:O4) (t:TEd):Prop:=PE X e (up X.K t)
def PAd(X:Cx) (a:List O4) (t:TAd):Prop:=PA X a (upA X.K t)
def PTd(X:Cx) (e:O4) (t:TTd):Prop:=PT X e (upT X.K t)
def PWd(X:Cx) (e:O4) (t:TTd):Prop:=PW X e (upT X.K t)
def PSd(X:Cx) (st:ae4) (t:TSd):Prop:=PS X st (upS X.K t)
def Dj(X:Cx) (st:List ae4) (t:TSd):Prop:=PSs X st (upS X.K t)
theorem PE.conv{X:Cx}{e:O4}{t t':TE}(h:PE X e t) (k:∀ σ H Q,t' σ H Q->t σ H Q):PE X e t':=fun p s σ H Q I q=>h p s σ H Q I (k σ H Q q)
theorem PT.conv{X:Cx}{e:O4}{t t':TT}(h:PT X e t) (k:∀ σ H Q,t' σ H Q->t σ H Q):PT X e t':=fun p s σ H Q I q=>h p s σ H Q I (k σ H Q q)
theorem PA.conv{X:Cx}{e:List O4}{t t':TA}(h:PA X e t) (k:∀ σ H Q,t' σ H Q->t σ H Q):PA X e t':=fun a p s σ H Q I q=>h a p s σ H Q I (k σ H Q q)
theorem PS.conv{X:Cx}{e:ae4}{t t':TS}(h:PS X e t) (k:∀D σ H,t' D σ H->t D σ H):PS X e t':=fun p s σ H D I q=>h p s σ H D I (k D σ H q)
theorem PSs.conv{X:Cx}{e:List ae4}{t t':TS}(h:PSs X e t) (k:∀D σ H,t' D σ H->t D σ H):PSs X e t':=fun p s σ H D I q=>h p s σ H D I (k D σ H q)
section
variable{X:Cx}{a b c:O4}{Z:List O4}{B N:TEd}{W:Pos}
def mN(i:Nat):TEd:=fun a M Q=>∃d,a[i]?=some (some d)/\Q d M
def dC(d:D):TEd:=fun _ M Q=>Q d M
theorem CA{x:Str}{i:Int}{t:Tok}{W:Pos}(hg:Gl X x) (f:X.mg x=some (.int i t)) (c:autoParam ((x==("__debug__":Str))=false) L2.zq1._auto_1):PEd X (.Name x W) (dC (.int i)) :=
 (wR (v:=.int i) hg f ⟨t,rfl⟩ c).conv fun h H Q a=>a.el fun g M R j e q k=>k _ M _ H q (Ext.refl _ _) e (by simp[Rep])
theorem Cz{x y:Str}{t:Tok}{W:Pos}(hg:Gl X x) (f:X.mg x=some (.str y t)) (c:autoParam ((x==("__debug__":Str))=false) L2.zq1._auto_1):PEd X (.Name x W) (dC (.str y)) :=
 (wR (v:=.str y) hg f ⟨t,rfl⟩ c).conv fun h H Q a=>a.el fun g M R i e q k=>k _ M _ H q (Ext.refl _ _) e (by simp[Rep])
def Hn:TAd:=fun _ M Q=>Q [] M
def Ed(B:TEd) (e:TAd):TAd:=fun a M Q=>B a M fun x M1=>e a M1 fun c M2=>Q (x::c) M2
def G8(t:TAd):TEd:=fun c M Q=>t c M fun a M1=>a.length<=K0/\Q (.tup a) M1
def GW(t:TAd):TEd:=fun c M Q=>t c M fun a M1=>a.length<=K0/\Q (.lst a) M1
def DW(t:TAd):TEd:=fun c M Q=>t c M fun a M1=>a.length<=K0/\∀p,M1 p=none->Q (.ref p) (aN M1 p (.lst a))
noncomputable def rdM(M:DH):D->D
 |.ref a=>match M a with|some (.lst c)=>.lst c|_=>.ref a
 |d=>d
def aQ(K:J4) (M:DH) (H:Hp) (d:D) (v:V):Prop:=match d with
 |.tup e=>∃a c,v=.ref a/\SqT K H a c/\am K M H e c
 |.lst e=>∃a c,v=.ref a/\H a=some (.lst c)/\am K M H e c
 |.scr e=>∃a c,v=.ref a/\SqL K H a c/\am K M H e c
 |d=>Rep K M H d v
theorem pX.sq{K:J4}{M:DH}{H:Hp}{a:K1}{c:List V}(h:pX K M H a c):SqT K H a c:=by
 rcases h with⟨h,_⟩|h
 ·exact .inl h
 ·rcases h with(h|⟨_,h⟩)|h
  ·cases h
  ·cases h
  ·exact .inr h
theorem qE.sq{K:J4}{M:DH}{H:Hp}{a:K1}{c:List V}(h:qE K M H a c):SqL K H a c:=by
 rcases h with⟨⟨o,h⟩,_⟩|h
 ·exact .inl (.inr ⟨o,h⟩)
 ·rcases h with(h|⟨_,h⟩)|h
  ·cases h
  ·cases h
  ·exact .inr h
theorem Rep.rd{K:J4}{M:DH}{H:Hp}{d:D}{v:V}(hr:HR K M H) (h:Rep K M H d v):aQ K M H (rdM M d) v:=by
 cases d with
 |tup f=>simp only[Rep]at h;obtain⟨a,c,e,t,r⟩:=h;exact⟨a,c,e,t.sq,r⟩
 |lst f=>simp only[Rep]at h;obtain⟨a,c,e,t,r⟩:=h;exact⟨a,c,e,t.1,r⟩
 |scr f=>simp only[Rep]at h;obtain⟨a,c,e,t,r⟩:=h;exact⟨a,c,e,t.sq,r⟩
 |ref a =>
  simp only[rdM];cases q:M a with
  |none=>exact h
  |some o =>
   cases o with
   |lst f =>
    obtain⟨c,e,r⟩:=hr a _ q;simp only[Rep]at h;exact⟨a,c,h,e,r⟩
   |dK _=>exact h
   |dT _=>exact h
   |dKr _ _ _=>exact h
   |ins _ _=>exact h
   |ext _ _=>exact h
 |non=>exact h
 |bl b=>exact h
 |int i=>exact h
 |str x=>exact h
 |emp=>exact h
 |box _ _=>exact h
def bL(X:Cx) (f:J3->J3->Sem J3) (r:D->D->Option D):Prop :=
 ∀(a:List (K1×Obj)) (s:J5) (h:St) (H:Hp) (M:DH) (x y:V) (v u:J3) (g e c:D) (Q:VK),Inv X a h H s->HR X.K M H->aF x v->aF y u->aQ X.K M H g x->aQ X.K M H e y->r g e=some c ->
  (∀w H',Ext M H M H'->HR X.K M H'->Rep X.K M H' c w->Q w H')->K5 (N3 X.prog X.w) X.A (f v u) (EP X a h Q) X.xe s
def Hw(X:Cx) (f:J3->Sem J3) (r:D->Option D):Prop :=
 ∀(a:List (K1×Obj)) (s:J5) (g:St) (H:Hp) (M:DH) (x:V) (v:J3) (e c:D) (Q:VK),Inv X a g H s->HR X.K M H->aF x v->aQ X.K M H e x->r e=some c ->
  (∀w H',Ext M H M H'->HR X.K M H'->Rep X.K M H' c w->Q w H')->K5 (N3 X.prog X.w) X.A (f v) (EP X a g Q) X.xe s
def bD(X:Cx) (f:J3) (r:List D->Option D):Prop :=
 ∀(a:List (K1×Obj)) (s:J5) (i:St) (H:Hp) (M:DH) (e:List V) (g:List J3) (h:List D) (c:D) (Q:VK),Inv X a i H s->HR X.K M H->ax e g->ad0 (aQ X.K M H) h e->r h=some c ->
  (∀w H',Ext M H M H'->HR X.K M H'->Rep X.K M H' c w->Q w H')->K5 (N3 X.prog X.w) X.A (aw9 f g) (EP X a i Q) X.xe s
def dOp(r:D->D->Option D) (B N:TEd):TEd:=fun a M Q=>B a M fun x M1=>N a M1 fun y M2=>∃z,r (rdM M2 x) (rdM M2 y)=some z/\Q z M2
def dUn(r:D->Option D) (B:TEd):TEd:=fun a M Q=>B a M fun x M1=>∃z,r (rdM M1 x)=some z/\Q z M1
def opV(K:J4) (r:D->D->Option D):R2:=fun x y H Q=>∃e c a M,HR K M H/\aQ K M H e x/\aQ K M H c y/\r e c=some a/\∀w H',Ext M H M H'->HR K M H'->Rep K M H' a w->Q w H'
theorem bL.v{f:J3->J3->Sem J3}{r:D->D->Option D}(h:bL X f r):OpR X f (opV X.K r):=fun l s c H x y v u Q I n j z32z=>(by obtain⟨a,g,m,M,o,i,p,e,k⟩:=z32z;exact h l s c H M x y v u a g m Q I o n j i p e k)
theorem AS{K:J4}{r:D->D->Option D}{B N:TEd}:∀ σ H Q,up K (dOp r B N) σ H Q->tOp (opV K r) (up K B) (up K N) σ H Q:=fun σ H Q e=>e.el fun j M R l p q k =>
 ⟨j,M,_,l,p,q,fun x M1 v H1 n i f s=>⟨j,M1,_,l.ext i,f,n,fun y M2 u H2 z33z h a o=>by obtain⟨z,C,m⟩:=z33z;exact ⟨_,_,z,M2,a,(s.ext h).rd a,o.rd a,C,fun w H' A g c=>k z M2 w H' m ((i.trans h).trans A) g c⟩⟩⟩
def jV(t:TEd):TTd:=fun a M Q=>t a M fun x M1=>∃k,x=.bl k/\Q k M1
theorem DJ{K:J4}{t:TEd}:∀ σ H Q,upT K (jV t) σ H Q->zZ (up K t) σ H Q:=fun σ H Q a=>a.el fun i M R l h q k =>
 ⟨i,M,_,l,h,q,fun d M1 v H1 z34z f c j=>by obtain⟨b,e,g⟩:=z34z;exact ⟨b,by subst e;simpa only[Rep]using j,k b M1 H1 g f c⟩⟩
def D3(t:TTd):TTd:=fun a M Q=>t a M fun c M1=>Q (!c) M1
def xu(t u:TTd):TTd:=fun a M Q=>t a M fun c M1=>if c=true then u a M1 Q else Q false M1
def Hv(t u:TTd):TTd:=fun a M Q=>t a M fun c M1=>if c=true then Q true M1 else u a M1 Q
variable{tA Y:TTd}{rest:List O4}
theorem PW.conv{X:Cx}{e:O4}{t t':TT}(h:PW X e t) (k:∀ σ H Q,t' σ H Q->t σ H Q):PW X e t':=fun w p s σ H Q I q=>h w p s σ H Q I (k σ H Q q)
theorem PWd.pt{e:O4}{t:TTd}(h:PWd X e t):PTd X e t:=PW.pt h
def Hi(B N:TEd):TEd:=fun a M Q=>B a M fun x M1=>∃c,x=.bl c/\if c=true then N a M1 Q else Q (.bl false) M1
def dOr(B N:TEd):TEd:=fun a M Q=>B a M fun x M1=>∃c,x=.bl c/\if c=true then Q (.bl true) M1 else N a M1 Q
def GP(B:TEd):TEd:=fun a M Q=>B a M fun x M1=>∃c,x=.bl c/\Q (.bl (!c)) M1
def dIf(t:TTd) (B N:TEd):TEd:=fun a M Q=>t a M fun c M1=>if c=true then B a M1 Q else N a M1 Q
def uM(r e:D->D->Option D) (B N tc:TEd):TEd:=fun c M Q=>B c M fun x M1=>N c M1 fun y M2=>∃k,r (rdM M2 x) (rdM M2 y)=some (.bl k)/\if k=true then tc c M2 fun z a=>∃w,e (rdM a y) (rdM a z)=some w/\Q w a else Q (.bl false) M2
theorem wK{K:J4}{M:DH}{H:Hp}(hr:HR K M H):∀{ds:List D}{a:List V},am K M H ds a->ad0 (aQ K M H) (ds.map (rdM M)) a
 |[],_,h=>by simp only[am]at h;subst h;exact .nil
 |d::ds,_,h=>by
  simp only[am]at h;obtain⟨v,f,rfl,e,c⟩:=h;exact .cons (e.rd hr) (wK hr c)
def dCB(r:List D->Option D) (t:TAd):TEd:=fun a M Q=>t a M fun c M1=>∃z,r (c.map (rdM M1))=some z/\Q z M1
theorem DN{K:J4}{r:List D->Option D}{t:TAd}:∀ σ H Q,up K (dCB r t) σ H Q->tCB (fun xs H Q=>∃ds f M,HR K M H/\ad0 (aQ K M H) ds xs/\r ds=some f/\∀w H',Ext M H M H'->HR K M H'->Rep K M H' f w->Q w H') (upA K t) σ H Q:=fun σ H Q e=>e.el fun l M R o j q k =>
 ⟨l,M,_,o,j,q,fun ds M1 s H1 z35z h a m=>by obtain⟨z,p,i⟩:=z35z;exact ⟨_,z,M1,a,wK a m,p,fun w H' g c n=>k z M1 w H' i (h.trans g) c n⟩⟩
theorem bD.v{f:J3}{r:List D->Option D}(h:bD X f r):di X f (fun xs H Q=>∃ds a M,HR X.K M H/\ad0 (aQ X.K M H) ds xs/\r ds=some a/\∀w H',Ext M H M H'->HR X.K M H'->Rep X.K M H' a w->Q w H') :=
 fun j s g H xs i Q I m z36z=>(by obtain⟨ds,a,M,l,c,e,k⟩:=z36z;exact h j s g H M xs i ds a Q I l m c e k)
end
section
variable{X:Cx}
theorem bL.of{f:J3->J3->Sem J3}{i:R2}{r:D->D->Option D}(h:OpR X f i)
  (k:∀(H:Hp) (M:DH) (x y:V) (a c g:D) (Q:VK),HR X.K M H->aQ X.K M H a x->aQ X.K M H c y->r a c=some g->(∀w H',Ext M H M H'->HR X.K M H'->Rep X.K M H' g w->Q w H')->i x y H Q):bL X f r :=
 fun n s j H M x y v u a c g Q I p o m l i e q=>h n s j H x y v u Q I o m (k H M x y a c g Q p l i e q)
theorem bD.of{f:J3}{c:List V->Hp->VK->Prop}{r:List D->Option D}(h:di X f c)
  (k:∀(H:Hp) (M:DH) (xs:List V) (ds:List D) (a:D) (Q:VK),HR X.K M H->ad0 (aQ X.K M H) ds xs->r ds=some a->(∀w H',Ext M H M H'->HR X.K M H'->Rep X.K M H' a w->Q w H')->c xs H Q):bD X f r :=
 fun l s g H M xs j ds a Q I m n i e q=>h l s g H xs j Q I n (k H M xs ds a Q m i e q)
theorem fX{K:J4}{M:DH}{H:Hp}{i:Int}{v:V}(h:aQ K M H (.int i) v):v=.int i:=by simpa[aQ,Rep]using h
theorem px{K:J4}{M:DH}{H:Hp}{i:Str}{v:V}(h:aQ K M H (.str i) v):v=.str i:=by simpa[aQ,Rep]using h
theorem rBl{K:J4}{M:DH}{H:Hp}{i:Bool}{v:V}(h:aQ K M H (.bl i) v):v=.bl i:=by simpa[aQ,Rep]using h
theorem Jv{K:J4}{M:DH}{H:Hp}{v:V}(h:aQ K M H .non v):v=.non:=by simpa[aQ,Rep]using h
noncomputable def iOp(f:Int->Int->Option D):D->D->Option D
 |.int a,.int b=>f a b
 |_,_=>none
theorem oo{f:Int->Int->Option D}{x y z:D}(h:iOp f x y=some z):∃a b,x=.int a/\y=.int b/\f a b=some z:=by
 cases x<;>first|cases h|skip
 rename_i a;cases y<;>first|cases h|skip
 rename_i b;exact⟨a,b,rfl,rfl,h⟩
noncomputable def bt:D->Bool
 |.non=>true|.bl _=>true|.int _=>true|.str _=>true|_=>false
noncomputable def toV:D->V
 |.bl b=>.bl b|.int i=>.int i|.str x=>.str x|_=>.non
theorem uw{K:J4}{M:DH}{H:Hp}{d:D}(h:bt d=true):Rep K M H d (toV d):=by
 cases d<;>first|(simp[Rep,toV];done)|cases h
theorem xa{f:J3->J3->Sem J3}{C:Int->Int->Prop} [∀i j,Decidable (C i j)] {g:Int->Int->D}(hs:∀i j,bt (g i j)=true) (h:OpR X f (rI C fun i j=>toV (g i j))) :
  bL X f (iOp fun i j=>if C i j then some (g i j)else none) :=
 bL.of h fun H M x y s u p Q m n o e q=>by
  obtain⟨a,b,rfl,rfl,l⟩:=oo e;clear e;have e:=l
  by_cases c:C a b
  ·rw[if_pos c]at e;cases e;exact⟨a,b,fX n,fX o,c,q _ _ (Ext.refl _ _) m (uw (hs a b))⟩
  ·rw[if_neg c]at e;cases e
theorem nY{f:J3->J3->Sem J3}{g:Int->Int->D}(hs:∀i j,bt (g i j)=true) (h:OpR X f (rI0 fun i j=>toV (g i j))) :
  bL X f (iOp fun i j=>some (g i j)) :=
 bL.of h fun H M x y n o p Q l c m e q=>by
  obtain⟨a,b,rfl,rfl,e⟩:=oo e;cases e;exact⟨a,b,fX c,fX m,q _ _ (Ext.refl _ _) l (uw (hs a b))⟩
instance:∀i j,Decidable (rG i j):=fun i j=>by unfold rG;exact inferInstance
instance:∀i j,Decidable (mJ i j):=fun i j=>by unfold mJ;exact inferInstance
instance:∀i j,Decidable (pE i j):=fun i j=>by unfold pE;exact inferInstance
theorem mh:bL X (ad3 .Sub) (iOp fun i j=>some (.int (i-j))):=nY (fun _ _=>rfl) EU
theorem ET:bL X (ad3 .Mult) (iOp fun i j=>if mJ i j then some (.int (i*j))else none):=xa (fun _ _=>rfl) FG
theorem jS:bL X (ad3 .FloorDiv) (iOp fun i j=>if rG i j then some (.int (i / j))else none):=xa (fun _ _=>rfl) CU
theorem bK:bL X (ad3 .Mod) (iOp fun i j=>if 0<j then some (.int (i % j))else none):=xa (C:=fun _ j=>0<j) (fun _ _=>rfl) El
theorem wD:bL X (ad3 .Pow) (iOp fun i j=>if pE i j then some (.int (i ^ j.toNat))else none):=xa (fun _ _=>rfl) Ge
theorem xT:bL X (Q9 .Lt) (iOp fun i j=>some (.bl (decide (i<j)))):=nY (fun _ _=>rfl) Ie
theorem nk:bL X (Q9 .LtE) (iOp fun i j=>some (.bl (decide (i<=j)))):=nY (fun _ _=>rfl) HW
theorem Er:bL X (Q9 .Gt) (iOp fun i j=>some (.bl (decide (j<i)))):=nY (fun _ _=>rfl) Hm
theorem Jd:bL X (Q9 .GtE) (iOp fun i j=>some (.bl (decide (j<=i)))):=nY (fun _ _=>rfl) Hb
theorem am.at_{K:J4}{M:DH}{H:Hp}{ds:List D}{c:List V}{i:Int}{d:D}(h:am K M H ds c) (e:atI ds i=some d):∃v,atI c i=some v/\Rep K M H d v:=by
 unfold atI at e ⊢;rw[<-h.length];cases q:ixN ds.length i with
 |none=>rw[q]at e;cases e
 |some j =>
  rw[q]at e;have f:ds[j]?=some d:=e;obtain⟨v,a,b⟩:=h.get f;exact⟨v,a,b⟩
noncomputable def ixD:D->D->Option D
 |.tup a=>fun zy=>match zy with|.int i=>atI a i|_=>none
 |.lst a=>fun zy=>match zy with|.int i=>atI a i|_=>none
 |.scr a=>fun zy=>match zy with|.int i=>atI a i|_=>none
 |.str z=>fun zy=>match zy with|.int i=>if z.length<=K0 then(atI z.cps.toList i).map fun c=>.str ⟨#[c]⟩else none|_=>none
 |_=>fun _=>none
theorem aV:IxR X (opV X.K ixD):=by
 intro f slice A s n H x y v u Q I rx ry h hs;obtain⟨J,o,L,M,B,p,C,e,k⟩:=h;cases J with
 |tup G =>
  cases o with
  |int i =>
   obtain⟨a,l,rfl,sq,m⟩:=p;obtain⟨w,j,g⟩:=m.at_ e;exact FJ f slice A s n H _ _ v u Q I rx ry ⟨a,l,i,w,rfl,fX C,sq,j,k w H (Ext.refl _ _) B g⟩ hs
  |_=>cases e
 |lst G =>
  cases o with
  |int i =>
   obtain⟨a,l,rfl,sq,m⟩:=p;obtain⟨w,j,g⟩:=m.at_ e;exact wF f slice A s n H _ _ v u Q I rx ry ⟨a,l,i,w,rfl,fX C,SqL.of sq,j,k w H (Ext.refl _ _) B g⟩ hs
  |_=>cases e
 |scr G =>
  cases o with
  |int i =>
   obtain⟨a,l,rfl,sq,m⟩:=p;obtain⟨w,j,g⟩:=m.at_ e;exact wF f slice A s n H _ _ v u Q I rx ry ⟨a,l,i,w,rfl,fX C,sq,j,k w H (Ext.refl _ _) B g⟩ hs
  |_=>cases e
 |str z =>
  cases o with
  |int i =>
   simp only[ixD]at e
   by_cases E:z.length<=K0
   ·rw[if_pos E]at e;cases q:atI z.cps.toList i with
    |none=>rw[q]at e;cases e
    |some c =>
     rw[q]at e;cases e;exact Ff f slice A s n H _ _ v u Q I rx ry ⟨z,i,c,px p,fX C,E,q,k _ H (Ext.refl _ _) B (by simp[Rep])⟩ hs
   ·rw[if_neg E]at e;cases e
  |_=>cases e
 |_=>cases e
noncomputable def rn:D->D->Option D
 |.int a=>fun zy=>match zy with|.int b=>some (.int (a+b))|_=>none
 |.str a=>fun zy=>match zy with|.str b=>if a.length+b.length<=K0 then some (.str (a++b))else none|_=>none
 |.lst a=>fun zy=>match zy with|.lst b=>if a.length+b.length<=K0 then some (.lst (a++b))else none|_=>none
 |.tup a=>fun zy=>match zy with|.tup b=>if a.length+b.length<=K0 then some (.tup (a++b))else none|_=>none
 |_=>fun _=>none
theorem dq{K:J4}{M:DH}{H:Hp}{p:K1}{ds:List D}{c:List V}{Q:VK}(hr:HR K M H) (a:H p=none) (r:am K M H ds c) (q:∀w H',Ext M H M H'->HR K M H'->Rep K M H' (.lst ds) w->Q w H'):Q (.ref p) (upd H p (.lst c)) :=
 q _ _ (Ext.new hr a) (hr.new a) (by simp only[Rep];exact⟨p,c,rfl,⟨aK,hr.fresh a⟩,r.ext (Ext.new hr a)⟩)
theorem oU{K:J4}{M:DH}{H:Hp}{p:K1}{ds:List D}{c:List V}{Q:VK}(hr:HR K M H) (a:H p=none) (r:am K M H ds c) (q:∀w H',Ext M H M H'->HR K M H'->Rep K M H' (.tup ds) w->Q w H'):Q (.ref p) (upd H p (.tup c)) :=
 q _ _ (Ext.new hr a) (hr.new a) (by simp only[Rep];exact⟨p,c,rfl,.inl ⟨.inl aK,hr.fresh a⟩,r.ext (Ext.new hr a)⟩)
theorem aQ.tup{K:J4}{M:DH}{H:Hp}{ds:List D}{v:V}(hr:HR K M H) (h:aQ K M H (.tup ds) v):Rep K M H (.tup ds) v:=by
 obtain⟨a,e,rfl,sq,f⟩:=h;simp only[Rep];refine⟨a,e,rfl,?_,f⟩;rcases sq with r|k
 ·refine .inl ⟨r,?_⟩;cases q:M a with
  |none=>rfl
  |some o =>
   obtain⟨u,z,m⟩:=(hr a _ q).some;rcases r with r|⟨c,r⟩
   ·rw[z]at r;exact absurd (V0 r) (m _).1
   ·rw[z]at r;exact absurd (V0 r) ((m _).2 c)
 ·exact .inr (.inr k)
theorem AU{prog:M9}{w:P5}{A:O9}{E:J3->J5->Prop}{s:J5}{t b:K1}{ws:List J3}{Q:J3->J5->Prop}(u:aj8 s.heap t ([]:List J3).toArray) (x:aj8 s.heap b ws.toArray)
  (h:Q (.ref b) s):K5 (N3 prog w) A (ad3 .Add (.ref t) (.ref b)) Q E s:=by
 obtain⟨⟨z,B,j,p⟩,m,l,n,i⟩:=id u;obtain⟨⟨o,g,data2,f⟩,e,c,q,a⟩:=id x;simp only at l i c a;subst l i c a;exact concat_meets ⟨_,m,rfl⟩ ⟨_,e,rfl⟩ noFill_tuple_add seq_tuple_add PySem.F.slot_tuple_add PySem.F.entry_tuple_add (PySem.F.args_tuple_add_2 _ _)
   (tuple_addW0 t b ([]:List J3).toArray ws.toArray n q B g p f (by simp)) ⟨m,e,h⟩
theorem aG:bL X (ad3 .Add) rn:=by
 intro m s i H M x y v u dx dy dz Q I hr rx ry r1 r2 e k;cases dx with
 |int a =>
  cases dy with
  |int b =>
   cases e;exact FZ m s i H x y v u Q I rx ry ⟨a,b,fX r1,fX r2,k _ H (Ext.refl _ _) hr (by simp[Rep])⟩
  |_=>cases e
 |str a =>
  cases dy with
  |str b =>
   simp only[rn]at e
   by_cases g:a.length+b.length<=K0
   ·rw[if_pos g]at e;cases e;exact uW m s i H x y v u Q I rx ry ⟨a,b,px r1,px r2,g,k _ H (Ext.refl _ _) hr (by simp[Rep])⟩
   ·rw[if_neg g]at e;cases e
  |_=>cases e
 |lst a =>
  cases dy with
  |lst b =>
   simp only[rn]at e
   by_cases g:a.length+b.length<=K0
   ·rw[if_pos g]at e;cases e;obtain⟨w,n,rfl,l,c⟩:=r1;obtain⟨h,q,rfl,j,f⟩:=r2;exact Fi m s i H _ _ v u Q I rx ry ⟨w,h,n,q,rfl,rfl,l,j,by rw[<-c.length,<-f.length];exact g,fun p o=>dq hr o (c.append f) k⟩
   ·rw[if_neg g]at e;cases e
  |_=>cases e
 |tup a =>
  cases dy with
  |tup b =>
   simp only[rn]at e
   by_cases g:a.length+b.length<=K0
   ·rw[if_pos g]at e;cases e;have C:=aQ.tup hr r1;have G:=aQ.tup hr r2;obtain⟨w,n,rfl,l,c⟩:=r1;obtain⟨h,q,rfl,j,f⟩:=r2
    by_cases A:n=[]
    ·subst A;have B:a=[]:=by
      have:=c.length;cases a with
      |nil=>rfl
      |cons _ _=>simp at this
     subst B;cases rx;cases ry;obtain⟨its,L,E,_⟩:=I.tuple l;obtain⟨z,P,O,_⟩:=I.tuple j;cases L;exact AU E O ⟨.ref h,H,I,rfl,k _ H (Ext.refl _ _) hr G⟩
    ·refine Cd m s i H _ _ v u Q I rx ry ⟨w,h,n,q,rfl,rfl,l,j,A,by rw[<-c.length,<-f.length];exact g,fun J=>?_,fun _ p o=>oU hr o (c.append f) k⟩;subst J;have N:b=[]:=by
      have:=f.length;cases b with
      |nil=>rfl
      |cons _ _=>simp at this
     subst N;rw[ag7]at k;exact k _ H (Ext.refl _ _) hr C
   ·rw[if_neg g]at e;cases e
  |_=>cases e
 |_=>cases e
mutual
noncomputable def eqD:D->D->Bool
 |.non=>fun zy=>match zy with|.non=>true|_=>false
 |.bl a=>fun zy=>match zy with|.bl b=>a==b|.int b=>(if a then 1 else 0)==b|_=>false
 |.int a=>fun zy=>match zy with|.bl b=>a==(if b then 1 else 0)|.int b=>a==b|_=>false
 |.str a=>fun zy=>match zy with|.str b=>a==b|_=>false
 |.tup a=>fun zy=>match zy with|.tup b=>dY a b|_=>false
 |.lst a=>fun zy=>match zy with|.lst b=>dY a b|_=>false
 |_=>fun _=>false
noncomputable def dY:List D->List D->Bool
 |[],[]=>true
 |a::c,b::bs=>eqD a b&&dY c bs
 |_,_=>false
end
mutual
noncomputable def dLe:D->Nat->Bool
 |.tup _,0=>false
 |.tup a,n+1=>ft a n
 |.lst _,0=>false
 |.lst a,n+1=>ft a n
 |.scr _,_=>false
 |.emp,_=>false
 |.box _ _,_=>false
 |.ref _,_=>false
 |_,_=>true
noncomputable def ft:List D->Nat->Bool
 |[],_=>true
 |d::a,n=>dLe d n&&ft a n
end
theorem oJ:∀{ds:List D}{n i:Nat}{d:D},ft ds n=true->ds[i]?=some d->dLe d n=true
 |[],_,_,_,_,e=>by simp at e
 |d::ds,n,0,x,h,e=>by
  simp only[ft,O1]at h;simp at e;subst e;exact h.1
 |d::ds,n,i+1,x,h,e=>by
  simp only[ft,O1]at h;exact oJ h.2 (by simpa using e)
theorem sM:∀{ds:List D}{n:Nat},ft ds n=true↔∀d∈ds,dLe d n=true
 |[],n=>by simp[ft]
 |d::ds,n=>by simp[ft,sM (ds:=ds)]
noncomputable def eqN(ds c:List D) (j:Nat):Bool:=match ds[j]?,c[j]? with|some a,some b=>eqD a b|_,_=>false
theorem sX:∀{ds a:List D},dY ds a=true->ds.length=a.length
 |[],[],_=>rfl
 |[],_::_,h=>by simp[dY]at h
 |_::_,[],h=>by simp[dY]at h
 |_::ds,_::a,h=>by
  simp only[dY,O1]at h;simp[sX h.2]
theorem oH:∀{ds c:List D},dY ds c=((N5 (min ds.length c.length)).all (eqN ds c)&&ds.length==c.length)
 |[],[]=>by simp[dY]
 |[],_::_=>by simp[dY]
 |_::_,[]=>by simp[dY]
 |a::ds,b::c=>by
  have ih:=@oH ds c;simp only[dY,M8,Nat.add_min_add_right,List.range_succ_eq_map,ah7,W1];have g:eqN (a::ds) (b::c) 0=eqD a b:=by simp[eqN]
  have e:(eqN (a::ds) (b::c))∘av6=eqN ds c:=by
   funext j;simp[eqN]
  rw[g,e,ih];have f:(ds.length+1==c.length+1)=(ds.length==c.length):=by
   rw[S8];simp
  rw[f,Bool.and_assoc]
theorem xK{ds a:List D}(h:ds.length=a.length):dY ds a=(N5 ds.length).all (eqN ds a):=by
 rw[oH,<-h,Nat.min_self];simp
theorem Rep.r{K:J4}{M:DH}{H:Hp}{d:D}{v:V}(h:Rep K M H d v):aQ K M H d v:=by
 cases d with
 |tup f=>simp only[Rep]at h;obtain⟨a,c,e,t,r⟩:=h;exact⟨a,c,e,t.sq,r⟩
 |lst f=>simp only[Rep]at h;obtain⟨a,c,e,t,r⟩:=h;exact⟨a,c,e,t.1,r⟩
 |scr f=>simp only[Rep]at h;obtain⟨a,c,e,t,r⟩:=h;exact⟨a,c,e,t.sq,r⟩
 |_=>exact h
theorem DP{i:List (K1×Obj)}{σ:St}{H:Hp}{s:J5}{a:K1}{j ws:List V}(I:Inv X i σ H s) (h:SqT X.K H a j) (h':H a=some (.lst ws)):False:=by
 obtain⟨its,r,⟨o,e,c,n,d⟩,_⟩:=I.tuple h;obtain⟨_,g,l,_,f⟩:=I.hok a _ h';rw[e]at f;cases f;exact absurd (show af0 "list"=af0 "tuple" from c) (by decide)
theorem Bg{E:List (K1×Obj)}{σ:St}{H:Hp}{s:J5}(I:Inv X E σ H s) {M M':DH}:∀(n:Nat) {d e:D}{v:V},dLe d n=true->dLe e n=true->aQ X.K M H d v->aQ X.K M' H e v->eqD d e=true:=by
  intro n
  induction n with
  | zero =>
    intro d e v hd he r1 f;cases d<;>first|(simp[dLe]at hd;done)|skip
    all_goals cases e<;>first|(simp[dLe]at he;done)|skip
    all_goals (simp only[aQ,Rep]at r1 f;subst r1;first|(cases f;simp[eqD];done)|cases f)
  | succ n ih =>
    intro d e v hd he r1 f;have j:∀{l h:List D} {m:List V},ft l n=true->ft h n=true->am X.K M H l m->am X.K M' H h m->dY l h=true:=by
      intro l
      induction l with
      | nil =>
        intro h m _ _ q p;simp only[am]at q;subst q;cases h with
        |nil=>simp[dY]
        |cons _ _=>simp[am]at p
      | cons a l w =>
        intro h m z u q p;simp only[am]at q;obtain⟨v,o,rfl,B,J⟩:=q;cases h with
        |nil=>simp[am]at p
        | cons b h =>
          simp only[am]at p;obtain⟨L,C,i,A,G⟩:=p;cases i;simp only[ft,O1]at z u;simp only[dY,O1];exact⟨ih z.1 u.1 B.r A.r,w z.2 u.2 J G⟩
    cases d with
    | tup l =>
      obtain⟨a,m,rfl,sq,x⟩:=r1;cases e with
      | tup h =>
        obtain⟨b,o,i,c,g⟩:=f;cases i;have:=I.tuple_inj sq c;subst this;simp only[eqD];exact j (by simpa[dLe]using hd) (by simpa[dLe]using he) x g
      | lst h =>
        obtain⟨b,o,i,c,g⟩:=f;cases i;exact(DP I sq c).elim
      |_=>first|(simp[dLe]at he;done)|(simp only[aQ,Rep]at f;cases f)
    | lst l =>
      obtain⟨a,m,rfl,sq,x⟩:=r1;cases e with
      | lst h =>
        obtain⟨b,o,i,c,g⟩:=f;cases i;rw[sq]at c;cases c;simp only[eqD];exact j (by simpa[dLe]using hd) (by simpa[dLe]using he) x g
      | tup h =>
        obtain⟨b,o,i,c,g⟩:=f;cases i;exact(DP I c sq).elim
      |_=>first|(simp[dLe]at he;done)|(simp only[aQ,Rep]at f;cases f)
    | _ =>
      first
      |(simp[dLe]at hd;done)
      | (cases e with
         |tup h=>(obtain⟨b,o,i,c,g⟩:=f;subst i;simp only[aQ,Rep]at r1;cases r1)
         |lst h=>(obtain⟨b,o,i,c,g⟩:=f;subst i;simp only[aQ,Rep]at r1;cases r1)
         |_=>first|(simp[dLe]at he;done)|(simp only[aQ,Rep]at r1 f;subst r1;first|(cases f;simp[eqD];done)|cases f))
theorem aQ.at{K:J4}{M:DH}{H:Hp}{d:D}{v:V}{u:J3}(r:aQ K M H d v) (q:aF v u):match d with|.non=>u=.none|.bl b=>u=.bool b|.int i=>∃t,u=.int i t|.str x=>∃t,u=.str x t|_=>True:=by
 cases d<;>first|trivial|(simp only[aQ,Rep]at r;subst r;exact q)
open PySem.SeqAt in
theorem zy{ae:List (K1×Obj)}{σ:St}{H:Hp}{s:J5}(I:Inv X ae σ H s) {M M':DH}:∀(n:Nat) {A:O9}{d e:D}{v w:V}{L J:J3},A.units+n<Z4->dLe d n=true->dLe e n=true ->
  aQ X.K M H d v->aQ X.K M' H e w->aF v L->aF w J->EqAt A s L J (eqD d e)/\RcAt A s L J (eqD d e)/\RcNeAt A s L J (!(eqD d e)):=by
 intro n
 induction n with
 |zero =>
  intro A d e v w L J hu hd he B p z u;have c:A.units<Z4:=by assumption
  cases d<;>first|(simp[dLe]at hd;done)|skip
  all_goals cases e<;>first|(simp[dLe]at he;done)|skip
  all_goals simp only[aQ,Rep]at B p
  all_goals subst B
  all_goals subst p
  all_goals simp only[aF]at z u
  all_goals first|(obtain⟨T,rfl⟩:=z)|subst z
  all_goals first|(obtain⟨U,rfl⟩:=u)|subst u
  all_goals simp only[eqD]
  ·exact⟨EqAt.same _,RcAt.none_none,RcNeAt.none_none⟩
  ·exact⟨EqAt.none_bool _,RcAt.none_bool _,RcNeAt.none_bool _⟩
  ·exact⟨EqAt.none_int _ _,RcAt.none_int _ _,RcNeAt.none_int _ _⟩
  ·exact⟨EqAt.none_str _ _,RcAt.none_str _ _,RcNeAt.none_str _ _⟩
  ·exact⟨EqAt.bool_none _,RcAt.bool_none _,RcNeAt.bool_none _⟩
  ·exact⟨EqAt.bool_bool _ _,RcAt.bool_bool _ _,RcNeAt.bool_bool _ _⟩
  ·exact⟨EqAt.bool_int _ _ _,RcAt.bool_int _ _ _,RcNeAt.bool_int _ _ _⟩
  ·exact⟨EqAt.bool_str _ _ _,RcAt.bool_str _ _ _,RcNeAt.bool_str _ _ _⟩
  ·exact⟨EqAt.int_none _ _,RcAt.int_none _ _,RcNeAt.int_none _ _⟩
  ·exact⟨EqAt.int_bool _ _ _,RcAt.int_bool _ _ _,RcNeAt.int_bool _ _ _⟩
  ·exact⟨EqAt.int_int _ _ _ _,RcAt.int_int _ _ _ _,RcNeAt.int_int _ _ _ _⟩
  ·exact⟨EqAt.int_str _ _ _ _,RcAt.int_str _ _ _ _,RcNeAt.int_str _ _ _ _⟩
  ·exact⟨EqAt.str_none _ _,RcAt.str_none _ _,RcNeAt.str_none _ _⟩
  ·exact⟨EqAt.str_bool _ _ _,RcAt.str_bool _ _ _,RcNeAt.str_bool _ _ _⟩
  ·exact⟨EqAt.str_int _ _ _ _,RcAt.str_int _ _ _ _,RcNeAt.str_int _ _ _ _⟩
  ·exact⟨EqAt.str_str _ _ _ _,RcAt.str_str _ _ _ _,RcNeAt.str_str _ _ _ _⟩
 |succ n ih =>
  intro A d e v w L J hu hd he B p z u;have c:A.units<Z4:=by lia
  have a0:A.in1.units+n<Z4:=by show A.units+1+n<Z4;lia
  have item:∀{x l:List D} {vs C:List V} {us E:List J3},ft x n=true->ft l n=true->am X.K M H x vs->am X.K M' H l C->ax vs us->ax C E ->
    ∀j (h1:j<us.toArray.size) (h2:j<E.toArray.size),EqAt A.in1 s us.toArray[j] E.toArray[j] (eqN x l j):=by
   intro x l vs C us E d1 d2 h1 h2 h3 h4 j S P;have l1:=h1.length;have l2:=h2.length;have l3:=h3.length;have l4:=h4.length;have j1:j<x.length:=by simp at S;lia
   have j2:j<l.length:=by simp at P;lia
   obtain⟨v1,g1,p1⟩:=h1.get (i:=j) (d:=x[j]) (by simp[j1]);obtain⟨v2,g2,p2⟩:=h2.get (i:=j) (d:=l[j]) (by simp[j2]);obtain⟨L,k1,m1⟩:=h3.get g1;obtain⟨J,k2,m2⟩:=h4.get g2;have e1:us.toArray[j]=L:=by
    simp at S;simpa[J6 S]using k1
   have e2:E.toArray[j]=J:=by
    simp at P;simpa[J6 P]using k2
   rw[e1,e2];have e3:eqN x l j=eqD x[j] l[j]:=by simp[eqN,j1,j2]
   rw[e3];exact(ih a0 (oJ d1 (i:=j) (by simp[j1])) (oJ d2 (i:=j) (by simp[j2])) p1.r p2.r m1 m2).1
  have N:∀{a b:K1},v=.ref a->w=.ref b->RcAt A s (.ref a) (.ref b) (eqD d e)->EqAt A s (.ref a) (.ref b) (eqD d e):=by
   intro a b ea eb O
   by_cases Y:a=b
   ·subst Y;subst ea;subst eb;rw[Bg I (n+1) hd he B p];exact EqAt.same _
   ·exact EqAt.of_refs Y O
  cases d with
  |tup x =>
   obtain⟨a,vs,rfl,sq,rl⟩:=id B;cases z;obtain⟨its,rv,pt,_⟩:=I.tuple sq;have R:ft x n=true:=by simpa[dLe]using hd
   cases e with
   |tup l =>
    obtain⟨b,C,rfl,g,m⟩:=id p;cases u;obtain⟨h,o,f,_⟩:=I.tuple g;have Q:ft l n=true:=by simpa[dLe]using he
    have Z:=item R Q rl m rv o;have T:=RcAt.tuples (e:=eqN x l) pt f c Z;have U:=RcNeAt.tuples (e:=eqN x l) pt f c Z;rw[K3,K3,<-rv.length,<-o.length,<-rl.length,<-m.length,<-oH]at T U;have O:RcAt A s (.ref a) (.ref b) (eqD (.tup x) (.tup l)):=by simpa only[eqD]using T
    exact⟨N rfl rfl O,O,by simpa only[eqD]using U⟩
   |lst l =>
    obtain⟨b,C,rfl,g,m⟩:=id p;cases u;obtain⟨h,o,f,_⟩:=I.list (SqL.of g);simp only[eqD];exact⟨EqAt.tuple_list pt f.isList c,RcAt.tuple_list pt f.isList c,RcNeAt.tuple_list pt f.isList c⟩
   |non=>obtain rfl:=p.at u;simp only[eqD];exact⟨EqAt.tuple_none pt c,RcAt.tuple_none pt c,RcNeAt.tuple_none pt c⟩
   |bl b=>obtain rfl:=p.at u;simp only[eqD];exact⟨EqAt.tuple_bool _ pt c,RcAt.tuple_bool _ pt c,RcNeAt.tuple_bool _ pt c⟩
   |int b=>obtain⟨t,rfl⟩:=p.at u;simp only[eqD];exact⟨EqAt.tuple_int _ _ pt c,RcAt.tuple_int _ _ pt c,RcNeAt.tuple_int _ _ pt c⟩
   |str b=>obtain⟨t,rfl⟩:=p.at u;simp only[eqD];exact⟨EqAt.tuple_str _ _ pt c,RcAt.tuple_str _ _ pt c,RcNeAt.tuple_str _ _ pt c⟩
   |_=>simp[dLe]at he
  |lst x =>
   obtain⟨a,vs,rfl,sq,rl⟩:=id B;cases z;obtain⟨its,rv,pt,_⟩:=I.list (SqL.of sq);have R:ft x n=true:=by simpa[dLe]using hd
   cases e with
   |lst l =>
    obtain⟨b,C,rfl,g,m⟩:=id p;cases u;obtain⟨h,o,f,_⟩:=I.list (SqL.of g);have Q:ft l n=true:=by simpa[dLe]using he
    have hs:its.toArray.size=x.length/\h.toArray.size=l.length:=by rw[K3,K3,<-rv.length,<-o.length,<-rl.length,<-m.length];exact⟨rfl,rfl⟩
    have O:RcAt A s (.ref a) (.ref b) (eqD (.lst x) (.lst l))/\RcNeAt A s (.ref a) (.ref b) (!(eqD (.lst x) (.lst l))):=by
     by_cases hl:x.length=l.length
     ·have G:its.toArray.size=h.toArray.size:=by rw[hs.1,hs.2];exact hl
      have Z:=item R Q rl m rv o;have T:=RcAt.lists (e:=eqN x l) pt.isList f.isList G c Z;have U:=RcNeAt.lists (e:=eqN x l) pt.isList f.isList G c Z;rw[hs.1,<-xK hl]at T U;exact⟨by simpa only[eqD]using T,by simpa only[eqD]using U⟩
     ·have G:(its.toArray.size != h.toArray.size)=true:=by rw[hs.1,hs.2];simpa using hl
      have e0:eqD (.lst x) (.lst l)=false:=by
       simp only[eqD];cases q:dY x l with
       |false=>rfl
       |true=>exact absurd (sX q) hl
      rw[e0];exact⟨RcAt.lists_lengths pt.isList f.isList G c,RcNeAt.lists_lengths pt.isList f.isList G c⟩
    exact⟨N rfl rfl O.1,O⟩
   |tup l =>
    obtain⟨b,C,rfl,g,m⟩:=id p;cases u;obtain⟨h,o,f,_⟩:=I.tuple g;simp only[eqD];exact⟨EqAt.list_tuple pt.isList f c,RcAt.list_tuple pt.isList f c,RcNeAt.list_tuple pt.isList f c⟩
   |non=>obtain rfl:=p.at u;simp only[eqD];exact⟨EqAt.list_none pt.isList c,RcAt.list_none pt.isList c,RcNeAt.list_none pt.isList c⟩
   |bl b=>obtain rfl:=p.at u;simp only[eqD];exact⟨EqAt.list_bool _ pt.isList c,RcAt.list_bool _ pt.isList c,RcNeAt.list_bool _ pt.isList c⟩
   |int b=>obtain⟨t,rfl⟩:=p.at u;simp only[eqD];exact⟨EqAt.list_int _ _ pt.isList c,RcAt.list_int _ _ pt.isList c,RcNeAt.list_int _ _ pt.isList c⟩
   |str b=>obtain⟨t,rfl⟩:=p.at u;simp only[eqD];exact⟨EqAt.list_str _ _ pt.isList c,RcAt.list_str _ _ pt.isList c,RcNeAt.list_str _ _ pt.isList c⟩
   |_=>simp[dLe]at he
  |non =>
   cases e with
   |tup l =>
    obtain⟨b,C,rfl,g,m⟩:=id p;cases u;obtain⟨h,o,f,_⟩:=I.tuple g;obtain rfl:=B.at z;simp only[eqD];exact⟨EqAt.none_tuple f c,RcAt.none_tuple f c,RcNeAt.none_tuple f c⟩
   |lst l =>
    obtain⟨b,C,rfl,g,m⟩:=id p;cases u;obtain⟨h,o,f,_⟩:=I.list (SqL.of g);obtain rfl:=B.at z;simp only[eqD];exact⟨EqAt.none_list f.isList c,RcAt.none_list f.isList c,RcNeAt.none_list f.isList c⟩
   |_=>first|(simp[dLe]at he;done)|exact ih (A:=A) (by exact V4 (by assumption)) (by simp[dLe]) (by simp[dLe]) B p z u
  |bl a =>
   cases e with
   |tup l =>
    obtain⟨b,C,rfl,g,m⟩:=id p;cases u;obtain⟨h,o,f,_⟩:=I.tuple g;obtain rfl:=B.at z;simp only[eqD];exact⟨EqAt.bool_tuple _ f c,RcAt.bool_tuple _ f c,RcNeAt.bool_tuple _ f c⟩
   |lst l =>
    obtain⟨b,C,rfl,g,m⟩:=id p;cases u;obtain⟨h,o,f,_⟩:=I.list (SqL.of g);obtain rfl:=B.at z;simp only[eqD];exact⟨EqAt.bool_list _ f.isList c,RcAt.bool_list _ f.isList c,RcNeAt.bool_list _ f.isList c⟩
   |_=>first|(simp[dLe]at he;done)|exact ih (A:=A) (by exact V4 (by assumption)) (by simp[dLe]) (by simp[dLe]) B p z u
  |int a =>
   cases e with
   |tup l =>
    obtain⟨b,C,rfl,g,m⟩:=id p;cases u;obtain⟨h,o,f,_⟩:=I.tuple g;obtain⟨t,rfl⟩:=B.at z;simp only[eqD];exact⟨EqAt.int_tuple _ _ f c,RcAt.int_tuple _ _ f c,RcNeAt.int_tuple _ _ f c⟩
   |lst l =>
    obtain⟨b,C,rfl,g,m⟩:=id p;cases u;obtain⟨h,o,f,_⟩:=I.list (SqL.of g);obtain⟨t,rfl⟩:=B.at z;simp only[eqD];exact⟨EqAt.int_list _ _ f.isList c,RcAt.int_list _ _ f.isList c,RcNeAt.int_list _ _ f.isList c⟩
   |_=>first|(simp[dLe]at he;done)|exact ih (A:=A) (by exact V4 (by assumption)) (by simp[dLe]) (by simp[dLe]) B p z u
  |str a =>
   cases e with
   |tup l =>
    obtain⟨b,C,rfl,g,m⟩:=id p;cases u;obtain⟨h,o,f,_⟩:=I.tuple g;obtain⟨t,rfl⟩:=B.at z;simp only[eqD];exact⟨EqAt.str_tuple _ _ f c,RcAt.str_tuple _ _ f c,RcNeAt.str_tuple _ _ f c⟩
   |lst l =>
    obtain⟨b,C,rfl,g,m⟩:=id p;cases u;obtain⟨h,o,f,_⟩:=I.list (SqL.of g);obtain⟨t,rfl⟩:=B.at z;simp only[eqD];exact⟨EqAt.str_list _ _ f.isList c,RcAt.str_list _ _ f.isList c,RcNeAt.str_list _ _ f.isList c⟩
   |_=>first|(simp[dLe]at he;done)|exact ih (A:=A) (by exact V4 (by assumption)) (by simp[dLe]) (by simp[dLe]) B p z u
  |_=>simp[dLe]at hd
end
section
variable{X:Cx}{a b c e:O4}{es:List O4}{te ta Z:TEd}{pos:Pos}{st:ae4}{rest:List ae4}{t u:TSd}
def AO:TSd:=fun E a M=>E.nx a M
def Gn(t u:TSd):TSd:=fun E a M=>t { E with nx:=u E } a M
def IJ(te:TEd):TSd:=fun E a M=>te a M E.rt
def Ab(te:TEd):TSd:=fun E a M=>te a M fun _ M1=>E.nx a M1
def Gg(c:TTd) (t u:TSd):TSd:=fun E a M=>c a M fun b M1=>if b=true then t E a M1 else u E a M1
def FH(i:Nat) (te:TEd):TSd:=fun E a M=>te a M fun d M1=>E.nx (a.set i (some d)) M1
def Gz(i:Nat) (te:TEd) (r:D->D->Option D):TSd:=fun E a M=>∃x,a[i]?=some (some x)/\te a M fun y M1=>∃z,r (rdM M1 x) (rdM M1 y)=some z/\E.nx (a.set i (some z)) M1
def BB(i:Nat) (t:TSd):TSd:=fun E c M=>∃a e,c[i]?=some (some (.ref a))/\M a=some (.lst e)/\t E (c.set i (some (.lst e))) (jO M a)
abbrev GD:=D->DE->Option DE
def PGd(X:Cx) (Y:O4) (g:GD):Prop:=∃e:TG,PG X Y e/\∀(d:D) (v:V) (h:St) (f a:DE) (M:DH) (H:Hp) (Q:St->Hp->Prop),SR X.K M H h f->HR X.K M H->Rep X.K M H d v->g d f=some a->(∀ c,SR X.K M H c a->Q c H)->e v h H Q
noncomputable def c7(i:Nat):GD:=fun d a=>some (a.set i (some d))
theorem aJ{i:Nat}{x:Str}(h:X.N.Nodup) (a:X.N[i]?=some x) (l:Loc X.env.scope x) (g:autoParam (X.fn x=true∨X.env.scope.names.lookup x=some .local) L2.zq3._auto_1):PGd X (.Name x pos) (c7 i) :=
 ⟨uk i,wf h a l g,fun d v o n c M H Q j m f e k=>by cases e;exact k _ (j.set i f)⟩
abbrev GDs:=List D->DE->Option DE
def BS(X:Cx) (e:List O4) (g:GDs):Prop:=∃f:TGs,PGs X e f/\∀(h:List D) (j:List V) (l:St) (i a:DE) (M:DH) (H:Hp) (Q:St->Hp->Prop),SR X.K M H l i->HR X.K M H->am X.K M H h j->g h i=some a->(∀ c,SR X.K M H c a->Q c H)->f j l H Q
noncomputable def kz:GDs:=fun c a=>match c with|[]=>some a|_=>none
noncomputable def dB(g:GD) (c:GDs):GDs:=fun e f=>match e with|[]=>none|d::r=>(g d f).bind fun a=>c r a
noncomputable def iH(g:GDs) (n:Nat):GD:=fun d c=>match d with|.tup a=>if a.length=n then g a c else none|_=>none
theorem gU:BS X [] kz:=⟨FO,v9,fun c j l i g M H Q f h a e k=>by
 cases c with
 |nil=>simp only[am]at a;subst a;cases e;exact⟨rfl,k _ f⟩
 |cons _ _=>cases e⟩
theorem bw{Y:O4}{a:List O4}{g:GD}{j:GDs}(I:PGd X Y g) (s:BS X a j)
  (hs:autoParam ((ad2 (Y::a) X.env).map (·.2)=at0 Y X.env::(ad2 a X.env).map (·.2)) L2.zq0._auto_1):BS X (Y::a) (dB g j):=by
 obtain⟨J,C,G⟩:=I;obtain⟨p,A,z⟩:=s;refine⟨zG J p,t9 C A hs,fun w L E n h M H Q x m o e k=>?_⟩;cases w with
 |nil=>cases e
 |cons d r =>
  simp only[am]at o;obtain⟨v,l,rfl,B,u⟩:=o;simp only[dB]at e;cases q:g d n with
  |none=>rw[q]at e;cases e
  |some c =>
   rw[q]at e;exact⟨v,l,rfl,G d v E n c M H _ x m B q fun f i=>z r l f c h M H Q i m u e k⟩
theorem ix{c:List O4}{z:Nat}{g:GDs}{n:Nat}(B:X.calm=true) (h:BS X c g) (hn:autoParam ((ad2 c X.env).length=n) L2.zq0._auto_1) (j:autoParam ((ad2 c X.env).findIdx? (·.1)=none) L2.zq0._auto_1):PGd X (.Tuple c z pos) (iH g n):=by
 obtain⟨s,u,A⟩:=h;refine⟨Ga X.K n s,Ay B u hn j,fun d v x w i M H Q C q o e k=>?_⟩;cases d with
 |tup l =>
  simp only[iH]at e
  by_cases f:l.length=n
  ·rw[if_pos f]at e;simp only[Rep]at o;obtain⟨a,m,rfl,ta,p⟩:=o;exact⟨a,m,rfl,ta.sq,by rw[<-p.length];exact f,A l m x w i M H Q C q p e k⟩
  ·rw[if_neg f]at e;cases e
 |_=>cases e
def Io(te:TEd) (g:GD):TSd:=fun E c M=>te c M fun d M1=>∃ a,g d c=some a/\E.nx a M1
abbrev TId:=DE->DH->(List D->DH->Prop)->Prop
def ItD(K:J4) (J:It) (ds:List D) (M1:DH) (H1:Hp):Prop:=∀M2 H2,Ext M1 H1 M2 H2->HR K M2 H2->∀i,(∀d,ds[i]?=some d->J.go i H2/\∀x H',J.yld i H2 x H'->Ext M2 H2 M2 H'/\HR K M2 H'/\Rep K M2 H' d x)/\(ds.length<=i->J.stop i H2)
def upI(K:J4) (f:TId):TI:=fun g H R=>∃(a:DE) (M:DH) (c:List D->DH->Prop),SR K M H g a/\HR K M H/\f a M c/\∀e M1 J H1,c e M1->Ext M H M1 H1->HR K M1 H1->ItD K J e M1 H1->R J H1
theorem upI.el{K:J4}{t:TId}{σ:St}{H:Hp}{Q:It->Hp->Prop}{P:Prop}(h:upI K t σ H Q) (f:∀(e:DE) (M:DH) (R:List D->DH->Prop),SR K M H σ e->HR K M H->t e M R->(∀ds M1 J H1,R ds M1->Ext M H M1 H1->HR K M1 H1->ItD K J ds M1 H1->Q J H1)->P):P:=by
 obtain⟨g,j,i,a,b,c,d⟩:=h;exact f g j i a b c d
def PId(X:Cx) (Y B:O4) (a:TId):Prop:=PI X Y B (upI X.K a)
theorem PI.conv{Y B:O4}{w a:TI}(h:PI X Y B w) (k:∀ σ H R,a σ H R->w σ H R):PI X Y B a:=fun p s σ H R I q=>h p s σ H R I (k σ H R q)
variable{Y B:O4}
noncomputable def oO(lo:Int) (n:Nat):List D:=(N5 n).map fun(k:Nat)=>.int (lo+(k:Int))
theorem cm{lo:Int}{n i:Nat}{d:D}(h:(oO lo n)[i]?=some d):i<n/\d=.int (lo+i):=by
 unfold oO at h;rw[N9]at h
 by_cases a:i<n
 ·rw[List.getElem?_range a]at h;cases h;exact⟨a,rfl⟩
 ·rw[Q5 (by simp;omega)]at h;cases h
theorem wN{K:J4}{lo:Int}{n:Nat}{M1:DH}{H1:Hp}:ItD K (Itr lo n) (oO lo n) M1 H1:=fun M2 H2 h a i=>⟨fun d c=>by
  obtain⟨g,rfl⟩:=cm c;refine⟨g,fun x H' z37z=>?_⟩;obtain⟨f,y⟩:=z37z;subst f;subst y;exact⟨Ext.refl _ _,a,by simp[Rep]⟩,fun e=>by
  show n<=i;simpa[oO]using e⟩
def zH(ta:TAd):TId:=fun c M R=>ta c M fun a M1=>∃j:Int,a=[.int j]/\-(2 ^ 62)<=j/\j<2 ^ 62/\R (oO 0 j.toNat) M1
def zK(ta:TAd):TId:=fun c M R=>ta c M fun a M1=>∃i j:Int,a=[.int i,.int j]/\(-(2 ^ 62)<=i/\i<2 ^ 62/\-(2 ^ 62)<=j/\j<2 ^ 62)/\R (oO i (j-i).toNat) M1
def dj(g:GD) (Z:TSd) (E:fT):List D->DE->DH->Prop
 |[],c,M=>E.nx c M
 |d::e,c,M=>∃ a,g d c=some a/\Z { E with nx:=dj g Z E e,ct:=dj g Z E e,bk:=E.nx } a M
def GO(c:TId) (g:GD) (Z:TSd):TSd:=fun E a M=>c a M fun e M1=>dj g Z E e a M1
def AK(c:TTd) (Z:TSd):TSd:=fun E e M=>∃W:Nat->DE->DH->Prop,(∃m,W m e M)/\∀m e M,W m e M->c e M fun b M1=>if b=true then Z { E with nx:=fun a M'=>∃f,f<m/\W f a M',ct:=fun a M'=>∃f,f<m/\W f a M',bk:=E.nx } e M1 else E.nx e M1
end
def xx:D->Prop
 |.tup a=>a.length<=K0
 |.lst a=>a.length<=K0
 |.scr a=>a.length<=K0
 |_=>True
section
variable{X:Cx}{a b c e:O4}{es:List O4}{te ta tb:TEd}{Y:Pos}{tg iter elt:O4}
theorem aQ.len{K:J4}{g:List (K1×Obj)}{σ:St}{H:Hp}{s:J5}{M:DH}{d:D}{v:V}(I:Inv X g σ H s) (h:Rep X.K M H d v):xx d:=by
 cases d with
 |tup c =>
  simp only[Rep]at h;obtain⟨a,f,e,t,r⟩:=h;obtain⟨_,_,_,z⟩:=I.tuple t.sq;simp only[xx];rw[r.length];exact z
 |lst c =>
  simp only[Rep]at h;obtain⟨a,f,e,t,r⟩:=h;obtain⟨_,_,_,z⟩:=I.list (SqL.of t.1);simp only[xx];rw[r.length];exact z
 |scr c =>
  simp only[Rep]at h;obtain⟨a,f,e,t,r⟩:=h;obtain⟨_,_,_,z⟩:=I.list t.sq;simp only[xx];rw[r.length];exact z
 |_=>trivial
noncomputable def cD:List Bool->DE->DE
 |true::c,v::a=>v::cD c a
 |false::c,_::a=>none::cD c a
 |[],_::a=>none::cD [] a
 |_,[]=>[]
noncomputable def sV(ms:List Bool) (k:Nat) (a:DE):DE:=cD ms a++O0 k none
theorem cS:∀(ms:List Bool) (σ:DE),(cD ms σ).length=σ.length
 |true::ms,v::σ=>by simp[cD,cS ms σ]
 |false::ms,_::σ=>by simp[cD,cS ms σ]
 |[],_::σ=>by simp[cD,cS [] σ]
 |[],[]=>by simp[cD]
 |true::_,[]=>by simp[cD]
 |false::_,[]=>by simp[cD]
theorem i8:∀{ms:List Bool}{σ:DE}{i:Nat}{v:D},(cD ms σ)[i]?=some (some v)->ms[i]?=some true/\σ[i]?=some (some v)
 |true::ms,v::σ,0,x,h=>by simpa[cD]using h
 |true::ms,v::σ,i+1,x,h=>by
  have:=i8 (ms:=ms) (σ:=σ) (i:=i) (v:=x) (by simpa[cD]using h);simpa using this
 |false::ms,_::σ,0,x,h=>by simp[cD]at h
 |false::ms,_::σ,i+1,x,h=>by
  have:=i8 (ms:=ms) (σ:=σ) (i:=i) (v:=x) (by simpa[cD]using h);simpa using this
 |[],_::σ,0,x,h=>by simp[cD]at h
 |[],_::σ,i+1,x,h=>by
  have:=i8 (ms:=[]) (σ:=σ) (i:=i) (v:=x) (by simpa[cD]using h);simpa using this
 |[],[],_,_,h=>by simp[cD]at h
 |true::_,[],_,_,h=>by simp[cD]at h
 |false::_,[],_,_,h=>by simp[cD]at h
theorem jB:∀{ms:List Bool}{σ:St}{i:Nat}{v:V},ms[i]?=some true->σ[i]?=some (some v)->(bS ms σ)[i]?=some (some v)
 |true::ms,v::σ,0,x,h,a=>by simpa[bS]using a
 |true::ms,v::σ,i+1,x,h,a=>by
  have:=jB (ms:=ms) (σ:=σ) (i:=i) (v:=x) (by simpa using h) (by simpa using a);simpa[bS]using this
 |false::ms,_::σ,0,x,h,a=>by simp at h
 |false::ms,_::σ,i+1,x,h,a=>by
  have:=jB (ms:=ms) (σ:=σ) (i:=i) (v:=x) (by simpa using h) (by simpa using a);simpa[bS]using this
 |[],_,_,_,h,_=>by simp at h
 |_::_,[],_,_,_,h=>by simp at h
theorem SR.comp{K:J4}{M:DH}{H:Hp}{σ:St}{a:DE}(ms:List Bool) (k:Nat) (h:SR K M H σ a):SR K M H (gg ms k σ) (sV ms k a):=by
 refine⟨by simp[gg,sV,bV,cS,h.1],fun i d q=>?_⟩;unfold sV at q
 by_cases c:i<(cD ms a).length
 ·rw[T0 c]at q;obtain⟨m,e⟩:=i8 q;obtain⟨v,g,f⟩:=h.2 i d e;refine⟨v,?_,f⟩;have:=jB m g;unfold gg;rw[T0 (by rw[bV,h.1,<-cS ms];exact c)];exact this
 ·rw[ab2 (by lia),ah6]at q
  split at q<;>cases q
def cV(g:GD) (tc:TTd) (te:TEd):List D->DE->DH->List D->(List D->DH->Prop)->Prop
 |[],_,M,c,Q=>Q c M
 |d::e,f,M,c,Q=>∃ a,g d f=some a/\tc a M fun b M1=>if b=true then te a M1 fun y M2=>cV g tc te e a M2 (c++[y]) Q else cV g tc te e a M1 c Q
def dLc(ms:List Bool) (k:Nat) (f:TId) (g:GD) (tc:TTd) (te:TEd):TEd:=fun a M Q=>f a M fun c M1=>c.length<=K0/\cV g tc te c (sV ms k a) M1 [] fun e M2=>Q (.lst e) M2
def G2(X:Cx) (a:List O4) (t:TTd):Prop:=PIf X a (upT X.K t)
def CO:TTd:=fun _ M Q=>Q true M
abbrev wb(K:J4) (g:GD) (h:TG):Prop:=∀(d:D) (v:V) (f:St) (e a:DE) (M:DH) (H:Hp) (Q:St->Hp->Prop),SR K M H f e->HR K M H->Rep K M H d v->g d e=some a->(∀ c,SR K M H c a->Q c H)->h v f H Q
theorem Dv{K:J4}{g:GD}{tc:TTd}{te:TEd}{O:TG}(kg:wb K g O) {J:It}{ds:List D}{M1:DH}{H1:Hp}(it:ItD K J ds M1 H1) (N:HR K M1 H1) (hz:ds.length<=K0) {R:List D->DH->Prop}{σ:St}{Q:DE}(Y:SR K M1 H1 σ Q) (q:cV g tc te ds Q M1 [] R) :
  ∃(W:Nat->Nat->List V->St->Hp->Prop) (Z:List V->St->Hp->Prop),(∃m,W 0 m [] σ H1)/\rC J O (upT K tc) (tN (up K te)) W Z/\∀l h H',Z l h H'->∃M' a,Ext M1 H1 M' H'/\HR K M' H'/\am K M' H' a l/\R a M':=by
 refine⟨fun i m l h H'=>∃ o M' a,m=ds.length-i/\i<=ds.length/\Ext M1 H1 M' H'/\HR K M' H'/\SR K M' H' h o/\am K M' H' a l/\a.length<=i/\cV g tc te (ds.drop i) o M' a R,_,
  ⟨ds.length,_,M1,[],by simp,P1 _,Ext.refl _ _,N,Y,am.nil,by simp,q⟩,?_,fun _ _ _ z=>z⟩
 rintro i m l H H2 ⟨L,M2,a,rfl,a1,C,n,E,B,la,s⟩;have T:l.length<=K0:=by rw[<-B.length];lia
 refine⟨T,?_⟩;obtain⟨go,stop⟩:=it M2 H2 C n i
 by_cases e:i<ds.length
 ·have hd:ds[i]?=some ds[i]:=by simp[e]
  obtain⟨g1,y1⟩:=go _ hd;rw[ac2 e]at s;simp only[cV]at s;obtain⟨c,eg,f3⟩:=s;refine .inr ⟨g1,fun x H' S=>?_⟩;obtain⟨w,u,U⟩:=y1 x H' S;refine kg _ x H L c M2 H' _ (E.ext w) u U eg fun a0 f=>?_;refine⟨c,M2,_,f,u,f3,fun b P H4 A j p=>?_⟩;cases b with
  |true =>
   simp only[if_true]at A ⊢;refine⟨c,P,_,f.ext j,p,A,fun y X v5 H5 q5 I G M=>?_⟩;refine⟨ds.length-(i+1),by lia,c,X,a++[y],rfl,e,((C.trans w).trans j).trans I,G,(f.ext j).ext I,(((B.ext w).ext j).ext I).append (am.cons M am.nil),by simp;assumption,q5⟩
  |false =>
   simp only[J9,if_false]at A ⊢;exact⟨ds.length-(i+1),by lia,c,P,a,rfl,e,(C.trans w).trans j,p,f.ext j,(B.ext w).ext j,by exact P9 (by assumption),A⟩
 ·rw[ai8 (by lia)]at s;exact .inl ⟨stop (by lia),M2,a,C,n,B,s⟩
theorem wk{K:J4}{j:TId}{g:GD}{tc:TTd}{te:TEd}{i:TG}{ms:List Bool}{f:Nat}(G:wb K g i) :
  ∀ σ H Q,up K (dLc ms f j g tc te) σ H Q->tLc ms f (upI K j) i (upT K tc) (up K te) σ H Q:=by
 rintro σ H Q ⟨C,M,R,l,B,q,k⟩;refine⟨C,M,_,l,B,q,fun O M1 J H1 z38z h e n=>?_⟩;obtain⟨o,x⟩:=z38z;obtain⟨W,Z,E,s,L⟩:=Dv G n e o ((l.ext h).comp ms f) x;refine⟨W,Z,E,s,fun w u H' p z c=>?_⟩;obtain⟨M',N,m,a,I,A⟩:=L _ _ _ z;refine k _ M' _ _ A ((h.trans m).trans (Ext.new a c)) (a.new c) ?_;simp only[Rep];exact⟨p,w,rfl,⟨aK,a.fresh c⟩,I.ext (Ext.new a c)⟩
variable{B:ai7}{cl:List (Str×K1)}{ms:List Bool}{aq:List Str}{ifs:List O4}
def PGa(X:Cx) (B:ai7) (cl:List (Str×K1)) (aq:List Str) (tg:O4) (g:GD):Prop:=∃a:TG,(∀C s H c,PG (aD X B cl (X.N++aq) C s H c) tg a)/\wb X.K g a
theorem aH{i:Nat}{x:Str}{Y:Pos}(h:(X.N++aq).Nodup) (c:(X.N++aq)[i]?=some x) (a:(relabel B X.env).names.lookup x=some .local):PGa X B cl aq (.Name x Y) (c7 i) :=
 ⟨uk i,fun C s H l=>wf h c (.inl a) (.inr a),fun d v o n f M H Q j m g e k=>by cases e;exact k _ (j.set i g)⟩
end
abbrev SpD:=List D->DH->(D->DH->Prop)->Prop
def spD(K:J4) (n:Nat) (S:SpD):Sp:=fun c H Q _=>∃(a:List D) (M:DH) (R:D->DH->Prop),a.length=n/\am K M H a c/\HR K M H/\S a M R/\∀d M' v H',R d M'->Ext M H M' H'->HR K M' H'->Rep K M' H' d v->Q v H'
theorem C8{K:J4}{n:Nat}{S:SpD}{a:List V}{H:Hp}{Q:VK}{E:XK}(h:spD K n S a H Q E):a.length=n:=by
 obtain⟨e,M,R,c,r,_⟩:=h;rw[<-r.length];exact c
noncomputable def jE(N:List Str) (ds:List D):DE:=ds.map some++O0 (N.length-ds.length) none
theorem yW{K:J4}{M:DH}{H:Hp}{N:List Str}:∀{ds:List D}{a:List V},am K M H ds a->SR K M H (gJ N a) (jE N ds):=by
 intro ds a h;have g:=h.length;refine⟨by simp[gJ,jE,g],fun i d q=>?_⟩;unfold jE at q
 by_cases c:i<ds.length
 ·rw[T0 (by simpa using c),N9]at q;cases e:ds[i]? with
  |none=>rw[e]at q;cases q
  |some l =>
   rw[e]at q;cases q;obtain⟨v,f,j⟩:=h.get e;refine⟨v,?_,j⟩;unfold gJ;rw[T0 (by simp;lia),N9,f];rfl
 ·rw[ab2 (by simpa using c),ah6]at q
  split at q<;>cases q
section
variable{P:M9}{w:P5}{K:J4}{z:Str->Option J3}{base:L5}{f:K1}{y:N2}
theorem Fun.okD{x c:Str}{st:ae4}{f:K1}{y:N2}{N ps:List Str}{k n:Nat}{S:SpD}(F:Fun K x c st f y) (hn:ps.length=n) (p:au N ps (ai st))
  (g:∀ (e:J3) (A:O9) (a:List Env) (s:J5) (H:Hp) (E:XK),cv k (A.deeper (au5 c (ai st) s.heap.objs.size f e)) →
   ∃t:TSd,Dj (sP CX0 P w K z base N c (ai st) f e A a s H E).nox (dE st) t/\∀ds M R,ds.length=n->S ds M R->t { nx:=fun _ M'=>R .non M',rt:=R } (jE N ds) M):aR P w K z base CX0 (k+1) f y ps (spD K n S):=by
 refine F.ok p (fun L H Q E h=>by rw[hn];exact C8 h) (fun e A a s H L Q E J h=>?_);obtain⟨t,B,G⟩:=g e A a s H E J;obtain⟨ds,M,R,I,r,m,q,o⟩:=h;refine⟨_,B,jE N ds,M,_,yW r,m,G ds M R I q,⟨fun u M' C H' i l j _=>o .non M' .non H' i l j (by simp[Rep]),fun _ _ _ _ i=>ad1 i,fun _ _ _ _ i=>ad1 i,fun d M' v H' i l j O=>o d M' v H' i l j O⟩⟩
end
section
variable{X:Cx}{a b c e:O4}{y:List O4}{te B I:TEd}{t:TAd}{z:Pos}
def su(n:Nat) (S:SpD) (t:TAd):TEd:=fun c M Q=>t c M fun a M1=>a.length=n/\S a M1 Q
theorem Gc{k:Nat}{f:K1}{i:N2}{ps:List Str}{n:Nat}{S:SpD}{x:Str}{p:Pos}(F:aR X.prog X.w X.K X.mg X.base CX0 k f i ps (spD X.K n S)) (hr:cv k X.A) (hg:Gl X x) (A:X.mg x=some (.ref f)) (G:ab9 X.K (.ref f)=true) (B:dN X.K i ps [])
  (ha:PAd X (e::y) t) (hdb:autoParam ((x==("__debug__":Str))=false) L2.zq1._auto_1) (he:autoParam (K8 (e::y) X.env=(false,af7 e X.env)::K8 y X.env) L2.zq0._auto_1) (hpl:autoParam ((aa2 z (K8 y X.env)).any (·.1)=false) L2.zq0._auto_1) :
  PEd X (.Call (.Name x p) (e::y) [] z) (su n S t) :=
 (Co F hr hg A G B .nil yV ha hdb he hpl).conv fun I H Q g => g.el fun C M R u hr q k => ⟨C,M,_,u,hr,q,fun s M1 J H1 z39z j h E => by
  obtain⟨o,l⟩:=z39z
  (try dsimp only);rw[ag7];exact⟨s,M1,R,o,E,h,l,fun d M' v H' m w c a=>k d M' v H' m (j.trans w) c a⟩⟩
def EH(f te:TEd):TEd:=fun e M Q=>f e M fun o M1=>∃a l,o=.ref a/\M1 a=some (.lst l)/\te e M1 fun d M2=>∃c,M2 a=some (.lst c)/\c.length<K0/\Q .non (aN M2 a (.lst (c++[d])))
end
noncomputable def ItW(n:Nat) (a:Nat->V->Prop):It:=⟨fun i _=>i<n,fun i H x H'=>H'=H/\a i x,fun i _=>n<=i⟩
theorem yy{P:M9}{w:P5}{K:J4}{tg:O4}{it:K1}{n:Nat}{Z:Nat->J3->Prop}{St:Nat->L5->Prop}{ty:String}{Y:Nat->V->Prop}
  (W:∀A:O9,A.handled=none->av4 P w A it [it] [it] n Z St) (T:∀i h,St i h->∃o,h.get? it=some o/\o.cls=.type ty/\∃M,o.data=.fields M)
  (hn:["enumerate","zip","dict_itemiterator","dict_reverseitemiterator","odict_iterator","itertools.zip_longest","itertools.pairwise"].contains ty=false)
  (hv:∀i u,Z i u->∃x,aF x u/\Y i x) (a:∀(A:O9) (i:Nat) (s:J5) (Q:J3->J5->Prop) (E:J3->J5->Prop),St i s.heap->Q (.ref it) s->K5 (N3 P w) A (au4 (.ref it)) Q E s):lZ P w K tg (ItW n Y) [it] it (fun i h=>i<=n/\St i h) where
 mem:=by simp
 obj:=fun i h st b f=>by
  have e:b=it:=by simpa using f
  subst e;obtain⟨o,e,c,M,d⟩:=T i h st.2;exact⟨o,e,fun v z=>by rw[d]at z;cases z⟩
 keep:=fun i h g st k=>⟨st.1,(W { handled:=none } rfl).frame i h g st.2 k⟩
 item:=by
  intro X p C hK B i S s U H E I m st l;subst p C hK;obtain⟨N,q,f2,L,R,G⟩:=m it (by simp);refine(W X.A (I.ok.hd B)).item i s _ _ l st.2 fun v g J pv j O=>?_;have I1:Inv X S U H { s with heap:=g,toks:=J }:=I.turned (fun b o f e=>O b o (by simpa using f) e) N q L R G;obtain⟨x,rx,vx⟩:=hv i v pv;obtain⟨o,e,c,M,d⟩:=T _ _ j;exact⟨v,rfl,p8 (s:={ s with heap:=g,toks:=J }) e c d hn ⟨x,H,I1,rx,⟨rfl,vx⟩,⟨l,j⟩,fun b f=>(m b f).1⟩⟩
 done:=by
  intro X p C hK B i S s U H E I m st l;subst p C hK;obtain⟨N,q,f2,L,R,G⟩:=m it (by simp);have e:i=n:=Nat.le_antisymm st.1 l;subst e;exact(W X.A (I.ok.hd B)).done s _ _ st.2 fun g J O=>⟨rfl,I.turned (fun b o f e=>O b o (by simpa using f) e) N q L R G⟩
 self:=fun A i s Q E st h=>a A i s Q E st.2 h
section
variable{X:Cx}{a b c e:O4}{N:List O4}{te Y Z:TEd}{t:TAd}{z:Pos}{B y:O4}
noncomputable def fY(x:Str):List D:=x.cps.toList.map fun c=>.str ⟨#[c]⟩
theorem wA{f:List (K1×Obj)}{σ:St}{H:Hp}{s:J5}{x:Str}{t:Tok}{R:It->Hp->Prop}(I:Inv X f σ H s) (ty:String) (hn:["enumerate","zip","dict_itemiterator","dict_reverseitemiterator","odict_iterator","itertools.zip_longest","itertools.pairwise"].contains ty=false)
  (W:∀A:O9,A.handled=none->av4 X.prog X.w A s.heap.objs.size [s.heap.objs.size] [s.heap.objs.size] x.cps.size (SignAt x) (fun i h=>h.IsStrIter s.heap.objs.size ty x t i))
  (a:∀(A:O9) (i:Nat) (s':J5) (Q:J3->J5->Prop) (E:J3->J5->Prop),s'.heap.IsStrIter s.heap.objs.size ty x t i->Q (.ref s.heap.objs.size) s'->K5 (N3 X.prog X.w) A (au4 (.ref s.heap.objs.size)) Q E s')
  (q:R (ItW x.cps.size fun i v=>∃c,x.cps[i]?=some c/\v=.str ⟨#[c]⟩) H):PIE X f σ B R (.ref s.heap.objs.size) { s with heap:=s.heap.push { cls:=.type ty,data:=.fields #[.str x t,.int 0 0] } }:=by
 have j:Inv X f σ H { s with heap:=s.heap.push { cls:=.type ty,data:=.fields #[.str x t,.int 0 0] } }:=I.kept (t':=s.toks) fun b o e=>u8 _ e;refine⟨s.heap.objs.size,[s.heap.objs.size],_,_,H,rfl,j,yy W (fun i h st=>?_) hn (fun i u z40z=>by obtain⟨c,g,e,m⟩:=z40z;exact ⟨.str ⟨#[c]⟩,⟨g,m⟩,c,e,rfl⟩) a,⟨P1 _,_,J8 _ rfl,rfl,rfl⟩,fun b l=>?_,q⟩
 ·obtain⟨o,e,c,d⟩:=st;exact⟨o,e,c,_,d⟩
 ·have e:b=s.heap.objs.size:=by simpa using l
  subst e;exact I.fpOk (J7 _) (I.hok.fresh (J7 _))
end
section
variable{X:Cx}{a b c e:O4}{N:List O4}{te W Y:TEd}{t:TAd}{B:Pos}
noncomputable def eqF(x y:D):Option D:=if dLe x 60=true/\dLe y 60=true then some (.bl (eqD x y))else none
theorem zL{x y z:D}(h:eqF x y=some z):dLe x 60=true/\dLe y 60=true/\z=.bl (eqD x y):=by
 unfold eqF at h
 by_cases a:dLe x 60=true/\dLe y 60=true
 ·rw[if_pos a]at h;cases h;exact⟨a.1,a.2,rfl⟩
 ·rw[if_neg a]at h;cases h
theorem eK(g:X.A.units+64<Z4):bL X (Q9 .Eq) eqF:=by
 intro f s h H M x y v u dx dy dz Q I hr rx ry r1 r2 e k;obtain⟨a,c,rfl⟩:=zL e;exact(zy I 60 (A:=X.A) (by lia) a c r1 r2 rx ry).2.1 X.prog X.w X.xe _ ⟨.bl (eqD dx dy),H,I,rfl,k _ H (Ext.refl _ _) hr (by simp[Rep])⟩
noncomputable def inD(c:Bool) (x y:D):Option D:=match y with
 |.lst a=>if bt x=true/\a.all bt=true then some (.bl (xor c (a.any fun d=>eqD d x)))else none
 |.tup a=>if bt x=true/\a.all bt=true then some (.bl (xor c (a.any fun d=>eqD d x)))else none
 |_=>none
theorem Fl{K:J4}{M:DH}{H:Hp}{d:D}{v:V}(h:bt d=true) (r:Rep K M H d v):v=toV d/\iF v=true:=by
 cases d<;>first|(simp only[Rep]at r;subst r;exact⟨rfl,rfl⟩)|cases h
theorem Cy{x y:D}(a:bt x=true) (c:bt y=true):eqV (toV x) (toV y)=eqD x y:=by
 cases x<;>cases y<;>first|(simp[bt]at a;done)|(simp[bt]at c;done)|(simp[toV,eqV,eqD];done)
theorem g6{K:J4}{M:DH}{H:Hp}{x:D}(f:bt x=true):∀{ds:List D}{c:List V},am K M H ds c->ds.all bt=true->c.all iF=true/\inV (toV x) c=ds.any fun d=>eqD d x
 |[],_,h,_=>by simp only[am]at h;subst h;simp[inV]
 |d::ds,_,h,a=>by
  simp only[am]at h;obtain⟨v,n,rfl,i,j⟩:=h;rw[ah7,O1]at a;obtain⟨g,m⟩:=Fl a.1 i;obtain⟨l,e⟩:=g6 f j a.2;subst g;refine⟨by rw[ah7,m,l];rfl,?_⟩;unfold inV at e ⊢;rw[ac0,ac0,e,Cy a.1 f]
theorem aQ.scal{K:J4}{M:DH}{H:Hp}{d:D}{v:V}(h:bt d=true) (r:aQ K M H d v):v=toV d/\iF v=true:=by
 cases d<;>first|(simp only[aQ,Rep]at r;subst r;exact⟨rfl,rfl⟩)|cases h
theorem IZ:bL X (Q9 .In) (inD false):=bL.of xR fun H M x y n u w Q p o s e q=>by
 cases u with
 |lst g =>
  simp only[inD]at e
  by_cases a:bt n=true/\g.all bt=true
  ·rw[if_pos a]at e;cases e;obtain⟨l,h,rfl,sq,i⟩:=s;obtain⟨f,c⟩:=aQ.scal a.1 o;obtain⟨m,j⟩:=g6 a.1 i a.2;subst f;refine⟨l,h,rfl,.inl (SqL.of sq),c,m,q _ H (Ext.refl _ _) p ?_⟩;rw[j];simp[Rep]
  ·rw[if_neg a]at e;cases e
 |tup g =>
  simp only[inD]at e
  by_cases a:bt n=true/\g.all bt=true
  ·rw[if_pos a]at e;cases e;obtain⟨l,h,rfl,sq,i⟩:=s;obtain⟨f,c⟩:=aQ.scal a.1 o;obtain⟨m,j⟩:=g6 a.1 i a.2;subst f;refine⟨l,h,rfl,.inr sq,c,m,q _ H (Ext.refl _ _) p ?_⟩;rw[j];simp[Rep]
  ·rw[if_neg a]at e;cases e
 |_=>cases e
theorem BL:bL X (Q9 .NotIn) (inD true):=bL.of rR fun H M x y n u w Q p o s e q=>by
 cases u with
 |lst g =>
  simp only[inD]at e
  by_cases a:bt n=true/\g.all bt=true
  ·rw[if_pos a]at e;cases e;obtain⟨l,h,rfl,sq,i⟩:=s;obtain⟨f,c⟩:=aQ.scal a.1 o;obtain⟨m,j⟩:=g6 a.1 i a.2;subst f;refine⟨l,h,rfl,.inl (SqL.of sq),c,m,q _ H (Ext.refl _ _) p ?_⟩;rw[j];simp[Rep]
  ·rw[if_neg a]at e;cases e
 |tup g =>
  simp only[inD]at e
  by_cases a:bt n=true/\g.all bt=true
  ·rw[if_pos a]at e;cases e;obtain⟨l,h,rfl,sq,i⟩:=s;obtain⟨f,c⟩:=aQ.scal a.1 o;obtain⟨m,j⟩:=g6 a.1 i a.2;subst f;refine⟨l,h,rfl,.inr sq,c,m,q _ H (Ext.refl _ _) p ?_⟩;rw[j];simp[Rep]
  ·rw[if_neg a]at e;cases e
 |_=>cases e
noncomputable def nW(f:D->Option D):List D->Option D
 |[d]=>f d
 |_=>none
theorem kW{K:J4}{M:DH}{H:Hp}{d:D}{xs:List V}(h:ad0 (aQ K M H) [d] xs):∃v,xs=[v]/\aQ K M H d v:=by
 cases h with
 |cons r t=>cases t;exact⟨_,rfl,r⟩
theorem cw{f:D->Option D}{ds:List D}{z:D}(h:nW f ds=some z):∃d,ds=[d]/\f d=some z:=by
 match ds,h with
 |[d],h=>exact⟨d,rfl,h⟩
noncomputable def xS:D->Option D
 |.tup a=>some (.int a.length)
 |.lst a=>some (.int a.length)
 |.scr a=>some (.int a.length)
 |.str x=>if x.length<=K0 then some (.int x.length)else none
 |_=>none
theorem bR:bD X (.builtin "len") (nW xS):=bD.of (di.or rY rF) fun H M m h n Q f j e q=>by
 obtain⟨d,rfl,i⟩:=cw e;clear e;have e:=i;clear i;obtain⟨v,rfl,r⟩:=kW j;cases d with
 |tup h=>cases e;obtain⟨l,a,rfl,sq,c⟩:=r;exact .inl ⟨l,a,rfl,.inr sq,q _ H (Ext.refl _ _) f (by rw[<-c.length];simp[Rep])⟩
 |lst h=>cases e;obtain⟨l,a,rfl,sq,c⟩:=r;exact .inl ⟨l,a,rfl,.inl (SqL.of sq),q _ H (Ext.refl _ _) f (by rw[<-c.length];simp[Rep])⟩
 |scr h=>cases e;obtain⟨l,a,rfl,sq,c⟩:=r;exact .inl ⟨l,a,rfl,.inl sq,q _ H (Ext.refl _ _) f (by rw[<-c.length];simp[Rep])⟩
 |str x =>
  simp only[xS]at e
  by_cases g:x.length<=K0
  ·rw[if_pos g]at e;cases e;exact .inr ⟨x,by rw[px r],g,q _ H (Ext.refl _ _) f (by simp[Rep])⟩
  ·rw[if_neg g]at e;cases e
 |_=>cases e
noncomputable def Hq:D->Option D
 |.int i=>some (.int (if i<0 then -i else i))
 |_=>none
theorem Gy:bD X (.builtin "abs") (nW Hq):=bD.of As fun H M h j g Q f c e q=>by
 obtain⟨d,rfl,a⟩:=cw e;clear e;have e:=a;clear a;obtain⟨v,rfl,r⟩:=kW c;cases d with
 |int i=>cases e;exact⟨i,by rw[fX r],q _ H (Ext.refl _ _) f (by simp[Rep])⟩
 |_=>cases e
noncomputable def CS:D->Option D
 |.lst a=>some (.tup a)
 |.tup a=>some (.tup a)
 |_=>none
theorem cb:bD X (.type "tuple") (nW CS):=bD.of oZ fun H M n f o Q a j e q=>by
 obtain⟨d,rfl,g⟩:=cw e;clear e;have e:=g;clear g;obtain⟨v,rfl,r⟩:=kW j;cases d with
 |lst f=>cases e;obtain⟨l,c,rfl,sq,h⟩:=r;exact⟨l,c,rfl,.inl ⟨SqL.of sq,fun p m=>oU a m h q⟩⟩
 |tup f=>cases e;have i:=aQ.tup a r;obtain⟨l,c,rfl,sq,h⟩:=r;exact⟨l,c,rfl,.inr ⟨sq,q _ H (Ext.refl _ _) a i⟩⟩
 |_=>cases e
noncomputable def II:D->Option D
 |.lst a=>some (.lst a)
 |.scr a=>some (.lst a)
 |.tup a=>some (.lst a)
 |_=>none
theorem u6:bD X (.type "list") (nW II):=bD.of rK fun H M m h n Q g j e q=>by
 obtain⟨d,rfl,i⟩:=cw e;clear e;have e:=i;clear i;obtain⟨v,rfl,r⟩:=kW j;cases d with
 |lst h=>cases e;obtain⟨l,c,rfl,sq,f⟩:=r;exact⟨l,c,rfl,.inl (SqL.of sq),fun p a=>dq g a f q⟩
 |scr h=>cases e;obtain⟨l,c,rfl,sq,f⟩:=r;exact⟨l,c,rfl,.inl sq,fun p a=>dq g a f q⟩
 |tup h=>cases e;obtain⟨l,c,rfl,sq,f⟩:=r;exact⟨l,c,rfl,.inr sq,fun p a=>dq g a f q⟩
 |_=>cases e
noncomputable def vj:D->Bool
 |.bl _=>true
 |_=>false
noncomputable def qR:D->Bool
 |.bl b=>b
 |_=>false
noncomputable def B9:D->Option D
 |.lst a=>if a.all vj=true then some (.bl (a.all qR))else none
 |_=>none
noncomputable def Dc:D->Option D
 |.lst a=>if a.all vj=true then some (.bl (a.any qR))else none
 |_=>none
theorem xI{p:Nat->Bool}{q:D->Bool}:∀{ds:List D},(∀i d,ds[i]?=some d->p i=q d)->(N5 ds.length).all p=ds.all q:=by
 intro ds h;rw[S8,R8,R8];constructor
 ·intro c d f;obtain⟨i,a,e⟩:=ak5.mp f;rw[<-h i d (by rw[J6 a,e])];exact c i (P6.mpr a)
 ·intro c i a;have a:=P6.mp a;rw[h i ds[i] (by simp[a])];exact c _ (V6 a)
theorem xY{p:Nat->Bool}{q:D->Bool}:∀{ds:List D},(∀i d,ds[i]?=some d->p i=q d)->(N5 ds.length).any p=ds.any q:=by
 intro ds h;rw[S8,List.any_eq_true,List.any_eq_true];constructor
 ·rintro⟨i,a,g⟩;have a:=P6.mp a;exact⟨ds[i],V6 a,by rw[<-h i ds[i] (by simp[a])];exact g⟩
 ·rintro⟨d,c,f⟩;obtain⟨i,a,e⟩:=ak5.mp c;exact⟨i,P6.mpr a,by rw[h i d (by rw[J6 a,e])];exact f⟩
theorem sh{K:J4}{M:DH}{H:Hp}{ds:List D}{f:List V}{us:List J3}(j:am K M H ds f) (l:ax f us) (m:ds.all vj=true) {i:Nat}{u:J3}(h:us[i]?=some u):∃d,ds[i]?=some d/\u=.bool (qR d):=by
 have c:i<ds.length:=by rw[j.length,l.length];exact(L6.mp h).1
 obtain⟨v,g,r⟩:=j.get (i:=i) (d:=ds[i]) (by simp[c]);obtain⟨o,e,n⟩:=l.get g;rw[h]at e;cases e;have a:=R8.mp m ds[i] (V6 c);refine⟨ds[i],by simp[c],?_⟩;cases q:ds[i]with
 |bl b=>rw[q]at r;simp only[Rep]at r;subst r;exact n
 |_=>rw[q]at a;cases a
theorem j9(z:X.calm=true):bD X (.builtin "all") (nW B9):=by
 intro B s x H M P S h T Q I G a C e k;obtain⟨d,rfl,p⟩:=cw e;clear e;have e:=p;clear p;obtain⟨v,rfl,r⟩:=kW C;obtain⟨u,rfl,E⟩:=ax.one a;cases d with
 |lst h =>
  simp only[B9]at e
  by_cases g:h.all vj=true
  ·rw[if_pos g]at e;cases e;obtain⟨l,Y,rfl,sq,w⟩:=r;cases E;obtain⟨its,a,m,R⟩:=I.list (SqL.of sq);have j:l≠s.heap.objs.size:=K9 (I.hok.lt sq);refine call_all_walk (X5 m.isList ⟨s.heap.objs.size,[s.heap.objs.size,l],[s.heap.objs.size],its.toArray.size,_,_,fun i=>(h[i]?.map qR).getD false,rfl,aw6 (A:=X.A.in1) (show X.A.in1.handled=none from I.ok.hd z) s.heap.objs.size l j its.toArray,⟨⟨_,J8 _ rfl,rfl,rfl⟩,?_⟩,fun i v Z Q' U N q=>?_,fun J n O=>?_⟩)
   ·obtain⟨o,e,c⟩:=m.isList;exact⟨o,u8 _ e,c⟩
   ·obtain⟨d,f,rfl⟩:=sh w a g (i:=i) (u:=v) (by simpa using N);dsimp only at q;rw[f]at q;exact U0 q
   ·have L:Inv X B x H { s with heap:=J,toks:=n }:=I.kept (t':=n) fun b o e=>O b o (by simpa using K9 (K6 e)) (u8 _ e);refine⟨.bl _,H,L,rfl,k _ H (Ext.refl _ _) G ?_⟩;rw[K3,<-a.length,<-w.length,xI (q:=qR) (fun i d f=>by simp[f])];simp[Rep]
  ·rw[if_neg g]at e;cases e
 |_=>cases e
theorem IF(z:X.calm=true):bD X (.builtin "any") (nW Dc):=by
 intro B s x H M P S h T Q I G a C e k;obtain⟨d,rfl,p⟩:=cw e;clear e;have e:=p;clear p;obtain⟨v,rfl,r⟩:=kW C;obtain⟨u,rfl,E⟩:=ax.one a;cases d with
 |lst h =>
  simp only[Dc]at e
  by_cases g:h.all vj=true
  ·rw[if_pos g]at e;cases e;obtain⟨l,Y,rfl,sq,w⟩:=r;cases E;obtain⟨its,a,m,R⟩:=I.list (SqL.of sq);have j:l≠s.heap.objs.size:=K9 (I.hok.lt sq);refine call_any_walk (X5 m.isList ⟨s.heap.objs.size,[s.heap.objs.size,l],[s.heap.objs.size],its.toArray.size,_,_,fun i=>(h[i]?.map qR).getD false,rfl,aw6 (A:=X.A.in1) (show X.A.in1.handled=none from I.ok.hd z) s.heap.objs.size l j its.toArray,⟨⟨_,J8 _ rfl,rfl,rfl⟩,?_⟩,fun i v Z Q' U N q=>?_,fun J n O=>?_⟩)
   ·obtain⟨o,e,c⟩:=m.isList;exact⟨o,u8 _ e,c⟩
   ·obtain⟨d,f,rfl⟩:=sh w a g (i:=i) (u:=v) (by simpa using N);dsimp only at q;rw[f]at q;exact U0 q
   ·have L:Inv X B x H { s with heap:=J,toks:=n }:=I.kept (t':=n) fun b o e=>O b o (by simpa using K9 (K6 e)) (u8 _ e);refine⟨.bl _,H,L,rfl,k _ H (Ext.refl _ _) G ?_⟩;rw[K3,<-a.length,<-w.length,xY (q:=qR) (fun i d f=>by simp[f])];simp[Rep]
  ·rw[if_neg g]at e;cases e
 |_=>cases e
end
section
variable{X:Cx}{a b c e:O4}{y:List O4}{te N W:TEd}{t:TAd}{B:Pos}
noncomputable def xB(T:String):D->Option Bool
 |.non=>some false
 |.bl _=>some (T=="bool" || T=="int")
 |.int _=>some (T=="int")
 |.str _=>some (T=="str")
 |.tup _=>some (T=="tuple")
 |.lst _=>some (T=="list")
 |.emp=>some (T=="dict")
 |_=>none
noncomputable def okT(T:String):Bool:=T=="bool" || T=="int" || T=="str" || T=="tuple" || T=="list"
def HH(T:String) (te:TEd):TEd:=fun a M Q=>te a M fun d M1=>∃k,xB T (rdM M1 d)=some k/\Q (.bl k) M1
theorem xV{T:String}(w:okT T=true) {p:List (K1×Obj)}{s:J5}{σ:St}{H:Hp}{M:DH}{v:V}{u:J3}{d:D}{k:Bool}{Q:VK}(I:Inv X p σ H s) (r:aF v u) (rd:aQ X.K M H d v) (e:xB T d=some k) (q:Q (.bl k) H) :
  K5 (N3 X.prog X.w) X.A (aw9 (.builtin "isinstance") [u,.type T]) (EP X p σ Q) X.xe s:=by
 have g:∀{k'} ,k=k'->EP X p σ Q (.bool k') s:=fun e=>by subst e;exact⟨.bl k,H,I,rfl,q⟩
 have c:∀{k'} ,k=k'->EP X p σ Q (.bool k') { s with toks:=s.toks+1 }:=fun e=>by subst e;exact⟨.bl k,H,I.tok _,rfl,q⟩
 have l:T="bool"∨T="int"∨T="str"∨T="tuple"∨T="list":=by
  simp[okT]at w;rcases w with(((h|h)|h)|h)|h<;>simp[h]
 cases d with
 |non =>
  simp only[aQ,Rep]at rd;subst rd;simp only[aF]at r;subst r;cases e;rcases l with rfl|rfl|rfl|rfl|rfl
  ·exact IsiPair.NoneType_bool (c rfl)
  ·exact IsiPair.NoneType_int (c rfl)
  ·exact IsiPair.NoneType_str (c rfl)
  ·exact IsiPair.NoneType_tuple (c rfl)
  ·exact IsiPair.NoneType_list (c rfl)
 |bl b =>
  simp only[aQ,Rep]at rd;subst rd;simp only[aF]at r;subst r;cases e;rcases l with rfl|rfl|rfl|rfl|rfl
  ·exact IsiPair.bool_bool (g rfl)
  ·exact IsiPair.bool_int (g rfl)
  ·exact IsiPair.bool_str (c rfl)
  ·exact IsiPair.bool_tuple (c rfl)
  ·exact IsiPair.bool_list (c rfl)
 |int i =>
  simp only[aQ,Rep]at rd;subst rd;obtain⟨t,rfl⟩:=r;cases e;rcases l with rfl|rfl|rfl|rfl|rfl
  ·exact IsiPair.int_bool (c rfl)
  ·exact IsiPair.int_int (g rfl)
  ·exact IsiPair.int_str (c rfl)
  ·exact IsiPair.int_tuple (c rfl)
  ·exact IsiPair.int_list (c rfl)
 |str x =>
  simp only[aQ,Rep]at rd;subst rd;obtain⟨t,rfl⟩:=r;cases e;rcases l with rfl|rfl|rfl|rfl|rfl
  ·exact IsiPair.str_bool (c rfl)
  ·exact IsiPair.str_int (c rfl)
  ·exact IsiPair.str_str (g rfl)
  ·exact IsiPair.str_tuple (c rfl)
  ·exact IsiPair.str_list (c rfl)
 |tup B =>
  obtain⟨a,C,rfl,sq,E⟩:=rd;cases r;cases e;obtain⟨its,G,⟨o,f,j,_⟩,_⟩:=I.tuple sq;rcases l with rfl|rfl|rfl|rfl|rfl
  ·exact IsiPair.tuple_bool f j (c rfl)
  ·exact IsiPair.tuple_int f j (c rfl)
  ·exact IsiPair.tuple_str f j (c rfl)
  ·exact IsiPair.tuple_tuple f j (g rfl)
  ·exact IsiPair.tuple_list f j (c rfl)
 |lst B =>
  obtain⟨a,C,rfl,sq,E⟩:=rd;cases r;cases e;obtain⟨its,G,⟨o,n,f,j,_⟩,_⟩:=I.list (SqL.of sq);rcases l with rfl|rfl|rfl|rfl|rfl
  ·exact IsiPair.list_bool f j (c rfl)
  ·exact IsiPair.list_int f j (c rfl)
  ·exact IsiPair.list_str f j (c rfl)
  ·exact IsiPair.list_tuple f j (c rfl)
  ·exact IsiPair.list_list f j (g rfl)
 |emp =>
  simp only[aQ,Rep]at rd;obtain⟨a,rfl,A,_⟩:=rd;cases r;cases e;obtain⟨_,_,_,_,o,y,J,f,m,_⟩:=I.hok a _ A;rcases l with rfl|rfl|rfl|rfl|rfl
  ·exact IsiPair.dict_bool f m.1 (c rfl)
  ·exact IsiPair.dict_int f m.1 (c rfl)
  ·exact IsiPair.dict_str f m.1 (c rfl)
  ·exact IsiPair.dict_tuple f m.1 (c rfl)
  ·exact IsiPair.dict_list f m.1 (c rfl)
 |_=>cases e
abbrev TOd:=DE->DH->(Option Int->DH->Prop)->Prop
def upO(K:J4) (t:TOd):TO:=fun c H Q=>∃(a:DE) (M:DH) (R:Option Int->DH->Prop),SR K M H c a/\HR K M H/\t a M R/\∀i M' H',R i M'->Ext M H M' H'->HR K M' H'->Q i H'
theorem upO.el{K:J4}{t:TOd}{σ:St}{H:Hp}{Q:Option Int->Hp->Prop}{P:Prop}(h:upO K t σ H Q) (f:∀(e:DE) (M:DH) (R:Option Int->DH->Prop),SR K M H σ e->HR K M H->t e M R->(∀i M' H',R i M'->Ext M H M' H'->HR K M' H'->Q i H')->P):P:=by
 obtain⟨g,l,j,a,b,c,d⟩:=h;exact f g l j a b c d
def POd(X:Cx) (e:Option O4) (t:TOd):Prop:=PO X e (upO X.K t)
def se:TOd:=fun _ M Q=>Q none M
def zx(t:TEd):TOd:=fun a M Q=>t a M fun d M1=>∃i,d=.int i/\Q (some i) M1
theorem PO.conv{e:Option O4}{t t':TO}(h:PO X e t) (k:∀ σ H Q,t' σ H Q->t σ H Q):PO X e t':=fun p s σ H Q I q=>h p s σ H Q I (k σ H Q q)
theorem B4:POd X none se:=Cc.conv fun g H Q a=>a.el fun e M R f c q k=>k none M H q (Ext.refl _ _) c
theorem CJ(h:PEd X e te):POd X (some e) (zx te):=(BP h).conv fun p H Q a=>a.el fun m M R o j q k=>⟨m,M,_,o,j,q,fun d M1 v H1 z41z f c n=>by obtain⟨i,l,g⟩:=z41z;exact ⟨i,by subst l;simpa only[Rep]using n,k _ M1 H1 g f c⟩⟩
noncomputable def cj(xs:List D) (lo a:Option Int):List D:=(xs.drop (HT.sIx xs.length 0 lo)).take (HT.sIx xs.length xs.length a-HT.sIx xs.length 0 lo)
noncomputable def slD:D->Option Int->Option Int->Option D
 |.lst a,lo,c=>some (.lst (cj a lo c))
 |.scr a,lo,c=>some (.lst (cj a lo c))
 |.str x,lo,c=>if x.length<=K0 then some (.str (ap7 x lo c))else none
 |.tup a,lo,c=>if HT.sIx a.length 0 lo=0/\HT.sIx a.length a.length c=a.length then none else some (.tup (cj a lo c))
 |_,_,_=>none
def I0:V->Option Int->Option Int->Hp->VK->Prop:=fun x lo a H Q=>∃z,x=.str z/\z.length<=K0/\Q (.str (ap7 z lo a)) H
theorem F1:SlR X I0:=by
 intro o s n H x v vl vu lo hi sl Q I rx hs pl pu h;obtain⟨z,rfl,c,q⟩:=h;obtain⟨t,rfl⟩:=rx;refine⟨"str",_,PySem.F.slot_str_getitem.lookup,typeIs_str _ _ _,?_⟩;have a:∀(f:Tok) (k:Nat),EP X o n Q (.str (ap7 z lo hi) f) { s with toks:=k }:=fun f k=>⟨.str (ap7 z lo hi),H,I.tok _,⟨f,rfl⟩,q⟩;cases pl with
 |none =>
  cases pu with
  |none=>exact ah8 (l:=none) (u:=none) (st:=none) hs rfl (ap8 ⟨K4 (at7 z _ _) c,a⟩)
  |int j e=>exact ah8 (l:=none) (u:=some (j,e)) (st:=none) hs rfl (ap8 ⟨K4 (at7 z _ _) c,a⟩)
 |int i m =>
  cases pu with
  |none=>exact ah8 (l:=some (i,m)) (u:=none) (st:=none) hs rfl (ap8 ⟨K4 (at7 z _ _) c,a⟩)
  |int j e=>exact ah8 (l:=some (i,m)) (u:=some (j,e)) (st:=none) hs rfl (ap8 ⟨K4 (at7 z _ _) c,a⟩)
end
noncomputable def cT(names:List (Str×W4)) (a:List (Str×K1)):List (Str×K1):=(names.filterMap fun y=>if y.2==.free then(a.lookup y.1).map fun c=>(y.1,c)else none).reverse
noncomputable def fS(env:Env) (y:Str×W4) (a:List (Str×K1)):Sem (ForInStep (List (Str×K1))):=if(y.2==.free)=true then(do let c <-cellOf env y.1;ak7 (aa5 ((y.1,c)::a)))else ak7 (aa5 a)
theorem l7{env:Env}:∀(names:List (Str×W4)) (a:List (Str×K1)),(∀y∈names,y.2=.free->(env.cells.lookup y.1).isSome=true) ->
  (forIn names a (fS env):Sem (List (Str×K1)))=ak7 (cT names env.cells++a)
 |[],a,_=>by simp[cT]
 |y::r,a,h=>by
  rw[am5]
  by_cases e:(y.2==ac1)=true
  ·have hs:=h y U1 (by simpa using e);obtain⟨c,j⟩:=Option.isSome_iff_exists.mp hs;have f:fS env y a=ak7 (aa5 ((y.1,c)::a)):=by
    unfold fS cellOf;rw[if_pos e,j];simp only[ax8]
   rw[f];simp only[ax8];rw[l7 r ((y.1,c)::a) fun y g=>h y (P4 _ g)];have i:cT (y::r) env.cells=cT r env.cells++[(y.1,c)]:=by
    unfold cT;rw[T6,if_pos e,j];simp
   rw[i];simp
  ·have f:fS env y a=ak7 (aa5 a):=by
    unfold fS;rw[if_neg e]
   rw[f];simp only[ax8];rw[l7 r a fun y g=>h y (P4 _ g)];have i:cT (y::r) env.cells=cT r env.cells:=by
    unfold cT;rw[T6,if_neg e]
   rw[i]
theorem CQ{a:ai7}{env:Env}(h:∀y∈a.names,y.2=.free->(env.cells.lookup y.1).isSome=true):closureFor a env=ak7 (cT a.names env.cells):=by
 have:=l7 (env:=env) a.names [] h;simp only[ag7]at this;show(forIn a.names [] (fS env) >>= fun c=>ak7 c)=_;rw[this];simp only[ax8]
theorem Aj{a:List (Str×K1)}{names:List (Str×W4)}{x:Str}{c:K1}(h:(cT names a).lookup x=some c):a.lookup x=some c:=by
 have f:=W6 h;unfold cT at f;rw[List.mem_reverse,af3]at f;obtain⟨y,_,e⟩:=f
 split at e
 ·cases q:a.lookup y.1 with
  |none=>rw[q]at e;cases e
  |some g=>rw[q]at e;cases e;exact q
 ·cases e
theorem eS:∀{l:List (Str×K1)}{x:Str}{c:K1},(x,c)∈l->∃a,l.lookup x=some a
 |(y,d)::l,x,c,h=>by
  rw[S6];cases q:x==y with
  |true=>exact⟨d,by simp⟩
  |false =>
   rcases L1.mp h with e|h
   ·cases e;simp at q
   ·simpa using eS h
theorem A1{a:List (Str×K1)}{names:List (Str×W4)}{x:Str}(h:names.lookup x=some .free) (hs:(a.lookup x).isSome=true):∃c,(cT names a).lookup x=some c:=by
 obtain⟨c,e⟩:=Option.isSome_iff_exists.mp hs;refine eS (c:=c) ?_;unfold cT;rw[List.mem_reverse,af3];exact⟨(x,.free),W6 h,by simp[e]⟩
noncomputable def aP(fs:ai7) (N:List Str) (a:ai7) (ms:List Bool):Bool :=
 a.kind==.function&&a.names.all (fun y=>y.2 != .cell)&&a.names.all (fun y=>y.2 != .local || a.names.lookup y.1==some .local) &&
 a.names.all (fun y=>y.2 != .free || fs.names.lookup y.1==some .cell)&&(ms.zip N).all (fun y=>!y.1 || a.names.lookup y.2==some .free)&&decide (ms.length<=N.length)
theorem aC{X:Cx}{f:ai7}{ms:List Bool}{aq:List Str}{n0:Nat}(p:X.env.cells=ax6 n0 X.env.scope.names []) (c:aP X.env.scope X.N f ms=true):dW X f (cT f.names X.env.cells) ms aq:=by
 unfold aP at c;simp only[O1,R8,decide_eq_true_eq]at c;obtain⟨⟨⟨⟨⟨z,o⟩,n⟩,s⟩,q⟩,u⟩:=c;have l:∀x,(x,ac1)∈f.names->X.env.scope.names.lookup x=some .cell:=fun x j=>by
  have:=s _ j;simpa using this
 have m:∀x,(x,ac1)∈f.names->(X.env.cells.lookup x).isSome=true:=fun x j=>by
  rw[p];exact PySem.W.cellsFrom_some _ _ _ (.inl (l x j))
 refine⟨by simpa using z,fun y g e=>?_,fun y g e=>?_,CQ fun y g e=>?_,fun x c h=>Aj h,fun x h=>A1 h (m x (W6 h)),fun x h=>.inl (l x (W6 h)),fun i x A w=>?_,u⟩
 ·have:=o y g;rw[e]at this;simp at this
 ·have:=n y g;simpa[e]using this
 ·obtain⟨a,b⟩:=y;cases e;exact m a g
 ·have:=q (true,x) (by
   rw[T4];exact⟨i,by rw[af9];exact⟨A,w⟩⟩)
  simpa using this
structure FnD(P:M9) (w:P5) (K:J4) (mg:Str->Option J3) (base:L5) (x:Str) (k n:Nat) (S:SpD):Prop where
 ex:∃(f:K1) (fd:N2) (ps:List Str),aR P w K mg base CX0 k f fd ps (spD K n S)/\mg x=some (.ref f)/\ab9 K (.ref f)=true/\dN K fd ps []
section
variable{X:Cx}{e:O4}{y:List O4}{t:TAd}{z p:Pos}{x:Str}{k n:Nat}{S:SpD}
theorem dc(F:FnD X.prog X.w X.K X.mg X.base x k n S) (hr:cv k X.A) (hg:Gl X x) (ha:PAd X (e::y) t) (hdb:autoParam ((x==("__debug__":Str))=false) L2.zq1._auto_1) (he:autoParam (K8 (e::y) X.env=(false,af7 e X.env)::K8 y X.env) L2.zq0._auto_1) (hpl:autoParam ((aa2 z (K8 y X.env)).any (·.1)=false) L2.zq0._auto_1) :
  PEd X (.Call (.Name x p) (e::y) [] z) (su n S t):=by
 obtain⟨f,i,j,h,g,a,c⟩:=F.ex;exact Gc h hr hg g a c ha hdb he hpl
end
section
variable{X:Cx}{a b c e:O4}{N:List O4}{te W Y:TEd}{t:TAd}{B:Pos}{Z z:O4}
def DS(te:TEd):TSd:=fun E e M=>te e M fun d M1=>∃a c,d=.ref a/\M1 a=some (.lst c)/\E.rt (.lst c) (jO M1 a)
theorem F3:bL X (ax5 .Add) (iOp fun i j=>some (.int (i+j))):=by
 intro a s f H M x y v u dx dy dz Q I hr rx ry r1 r2 e k;obtain⟨i,j,rfl,rfl,c⟩:=oo e;cases c;exact Ey a s f H x y v u Q I rx ry ⟨i,j,fX r1,fX r2,k _ H (Ext.refl _ _) hr (by simp[Rep])⟩
theorem vw:Hw X (unaryOp .USub) (fun d=>match d with|.int i=>some (.int (-i))|_=>none):=by
 intro a s c H M x v dx dz Q I hr rx r1 e k;cases dx with
 |int i=>cases e;exact FV a s c H x v Q I rx ⟨i,fX r1,k _ H (Ext.refl _ _) hr (by simp[Rep])⟩
 |_=>cases e
noncomputable def jY:D->Option (List D)
 |.tup a=>some a
 |.lst a=>some a
 |.scr a=>some a
 |.str x=>if x.length<=K0 then some (fY x)else none
 |_=>none
def DQ(te:TEd):TId:=fun c M R=>te c M fun d M1=>∃a,jY d=some a/\(a.length<=K0->R a M1)
theorem rZ{a:List (K1×Obj)}{σ:St}{H:Hp}{s:J5}{o:Obj}(I:Inv X a σ H s):∀b∈[s.heap.objs.size],dP X a H b:=fun b c=>by
 have e:b=s.heap.objs.size:=by simpa using c
 subst e;exact I.fpOk (J7 _) (I.hok.fresh (J7 _))
theorem Em{K:J4}{x:Str}{M1:DH}{H1:Hp}:ItD K (ItW x.cps.size fun i v=>∃c,x.cps[i]?=some c/\v=.str ⟨#[c]⟩) (fY x) M1 H1:=fun M2 H2 m f i=>⟨fun d a=>by
  unfold fY at a;rw[N9]at a;cases q:x.cps.toList[i]? with
  |none=>rw[q]at a;cases a
  |some c =>
   rw[q]at a;cases a;have g:x.cps[i]?=some c:=by simpa using q
   refine⟨?_,fun y H' z42z=>?_⟩
   ·exact(X8.mp g).1
   ·obtain⟨j,n,e,h⟩:=z42z;subst j;subst h;rw[g]at e;cases e;exact⟨Ext.refl _ _,f,by simp[Rep]⟩,fun l=>by
  show x.cps.size<=i;simpa[fY]using l⟩
end
section
variable{M:DH}
theorem B1{i:Int}:rdM M (.int i)=.int i:=rfl
theorem F4{i:Bool}:rdM M (.bl i)=.bl i:=rfl
theorem B5{i:Str}:rdM M (.str i)=.str i:=rfl
theorem Dy:rdM M .non=.non:=rfl
theorem Df{i:List D}:rdM M (.tup i)=.tup i:=rfl
theorem CL{i:List D}:rdM M (.lst i)=.lst i:=rfl
theorem Cf{i:List D}:rdM M (.scr i)=.scr i:=rfl
theorem B2{a:K1}{ds:List D}(h:M a=some (.lst ds)):rdM M (.ref a)=.lst ds:=by simp[rdM,h]
theorem CF{a:K1}{ds:List D}:rdM (aN M a (.lst ds)) (.ref a)=.lst ds:=B2 aA
theorem Gd{f:Int->Int->Option D}{a b:Int}:iOp f (.int a) (.int b)=f a b:=rfl
theorem De{a b:Int}:rn (.int a) (.int b)=some (.int (a+b)):=rfl
theorem wq{a b:Str}:rn (.str a) (.str b)=if a.length+b.length<=K0 then some (.str (a++b))else none:=rfl
theorem B3{a b:List D}:rn (.lst a) (.lst b)=if a.length+b.length<=K0 then some (.lst (a++b))else none:=rfl
theorem B7{a b:List D}:rn (.tup a) (.tup b)=if a.length+b.length<=K0 then some (.tup (a++b))else none:=rfl
theorem Iv{a:List D}{b:Int}:ixD (.lst a) (.int b)=atI a b:=rfl
theorem HI{a:List D}{b:Int}:ixD (.scr a) (.int b)=atI a b:=rfl
theorem HE{a:List D}{b:Int}:ixD (.tup a) (.int b)=atI a b:=rfl
theorem DV{z:Str}{i:Int}:ixD (.str z) (.int i)=if z.length<=K0 then(atI z.cps.toList i).map fun c=>.str ⟨#[c]⟩else none:=rfl
theorem He{a:Type}{x:a}{xs:List a}:atI (x::xs) 0=some x:=cL (j:=0) rfl
theorem Ic{a:Type}{x y:a}{xs:List a}:atI (x::y::xs) 1=some y:=cL (j:=1) rfl
theorem GR{a:Type}{x y z:a}{xs:List a}:atI (x::y::z::xs) 2=some z:=cL (j:=2) rfl
theorem Bp{f:D->Option D}{d:D}:nW f [d]=f d:=rfl
theorem Gj{a:List D}:xS (.lst a)=some (.int a.length):=rfl
theorem FM{a:List D}:xS (.tup a)=some (.int a.length):=rfl
theorem Ex{a:List D}:xS (.scr a)=some (.int a.length):=rfl
theorem FF{x:Str}:xS (.str x)=if x.length<=K0 then some (.int x.length)else none:=rfl
theorem FL{i:Int}:Hq (.int i)=some (.int (if i<0 then -i else i)):=rfl
theorem EY{a:List D}:CS (.lst a)=some (.tup a):=rfl
theorem Fs{a:List D}:CS (.tup a)=some (.tup a):=rfl
theorem Ik{b:Bool}{x:D}{ds:List D}:inD b x (.lst ds)=if bt x=true/\ds.all bt=true then some (.bl (xor b (ds.any fun d=>eqD d x)))else none:=rfl
theorem GI{b:Bool}{x:D}{ds:List D}:inD b x (.tup ds)=if bt x=true/\ds.all bt=true then some (.bl (xor b (ds.any fun d=>eqD d x)))else none:=rfl
theorem EW{a b:Int}:eqF (.int a) (.int b)=some (.bl (a==b)):=by simp[eqF,dLe,eqD]
theorem E2{a b:Str}:eqF (.str a) (.str b)=some (.bl (a==b)):=by simp[eqF,dLe,eqD]
theorem Fh{a b:Bool}:eqF (.bl a) (.bl b)=some (.bl (a==b)):=by simp[eqF,dLe,eqD]
theorem HF{ds:List D}{lo a:Option Int}:slD (.scr ds) lo a=some (.lst (cj ds lo a)):=rfl
theorem GV{ds:List D}{lo a:Option Int}:slD (.lst ds) lo a=some (.lst (cj ds lo a)):=rfl
theorem HY{x:Str}{lo a:Option Int}:slD (.str x) lo a=if x.length<=K0 then some (.str (ap7 x lo a))else none:=rfl
theorem zi{a:List D}:jY (.lst a)=some a:=rfl
theorem Ad{a:List D}:jY (.tup a)=some a:=rfl
theorem An{a:List D}:jY (.scr a)=some a:=rfl
theorem Bm{x:Str}:jY (.str x)=if x.length<=K0 then some (fY x)else none:=rfl
theorem Gx{n:Nat}:ixN (n+1) 0=some 0:=by simp[ixN]<;>omega
theorem HP{n:Nat}:ixN (n+2) 1=some 1:=by simp[ixN]<;>omega
theorem G7{n:Nat}:ixN (n+3) 2=some 2:=by simp[ixN]<;>omega
theorem sz3(n:Nat) (h:autoParam (n<=1000) L2.zq1._auto_1):n<=K0:=K4 h (by decide)
theorem Gk{b:Bool}:xB "bool" (.bl b)=some true:=rfl
end
end L2
namespace L2
theorem Hs{i j:Int}(h:-18446744073709551616<j/\j<18446744073709551616):mJ i j=True:=by unfold mJ;simp;right;assumption
theorem GC{i j:Int}(h:-18446744073709551616<i/\i<18446744073709551616):mJ i j=True:=by unfold mJ;simp;left;assumption
theorem zB:pE 10 18=True:=by simp[pE]
theorem GU{i j:Int}(h:0<j/\j<1073741824):rG i j=True:=by unfold rG;simp[h]
end L2
namespace L2
open PySem PySem.Spec PyProof.Rows
theorem cQ{g:GD}{tc:TTd}{te:TEd}{M:DH}{Q:List D->DH->Prop}(b:D->Bool) (y:D->D) (Ok:DE->Prop):∀(ds:List D) (e:DE) (c:List D),
  (∀d∈ds,∀ e,Ok e->∃ a,g d e=some a/\Ok a/\(∀i:Bool->DH->Prop,i (b d) M->tc a M i)/\(b d=true->∀f:D->DH->Prop,f (y d) M->te a M f))->Ok e ->
  Q (c++(ds.filter b).map y) M->cV g tc te ds e M c Q
 |[],e,c,_,_,q=>by simpa[cV]using q
 |d::ds,e,c,h,j,q=>by
  simp only[cV];obtain⟨a,n,ok,s,o⟩:=h d U1 e j;refine⟨a,n,s _ ?_⟩;have m:∀d∈ds,∀ e,Ok e->∃ a,g d e=some a/\Ok a/\(∀i:Bool->DH->Prop,i (b d) M->tc a M i)/\(b d=true->∀f:D->DH->Prop,f (y d) M->te a M f):=fun x p=>h x (P4 _ p);cases l:b d with
  |true =>
   simp only[if_true];refine o l _ (cQ b y Ok ds a (c++[y d]) m ok ?_);simpa[V7,l]using q
  |false =>
   simp only[J9,if_false];refine cQ b y Ok ds a c m ok ?_;simpa[V7,l]using q
theorem Cu{a b:Str}:eqD (.str a) (.str b)=(a==b):=by simp[eqD]
theorem bW{x:Str}:∀{ws:List Str},(ws.map D.str).any (fun d=>eqD d (.str x))=decide (x∈ws)
 |[]=>by simp
 |w::ws=>by
  rw[L7,ac0,bW (ws:=ws),Cu]
  by_cases h:w=x
  ·subst h;simp
  ·have c:(w==x)=false:=by simpa using h
   have a:¬ x=w:=fun e=>h e.symm;simp[c,a]
theorem bN{ws:List Str}:(ws.map D.str).all bt=true:=by
 induction ws with
 |nil=>rfl
 |cons w ws ih=>rw[L7,ah7,ih];rfl
section
variable{X:Cx}{e:O4}{te:TEd}{y:Pos}
def D8(te:TEd):TSd:=fun E a M=>te a M fun d M1=>∃M2,LeM M2 M1/\E.rt d M2
theorem mW{M:DH}{q:K1}{o:HD}(h:M q=none):LeM M (aN M q o):=fun a u e=>by
 by_cases c:a=q
 ·subst c;rw[h]at e;cases e
 ·rw[av c];exact e
end
end L2
namespace L2
open PySem PySem.Spec PyProof.Rows PySem.Builtin.Str
noncomputable def tx(a:List Nat):Str:=⟨a.toArray⟩
theorem Es{a b:List Nat}:tx a=tx b↔a=b:=by
 unfold tx;constructor
 ·intro h;injection h with h;simpa using congrArg Array.toList h
 ·intro h;rw[h]
theorem fH(a:List Nat):(tx a).cps.toList=a:=by simp[tx]
theorem fK(a:List Nat):(tx a).length=a.length:=by show(tx a).cps.size=_;simp[tx]
theorem Bh(a b:List Nat):tx a++tx b=tx (a++b):=by
 show Str.mk (a.toArray++b.toArray)=_;simp[tx]
theorem HM:(N1 "":Str)=tx []:=by decide +kernel
theorem yh{x:Array Nat}:∀k,k<=x.size->(N5 k).filterMap (x[·]?)=x.toList.take k:=by
 intro k
 induction k with
 |zero=>intro _;simp
 |succ k ih =>
  intro h;rw[am6,aj4,ih (by exact V4 (by assumption))];have a:x[k]?=some x[k]:=by simp[show k<x.size by assumption]
  rw[X6];simp[a,show k<x.size by assumption]
theorem vN(a:List Nat) (k:Nat):ap7 (tx a) none (some (k:Int))=tx (a.take k):=by
 have f:strSliceIndices none (some (k:Int)) 1 (tx a).length=N5 (min k a.length):=by
  unfold strSliceIndices sliceRange;rw[fK];have i:(max 0 (min (if(k:Int)<0 then(k:Int)+(a.length:Int)else(k:Int)) (a.length:Int)))=((min k a.length:Nat):Int):=by
   rw[if_neg (by lia)];lia
  simp only[show(1:Int) > 0 by decide,if_true];rw[i];have g:(if(0:Int)<((min k a.length:Nat):Int)then(((min k a.length:Nat):Int)-0+1-1) / 1 else 0).toNat=min k a.length:=by
   split<;>lia
  rw[g];apply Z9;intro j;rw[N9]
  by_cases h:j<min k a.length
  ·rw[List.getElem?_range h];simp
  ·rw[Q5 (by simp;lia)];rfl
 unfold ap7;rw[f]
 by_cases c:(((1:Int)==1&&(N5 (min k a.length)).length==(tx a).length))=true
 ·rw[if_pos c];have:a.length<=k:=by
   simp[fK]at c
   lia
  rw[Z0 this]
 ·rw[if_neg c];have e:(N5 (min k a.length)).filterMap ((tx a).cps[·]?)=a.take k:=by
   rw[yh _ (by simp[tx];lia),fH];rw[List.take_eq_take_iff]
   lia
  rw[e];rfl
theorem dn{a:Type} [DecidableEq a]:∀(V K:List a),V.Nodup->(∀x∈V,x∈K)->V.length<=K.length
 |[],_,_,_=>P1 _
 |x::V,K,f,h=>by
  have e:=h x U1;obtain⟨i,g⟩:=aa4.mp f;have:=dn V (K.erase x) g fun y c=>(List.mem_erase_of_ne (by rintro rfl;exact i c)).mpr (h y (P4 _ c));rw[List.length_erase_of_mem e]at this;have j:0<K.length:=List.length_pos_of_mem e;simp only[M8]
  lia
def qF(c:Nat):Prop:=97<=c/\c<=122
def eh(w:Str):Prop:=1<=w.cps.toList.length/\w.cps.toList.length<=8/\∀c∈w.cps.toList,qF c
noncomputable abbrev abc:Str:=N1 "abcdefghijklmnopqrstuvwxyz"
noncomputable def ji:List Nat:=List.range' 97 26
theorem oV:abc=tx ji:=by decide +kernel
theorem Fk{v:Int}(h0:0<=v) (g:v<26):∃c,qF c/\ixD (.str abc) (.int v)=some (.str (tx [c])):=by
 obtain⟨n,rfl⟩:=ah9 h0;have f:n<26:=by lia
 refine⟨97+n,⟨by lia,by lia⟩,?_⟩;have e:abc.length<=K0:=by rw[oV,fK];exact sz3 _
 have a:atI abc.cps.toList (n:Int)=some (97+n):=by
  rw[oV,fH];exact cL (by unfold ji;rw[List.getElem?_range' f];simp)
 rw[DV,if_pos e,a];rfl
end L2
namespace L2
open PySem PySem.Spec PyProof.Rows
theorem pN{g:GD}{m:TSd}{E:fT}{all:List D}(I:Nat->DE->DH->Prop)
  (step:∀(i:Nat) (d:D) (c:DE) (M:DH) (X:DE->DH->Prop),all[i]?=some d->I i c M->(∀ a j,I (i+1) a j->X a j)->∃ a,g d c=some a/\m { E with nx:=X,ct:=X,bk:=E.nx } a M)
  (f:∀ c M,I all.length c M->E.nx c M):∀(ds:List D) (i:Nat) (c:DE) (M:DH),all.drop i=ds->i<=all.length->I i c M->dj g m E ds c M
 |[],i,c,M,e,o,h=>by
  have:i=all.length:=by
   have:=congrArg al7 e;simp at this;lia
  subst this;simpa only[dj]using f c M h
 |d::ds,i,c,M,e,o,h=>by
  have l:i<all.length:=by
   have:=congrArg al7 e;simp at this;lia
  have n:all[i]?=some d:=by
   have:=congrArg List.head? e;simpa using this
  have q:all.drop (i+1)=ds:=by
   rw[<-List.tail_drop,e];rfl
  simp only[dj];exact step i d c M _ n h fun a j p=>pN I step f ds (i+1) a j q l p
theorem aL{g:GD}{f:TSd}{E:fT}{ds:List D}{c:DE}{M:DH}(I:Nat->DE->DH->Prop) (h0:I 0 c M)
  (step:∀(i:Nat) (d:D) (c:DE) (M:DH) (X:DE->DH->Prop),ds[i]?=some d->I i c M->(∀ a h,I (i+1) a h->X a h)->∃ a,g d c=some a/\f { E with nx:=X,ct:=X,bk:=E.nx } a M)
  (e:∀ c M,I ds.length c M->E.nx c M):dj g f E ds c M:=pN I step e ds 0 c M rfl (P1 _) h0
theorem tq{g:GD}{tc:TTd}{te:TEd}{all:List D}{Q:List D->DH->Prop}(I:Nat->List D->DE->DH->Prop)
  (step:∀ (i:Nat) (d:D) (a:List D) (j:DE) (M:DH) (X:List D → DE → DH → Prop),all[i]? = some d → I i a j M → (∀ f c l,I (i + 1) f c l → X f c l) →
   ∃ c,g d j=some c/\tc c M fun b M1=>if b=true then te c M1 fun y M2=>X (a++[y]) c M2 else X a c M1)
  (m:∀a j M,I all.length a j M->Q a M):∀(ds:List D) (i:Nat) (a:List D) (j:DE) (M:DH),all.drop i=ds->i<=all.length->I i a j M->cV g tc te ds j M a Q
 |[],i,a,j,M,e,p,h=>by
  have:i=all.length:=by
   have:=congrArg al7 e;simp at this;lia
  subst this;simpa only[cV]using m a j M h
 |d::ds,i,a,j,M,e,p,h=>by
  have n:i<all.length:=by
   have:=congrArg al7 e;simp at this;lia
  have o:all[i]?=some d:=by
   have:=congrArg List.head? e;simpa using this
  have s:all.drop (i+1)=ds:=by
   rw[<-List.tail_drop,e];rfl
  simp only[cV];exact step i d a j M (fun f c l=>cV g tc te ds c l f Q) o h fun f c l q=>tq I step m ds (i+1) f c l s n q
theorem uA{g:GD}{tc:TTd}{te:TEd}{ds:List D}{f:DE}{M:DH}{Q:List D->DH->Prop}(I:Nat->List D->DE->DH->Prop) (h0:I 0 [] f M)
  (step:∀ (i:Nat) (d:D) (c:List D) (f:DE) (M:DH) (X:List D → DE → DH → Prop),ds[i]? = some d → I i c f M → (∀ e a j,I (i + 1) e a j → X e a j) →
   ∃ a,g d f=some a/\tc a M fun b M1=>if b=true then te a M1 fun y M2=>X (c++[y]) a M2 else X c a M1)
  (h:∀c f M,I ds.length c f M->Q c M):cV g tc te ds f M [] Q:=tq I step h ds 0 [] f M rfl (P1 _) h0
theorem szB(n:Nat) (h:autoParam (n<=16000000) L2.zq1._auto_1):n<=K0:=K4 h (by decide)
theorem fC{a:Type}{f:a->D}{xs:List a}{i:Nat}{d:D}(h:(xs.map f)[i]?=some d):∃x,xs[i]?=some x/\d=f x:=by
 rw[N9]at h;cases e:xs[i]? with
 |none=>rw[e]at h;cases h
 |some x=>rw[e]at h;cases h;exact⟨x,rfl,rfl⟩
theorem sU{K:J4}{M:DH}{H:Hp}:∀ns:List Int,am K M H (ns.map D.int) (ns.map V.int)
 |[]=>am.nil
 |n::ns=>am.cons (by simp[Rep]) (sU ns)
theorem yC{K:J4}{H:Hp}{a:K1}{ns:List Int}(c:DC H) (e:SqL K H a (ns.map V.int)):am K noM H [.scr (ns.map D.int)] [.ref a]:=by
 refine am.cons ?_ am.nil;simp only[Rep];refine⟨a,ns.map V.int,rfl,?_,sU ns⟩;rcases e with h|h
 ·left;rcases h with h|h
  ·rcases c a with z|⟨o,f,z⟩<;>(rw[h]at z;cases z)
  ·exact⟨h,rfl⟩
 ·right;exact .inr h
def Gw(S:SpD):Prop:=∀(a:List Int) (R:D->DH->Prop),a.length<=63->(∀c,R (.bl true) c)->S [.scr (a.map .int)] noM R
theorem IQ{S:SpD}(E:Gw S) {k:Nat}{x:Str}{l:PySem.W.OpenLaw}{q:M9}{c:List Str}{C:(Str->Option J3)->L5->Prop}{o:P5->L5->Prop}{d:DefRec}{K:Params->J4}(hr:cv k au9) (hn:l.most=some 63) (i:d.params.defaults=[])
  (A:∀(w:P5) (h:L5),o w h->(K w.params).In h)
  (F:∀ (w:P5) (g:Str → Option J3) (j:K1) (h:L5),(K w.params).In h → h.Ns L9 g → g d.name = some (.ref j) →
   ∃p:N2,(∀(s:J5) (u:J3),aw1 s p ⟨[u],[]⟩ [(x,u)])/\∀base:L5,(K w.params).In base->base.Ns L9 g->aR l.prog w (K w.params) g base CX0 k j p [x] (spD (K w.params) 1 S)) :
  PySem.W.WalkO q c C o l.row.toRowW d [] (fun f J=>PySem.call f J) :=
 L2.wz (n:=63) (k:=k) (x:=x) (CX:=fun _=>CX0) (sp:=fun w=>spD (K w.params) 1 S) hn (by decide) i hr A F
  (fun w H a m B G I=>⟨[.scr (m.map .int)],noM,fun d _=>d=.bl true,rfl,yC G I,HR.nil,E m _ B (fun _=>rfl),fun d N v M e _ _ L=>by subst e;simpa only[Rep]using L⟩) fun _ _ _ _ _ z=>z
theorem qf:Manifest.owners.lookup (String.ofList ['d','e','s','r','e','v','e','r'].reverse)=some Manifest.sig_reversed:=by kernel_rfl
theorem cJ:Slot "reversed" "__next__" "reversed.__next__" :=
 .of (owner:="reversed") (n:="__next__") (by rw[ag9,aa0];kernel_rfl) (by decide +kernel) (by decide +kernel) (by decide +kernel)
  (by first|exact .inl (by decide +kernel)|exact .inr (by decide +kernel)) (by rw[ag0];kernel_rfl)
theorem iK:av7 table "reversed.__next__"=some L3.«reversed.__next__»:=entryFor_of_tree (by kernel_rfl)
theorem gO(a:J3):ax9 "reversed.__next__" ⟨[a],[]⟩:=by
 unfold ax9;rw[signature?_of (id:="reversed.__next__") (n:=['_','_','t','x','e','n','_','_']) (o:=['d','e','s','r','e','v','e','r']) (by kernel_rfl) qf];kernel_rfl
theorem jw:Slot "reversed" "__iter__" "reversed.__iter__" :=
 .of (owner:="reversed") (n:="__iter__") (by rw[ag9,aa0];kernel_rfl) (by decide +kernel) (by decide +kernel) (by decide +kernel)
  (by first|exact .inl (by decide +kernel)|exact .inr (by decide +kernel)) (by rw[ag0];kernel_rfl)
theorem mL(a:J3):ax9 "reversed.__iter__" ⟨[a],[]⟩:=by
 unfold ax9;rw[signature?_of (id:="reversed.__iter__") (n:=['_','_','r','e','t','i','_','_']) (o:=['d','e','s','r','e','v','e','r']) (by kernel_rfl) qf];kernel_rfl
theorem oA:av7 table "reversed.__iter__"=some L3.«dict_keyiterator.__iter__» :=
 entryFor_alias (id':="dict_keyiterator.__iter__") (by kernel_rfl) (by first|rfl|decide +kernel|(unfold String.splitOn;simp +decide [String.splitOnAux])) (by decide +kernel) (by kernel_rfl)
theorem kN:aw3 (.type "tuple") "__reversed__"=ak7 none:=by rw[ag9,aa0];kernel_rfl
theorem om:isSubtype (.type "tuple") (.type "dict")=ak7 false:=by rw[ag0];kernel_rfl
section
variable{prog:M9}{w:P5}{A:O9}{E:J3->J5->Prop}{s:J5}
noncomputable def xh(l:K1) (i:Int):Obj:={ cls:=.type "reversed",data:=.fields #[.ref l,W5 i] }
def fL(h:L5) (a l:K1) (i:Int):Prop:=∃o,h.get? a=some o/\o.cls=.type "reversed"/\o.data=.fields #[.ref l,W5 i]
theorem fL.typeIs{a l:K1}{i:Int}(x:fL s.heap a l i):s.TypeIs (.ref a) "reversed":=let⟨o,e,c,_⟩:=x;⟨o,e,c⟩
theorem fL.at{h h':L5}{a l:K1}{i:Int}(x:fL h a l i) (e:∀o,h.get? a=some o->h'.get? a=some o):fL h' a l i:=let⟨o,c,r⟩:=x;⟨o,e _ c,r⟩
theorem pb(l:K1) (c:Array J3) (hsz:c.size<2 ^ 63) :
  Meets (L3.«reversed.__new__» ⟨[.type "reversed",.ref l],[]⟩) (fun _ R s=>aj8 s.heap l c/\∀k,R (.ok (.ret (.ref s.heap.objs.size))) { s with heap:=s.heap.push (xh l ((c.size:Int)-1)),toks:=k }) :=
 .of_wp fun prog w A R s h=>by
  obtain⟨e,h⟩:=h;unfold L3.«reversed.__new__»;refine o0 (ad6 (newClass_reversed _) ?_)
  try dsimp only
  refine o0 (ad6 (a:=()) (by first|rfl|kernel_rfl) ?_);refine o0 (ad6 (a:=()) (by first|rfl|kernel_rfl) ?_)
  try dsimp only
  refine o0 (ac8 e.typeIs kN ?_)
  try dsimp only
  refine o0 (o0 (ab1 e.typeIs om ?_));rw[if_neg P7];refine o0 (ac8 e.typeIs slot_tuple_getitem.lookup ?_);dsimp only;rw[if_pos (by decide +kernel)];refine J1 ?_;rw[if_neg (by decide)];refine o0 (len_tuple e (by lia) ?_);refine o0 (ad6 (a:=some (c.size:Int)) rfl ?_);dsimp only;show K5 _ _ (newObj (.type "reversed") (.fields #[.ref l,W5 ((c.size:Int)-1)]) >>= _) _ _ _;exact o0 (N0 (J1 ⟨_,rfl,h _⟩))
theorem pF:Slot "reversed" "__init__" "object.__init__" :=
 .of (owner:="object") (n:="__init__") (by rw[ag9,aa0];kernel_rfl) (by decide +kernel) (by decide +kernel) (by decide +kernel)
  (by first|exact .inl (by decide +kernel)|exact .inr (by decide +kernel)) (by rw[ag0];kernel_rfl)
theorem vG:TypeCalled "reversed" "reversed.__new__" "object.__init__" :=
 ⟨by decide +kernel,by decide +kernel,⟨_,_,F.mro_reversed⟩,F.made_reversed,by decide +kernel,by rw[ag0];kernel_rfl,pF⟩
theorem nL{l:K1}{a:Array J3}{Q:J3->J5->Prop}(c:aj8 s.heap l a) (hsz:a.size<2 ^ 63)
  (h:∀k,Q (.ref s.heap.objs.size) { s with heap:=s.heap.push (xh l ((a.size:Int)-1)),toks:=k }):K5 (N3 prog w) A (aw9 (.type "reversed") [.ref l]) Q E s:=by
 refine callType_new vG (by decide) (F.typeCall_reversed_1 _) (F.newCall_reversed_1 _) (fun obj=>F.args_object_init_2 obj _) F.entry_reversed_new (pb l a hsz) ⟨c,fun k=>?_⟩;exact⟨⟨_,J8 _ rfl,rfl⟩,h k⟩
theorem gy{it l:K1}{i:Nat}{c:Array J3}{x:J3}{Q:Option J3->J5->Prop}(e:fL s.heap it l (i:Int)) (m:aj8 s.heap l c) (h:c[i]?=some x) (hsz:c.size<2 ^ 62)
  (p:∀h' k,fL h' it l ((i:Int)-1)->O6 it s.heap h'->Q (some x) { s with heap:=h',toks:=k }):K5 (N3 prog w) A (ag3 (.ref it)) Q E s:=by
 obtain⟨o,g,n,f⟩:=id e;have q:i<c.size:=(X8.mp h).1;unfold ag3;refine o0 (ac3 (P2 (name:=N1 "__next__") e.typeIs cJ
  (O7 cJ e.typeIs iK ?_ (gO _))))
 unfold L3.«reversed.__next__»;refine o0 (ad6 (a:=(Q0 it,[])) rfl ?_)
 try dsimp only
 refine o0 (T8 g f (x:=.ref l) rfl ?_);refine o0 (T8 g f (x:=W5 (i:Int)) rfl ?_);show K5 _ _ (if(i:Int)<0 then _ else _) _ _ s;rw[if_neg (by lia)];refine o0 (ac8 m.typeIs slot_tuple_getitem.lookup ?_);rw[if_neg (by simp)];refine o0 (wpAny_mkInt ?_);refine o0 (ac3 (getItem_tuple (s:={ s with toks:=s.toks+1 }) m (by lia) (by lia) (j:=i) (by unfold seqIndex?;simp;lia) h ?_));dsimp only;refine o0 (T8 (s:={ s with toks:=s.toks+1 }) g f (x:=W5 (i:Int)) rfl ?_);dsimp only[W5];refine o0 (W9 (s:={ s with toks:=s.toks+1 }) g f (by simp) ?_);refine J1 ⟨x,rfl,J1 (p _ _ ?_ (Q7 ..))⟩;exact⟨_,T5 _ g (aj5 (aa6 f _)),(Obj.cls_mapFields ..).trans n,by
  rw[aa6 f];simp[W5]⟩
theorem gP{it l:K1}{Q:Option J3->J5->Prop}(i:A.handled=none) (c:fL s.heap it l (-1))
  (n:∀h',an3 it s.heap h'->Q none { s with heap:=h' }):K5 (N3 prog w) A (ag3 (.ref it)) Q E s:=by
 obtain⟨o,g,p,f⟩:=id c;unfold ag3;refine o0 (ac3 (P2 (name:=N1 "__next__") c.typeIs cJ
  (O7 cJ c.typeIs iK ?_ (gO _))))
 unfold L3.«reversed.__next__»;refine o0 (ad6 (a:=(Q0 it,[])) rfl ?_)
 try dsimp only
 refine o0 (T8 g f (x:=.ref l) rfl ?_);refine o0 (T8 g f (x:=W5 (-1)) rfl ?_);show K5 _ _ (if(-1:Int)<0 then _ else _) _ _ s;rw[if_pos (by decide)];refine o0 (ak0 ?_);have h:=T5 (ai0 (·.setIfInBounds 1 (W5 (-1)))) g (aj5 (aa6 f _));refine o0 (o0 (W9 g f (by simp) (W9 h (aa6 f _) (by simp) ?_)));refine o0 ?_;show K5 _ _ (aw8 (.type "StopIteration") [] >>= _) _ _ _;refine o0 ?_;simp only[aw8,av8];refine o0 (N0 ?_ (by size_fits));refine o0 (m:=ac4 _ _) (ad6 (a:=T9) (by first|rfl|(simp only[ac4];rfl)) ?_);refine N0 ?_ (by size_fits);simp -iota only[av9];refine o0 (ap0 ?_)
 first|rw[show A.in1.handled=none from i]|rw[i]
 refine o0 (J1 (as1 ?_));refine o0 (ab1 (T:="StopIteration") (b:=true) ⟨_,J8 _ rfl,rfl⟩ an9 ?_);refine J1 (n _ ((an3.push ?_ _).push _));exact fun b o j e=>((Q7 ..).2 b j).trans (((Q7 ..).2 b j).trans e)
theorem fD{it l:K1}{i:Int}{Q:J3->J5->Prop}(a:fL s.heap it l i) (h:Q (.ref it) s):K5 (N3 prog w) A (au4 (.ref it)) Q E s:=by
 refine an4 a.typeIs jw (O7 jw a.typeIs oA ?_ (mL _));show K5 _ _ (ret (.ref it)) _ _ s;exact J1 ⟨_,rfl,"reversed",_,a.typeIs,cJ.lookup,h⟩
end
noncomputable def Itv(K:J4) (a:K1) (n:Nat):It :=
 ⟨fun i H=>(∃c,SqT K H a c/\c.length=n)/\i<n,fun i H x e=>e=H/\∀c,SqT K H a c->c[n-1-i]?=some x,fun i _=>n<=i⟩
theorem AM:K0<2 ^ 62:=by decide
theorem zP{P:M9}{w:P5}{K:J4}{tg:O4}(a it:K1) (n:Nat):lZ P w K tg (Itv K a n) [it] it (fun i h=>i<=n/\fL h it a ((n:Int)-1-(i:Int))) where
 mem:=by simp
 obj:=fun i h st b j=>by
  have e:b=it:=by simpa using j
  subst e;obtain⟨_,o,e,c,d⟩:=st;exact⟨o,e,fun v z=>by rw[d]at z;cases z⟩
 keep:=fun i h m st k=>⟨st.1,st.2.at fun o e=>k it (by simp) o e⟩
 item:=by
  intro X B G hK S i T s U H E I A st L;subst B G hK;obtain⟨⟨q,Y,a0⟩,hi⟩:=L;obtain⟨its,Z,p,hz⟩:=I.tuple Y;have cP:=Z.length;have l:n-1-i<q.length:=by lia
  obtain⟨u,hu,ru⟩:=Z.get (show q[n-1-i]?=some q[n-1-i]by simp[l]);obtain⟨N,C,f2,M,Q,J⟩:=A it (by simp);have ei:(n:Int)-1-(i:Int)=((n-1-i:Nat):Int):=by lia
  have f:=st.2;rw[ei]at f;have R:its.toArray.size<2 ^ 62:=by have:=AM;simp;lia
  refine gy f p (x:=u) (by simpa using hu) R fun m O g sb=>?_;have I1:Inv X T U H { s with heap:=m,toks:=O }:=I.turned (t':=O) (fun b o j e=>(sb.2 b j).trans e) N C M Q J;obtain⟨o,e,c,d⟩:=id g;have e2:((n-1-i:Nat):Int)-1=(n:Int)-1-((i+1:Nat):Int):=by lia
  rw[e2]at g;exact⟨u,rfl,p8 (s:={ s with heap:=m,toks:=O }) e c d (by decide) ⟨q[n-1-i],H,I1,ru,⟨rfl,fun ys hy=>by rw[I.tuple_inj hy Y];simp[l]⟩,⟨hi,g⟩,fun b j=>(A b j).1⟩⟩
 done:=by
  intro X B G hK S i T s U H E I A st L;subst B G hK;obtain⟨N,C,f2,M,Q,J⟩:=A it (by simp);have e:i=n:=Nat.le_antisymm st.1 L;subst e;have f:=st.2;rw[show(i:Int)-1-(i:Int)=-1 by lia]at f;exact gP (I.ok.hd S) f fun m eb=>⟨rfl,I.turned (t':=s.toks) (fun b o j e=>eb b o j e) N C M Q J⟩
 self:=fun _ _ _ _ _ st h=>fD st.2 h
section
variable{X:Cx}{a b c e:O4}{y:List O4}{te z I:TEd}{t:TAd}{H:Pos}{N B:O4}
def DX(z:TAd):TId:=fun c M R=>z c M fun a M1=>∃y,a=[.tup y]/\(y.length<=K0->R y.reverse M1)
theorem pK:ac5 "reversed"=some (.type "reversed"):=by kernel_rfl
end
section
variable{X:Cx}
noncomputable def neF(x y:D):Option D:=if dLe x 60=true/\dLe y 60=true then some (.bl (!(eqD x y)))else none
theorem pL(f:X.A.units+64<Z4):bL X (Q9 .NotEq) neF:=by
 intro c s g H M x y v u dx dy dz Q I hr rx ry r1 r2 e k;unfold neF at e
 by_cases a:dLe dx 60=true/\dLe dy 60=true
 ·rw[if_pos a]at e;cases e;exact(zy I 60 (A:=X.A) (by lia) a.1 a.2 r1 r2 rx ry).2.2 X.prog X.w X.xe _ ⟨.bl (!(eqD dx dy)),H,I,rfl,k _ H (Ext.refl _ _) hr (by simp[Rep])⟩
 ·rw[if_neg a]at e;cases e
theorem yP{a b:Int}:neF (.int a) (.int b)=some (.bl (!(a==b))):=by simp[neF,dLe,eqD]
theorem Fo{a b:Str}:neF (.str a) (.str b)=some (.bl (!(a==b))):=by simp[neF,dLe,eqD]
theorem Ak{a b:Bool}:neF (.bl a) (.bl b)=some (.bl (!(a==b))):=by simp[neF,dLe,eqD]
end
end L2
namespace HT
open PySem PyProof.Rows
section
variable{prog:M9}{w:P5}{A:O9}{E:J3->J5->Prop}{s:J5}
theorem pC{t:K1}{a:Array J3}{Q:Bool->J5->Prop}(c:aj8 s.heap t a) (h:Q true s):K5 (N3 prog w) A (L3.Tuple.tupleIsExact (.ref t)) Q E s:=by
 unfold L3.Tuple.tupleIsExact;exact o0 (ah4 c.typeIs (J1 (by simpa using h)))
theorem getItem_tuple_whole{t e:K1}{a:Array J3}{l n:J3}{lo g:Option Int}{Q:J3->J5->Prop}(c:aj8 s.heap t a) (hs:s.heap.IsSliceOf e l n .none) (p:av5 l lo) (o:av5 n g)
  (m:sIx a.size 0 lo=0/\sIx a.size a.size g=a.size) (h:Q (.ref t) s):K5 (N3 prog w) A (ap4 (.ref t) (.ref e)) Q E s:=by
 obtain⟨os,i,j,q⟩:=id hs;have f:s.TypeIs (.ref e) "slice":=⟨os,i,j⟩;unfold ap4
 try with_reducible refine U8 ?_
 first|refine o0 (J1 ?_)|skip
 refine o0 (wpAny_sequenceKey c.typeIs (by decide) ?_);refine o0 (P2 (name:=N1 "__getitem__") c.typeIs R0
  (O7 R0 c.typeIs entry_tuple_getitem ?_ (args_tuple_getitem _ _)))
 show K5 _ _ (ab3 (.ref t) >>= _) _ _ s;refine o0 (ar7 c ?_);refine o0 (ah4 f ?_);rw[if_pos (by decide)];refine o0 (fW hs p o ?_);show K5 _ _ (if(((sIx a.size 0 lo:Nat):Int)==0&&(1:Int)==1&&(sIx a.size a.size g-sIx a.size 0 lo)==a.size)=true then _ else _) _ _ s;rw[if_pos (by rw[m.1,m.2];simp)];refine o0 (pC c ?_);rw[if_pos rfl];refine o0 (ak0 ?_)
 first
  |exact J1 ⟨_,rfl,J1 h⟩
  |exact o0 (J1 (J1 ⟨_,rfl,J1 h⟩))
theorem me{f:K1}{tk:Tok}{n:Nat}{Q:Int×Int×Nat->J5->Prop}(hs:s.heap.IsSliceOf f .none .none (.int (-1) tk))
  (h:Q ((n:Int)-1,-1,n) s):K5 (N3 prog w) A (ae8 (.ref f) (ak7 (n:Int))) Q E s:=by
 obtain⟨os,a,g,c⟩:=id hs;unfold ae8 L3.Slice.sliceFields;refine o0 (o0 (T8 a c (x:=.none) rfl (o0 (T8 a c (x:=.none) rfl (o0 (T8 a c (x:=.int (-1) tk) rfl (J1 ?_)))))));refine o0 (slicePart_int ?_);show K5 _ _ (if((-1:Int)==0)=true then _ else _) _ _ s;rw[if_neg (by decide)];refine o0 (aq9 (o0 (aq9 (o0 (J1 ?_)))));show K5 _ _ (ak7 ((n:Int)-1,(-1:Int),V9 ((n:Int)-1) (-1) (-1))) _ _ s;have e:V9 ((n:Int)-1) (-1) (-1)=n:=by
  unfold V9;simp only[show ¬ ((-1:Int) > 0)by decide,if_false]
  split<;>simp<;>omega
 rw[e];exact J1 h
theorem A0(xs:Array J3):((N5 xs.size).filterMap fun(m:Nat)=>xs[((xs.size:Int)-1+(m:Int)*-1).toNat]?)=xs.toList.reverse:=by
 have:∀k,k<=xs.size->((N5 k).filterMap fun(m:Nat)=>xs[((xs.size:Int)-1+(m:Int)*-1).toNat]?)=xs.toList.reverse.take k:=by
  intro k
  induction k with
  |zero=>intro _;simp
  |succ k ih =>
   intro g;rw[am6,aj4,ih (by exact V4 (by assumption))];have c:((xs.size:Int)-1+(k:Int)*-1).toNat=xs.size-1-k:=by omega
   have a:xs[xs.size-1-k]?=some xs[xs.size-1-k]:=by simp[show xs.size-1-k<xs.size by omega]
   have f:xs.toList.reverse[k]?=some xs[xs.size-1-k]:=by
    rw[List.getElem?_reverse (by simp;assumption)];simpa using a
   rw[X6,f];have e:(List.filterMap (fun(m:Nat)=>xs[((xs.size:Int)-1+(m:Int)*-1).toNat]?) [k])=[xs[xs.size-1-k]]:=by
    rw[T6,c,a];rfl
   rw[e];rfl
 rw[this xs.size (J7 _)];exact Z0 (by simp)
theorem getItem_tuple_rev{t f:K1}{a:Array J3}{tk:Tok}{Q:J3->J5->Prop}(e:aj8 s.heap t a) (hs:s.heap.IsSliceOf f .none .none (.int (-1) tk))
  (h:Q (.ref s.heap.objs.size) { s with heap:=s.heap.push { cls:=.type "tuple",data:=.seq a.toList.reverse.toArray } }) (hsz:a.size<=K0):K5 (N3 prog w) A (ap4 (.ref t) (.ref f)) Q E s:=by
 have c:sizeOk (.seq a.toList.reverse.toArray):=by
  show a.toList.reverse.toArray.size<=K0;simpa using hsz
 obtain⟨os,g,j,l⟩:=id hs;have i:s.TypeIs (.ref f) "slice":=⟨os,g,j⟩;unfold ap4
 try with_reducible refine U8 ?_
 first|refine o0 (J1 ?_)|skip
 refine o0 (wpAny_sequenceKey e.typeIs (by decide) ?_);refine o0 (P2 (name:=N1 "__getitem__") e.typeIs R0
  (O7 R0 e.typeIs entry_tuple_getitem ?_ (args_tuple_getitem _ _)))
 show K5 _ _ (ab3 (.ref t) >>= _) _ _ s;refine o0 (ar7 e ?_);refine o0 (ah4 i ?_);rw[if_pos (by decide)];refine o0 (me hs ?_);show K5 _ _ (if((((a.size:Int)-1)==0&&(-1:Int)==1&&a.size==a.size)=true)then _ else _) _ _ s;rw[if_neg (by simp),A0]
 first
  |exact o0 (m:=R9 _) (N0 (J1 ⟨_,rfl,J1 h⟩) c)
  |exact o0 (m:=R9 _) (N0 (o0 (J1 (J1 ⟨_,rfl,J1 h⟩))) c)
  |exact o0 (o0 (m:=R9 _) (N0 (J1 (J1 ⟨_,rfl,J1 h⟩)) c))
  |exact o0 (o0 (m:=R9 _) (N0 (J1 ⟨_,rfl,J1 h⟩) c))
end
end HT
namespace L2
open PySem PySem.Spec PyProof.Rows
section
variable{X:Cx}{a b c e:O4}{es:List O4}{te Z tb ts:TEd}{t:TAd}{Y:Pos}
noncomputable def slE:D->Option Int->Option Int->Option D
 |.tup c,lo,a=>some (.tup (cj c lo a))
 |d,lo,a=>slD d lo a
def Jq(K:J4):V->Option Int->Option Int->Hp->VK->Prop:=fun x lo e H Q=>∃a c,x=.ref a/\SqT K H a c/\(HT.sIx c.length 0 lo=0/\HT.sIx c.length c.length e=c.length)/\Q (.ref a) H
theorem AF:SlR X (Jq X.K):=by
 intro j s m H x v vl vu lo hi sl Q I rx hs pl pu h;obtain⟨a,g,rfl,i,f,q⟩:=h;cases rx;obtain⟨its,r,c,l⟩:=I.tuple i;have e:its.toArray.size=g.length:=by rw[K3];exact r.length.symm
 exact⟨"tuple",_,R0.lookup,c.typeIs,HT.getItem_tuple_whole c hs pl pu (by rw[e];exact f) ⟨.ref a,H,I,rfl,q⟩⟩
theorem vz{ds:List D}{lo a:Option Int}(h:HT.sIx ds.length 0 lo=0/\HT.sIx ds.length ds.length a=ds.length):cj ds lo a=ds:=by
 unfold cj;rw[h.1,h.2];simp
def IE(te:TEd) (e f:TOd):TEd:=fun a M Q=>te a M fun x M1=>e a M1 fun l M2=>f a M2 fun u c=>∃z,slE (rdM c x) l u=some z/\Q z c
theorem Iw{ds:List D}{lo a:Option Int}:slE (.tup ds) lo a=some (.tup (cj ds lo a)):=rfl
theorem Ig{ds:List D}{lo a:Option Int}:slE (.lst ds) lo a=some (.lst (cj ds lo a)):=rfl
theorem Il{ds:List D}{lo a:Option Int}:slE (.scr ds) lo a=some (.lst (cj ds lo a)):=rfl
theorem Hx{x:Str}{lo a:Option Int}:slE (.str x) lo a=if x.length<=K0 then some (.str (ap7 x lo a))else none:=rfl
theorem am.reverse{K:J4}{M:DH}{H:Hp}:∀{ds:List D}{a:List V},am K M H ds a->am K M H ds.reverse a.reverse
 |[],_,h=>by simp only[am]at h;subst h;exact am.nil
 |d::ds,_,h=>by
  simp only[am]at h;obtain⟨v,f,rfl,e,c⟩:=h;rw[an1,an1];exact(am.reverse c).append (am.cons e am.nil)
def zz(te ts:TEd):TEd:=fun a M Q=>te a M fun x M1=>ts a M1 fun st M2=>st=.int (-1)/\∃c,x=.tup c/\Q (.tup c.reverse) M2
variable{y:ai7}{B:List (Str×K1)}{aq:List Str}{W:O4}
def BR(X:Cx) (y:ai7) (B:List (Str×K1)) (aq:List Str) (e:List O4) (g:GDs):Prop:=∃f:TGs,(∀C s H m,PGs (aD X y B (X.N++aq) C s H m) e f)/\∀(h:List D) (j:List V) (l:St) (i a:DE) (M:DH) (H:Hp) (Q:St->Hp->Prop),SR X.K M H l i->HR X.K M H->am X.K M H h j->g h i=some a->(∀ c,SR X.K M H c a->Q c H)->f j l H Q
theorem jU:BR X y B aq [] kz:=⟨FO,fun _ _ _ _=>v9,fun c j l i g M H Q f h a e k=>by
 cases c with
 |nil=>simp only[am]at a;subst a;cases e;exact⟨rfl,k _ f⟩
 |cons _ _=>cases e⟩
theorem bZ{a:List O4}{g:GD}{j:GDs}(O:PGa X y B aq W g) (w:BR X y B aq a j)
  (hs:autoParam (∀env,(ad2 (W::a) env).map (·.2)=at0 W env::(ad2 a env).map (·.2)) L2.zq2._auto_1):BR X y B aq (W::a) (dB g j):=by
 obtain⟨P,J,N⟩:=O;obtain⟨u,G,E⟩:=w;refine⟨zG P u,fun C s H l=>t9 (J C s H l) (G C s H l) (hs _),fun z R L o h M H Q A n p e k=>?_⟩;cases z with
 |nil=>cases e
 |cons d r =>
  simp only[am]at p;obtain⟨v,m,rfl,I,x⟩:=p;simp only[dB]at e;cases q:g d o with
  |none=>rw[q]at e;cases e
  |some c =>
   rw[q]at e;exact⟨v,m,rfl,N d v L o c M H _ A n I q fun f i=>E r m f c h M H Q i n x e k⟩
theorem j0{c:List O4}{E:Nat}{g:GDs}{n:Nat}(I:X.calm=true) (h:BR X y B aq c g) (hn:autoParam (∀env,(ad2 c env).length=n) L2.zq2._auto_1) (j:autoParam (∀env,(ad2 c env).findIdx? (·.1)=none) L2.zq2._auto_1):PGa X y B aq (.Tuple c E Y) (iH g n):=by
 obtain⟨w,x,G⟩:=h;refine⟨Ga X.K n w,fun C s H l=>Ay (X:=aD X y B (X.N++aq) C s H l) I (x C s H l) (hn _) (j _),fun d v A z i M H Q J u p e k=>?_⟩;cases d with
 |tup m =>
  simp only[iH]at e
  by_cases f:m.length=n
  ·rw[if_pos f]at e;simp only[Rep]at p;obtain⟨a,o,rfl,Z,q⟩:=p;exact⟨a,o,rfl,Z.sq,by rw[<-q.length];exact f,G m o A z i M H Q J u q e k⟩
  ·rw[if_neg f]at e;cases e
 |_=>cases e
end
section
variable{X:Cx}{a b c e:O4}{es:List O4}{te ta tb ts:TEd}{t:TAd}{W:Pos}
noncomputable def inE(a:Bool) (x y:D):Option D:=match y with
 |.str j=>match x with
  |.str i=>some (.bl (xor a (!(ah5 j i 0 j.length 1).isEmpty)))
  |_=>none
 |y=>inD a x y
theorem fF:bL X (Q9 .In) (inE false):=by
 intro a s c H M x y v u dx dy dz Q I hr rx ry r1 r2 e k;cases dy with
 |str j =>
  cases dx with
  |str i =>
   cases e;exact yF a s c H x y v u Q I rx ry ⟨i,j,px r1,px r2,k _ H (Ext.refl _ _) hr (by simp[Rep])⟩
  |_=>cases e
 |_=>exact IZ a s c H M x y v u dx _ dz Q I hr rx ry r1 r2 e k
theorem uF:bL X (Q9 .NotIn) (inE true):=by
 intro a s c H M x y v u dx dy dz Q I hr rx ry r1 r2 e k;cases dy with
 |str j =>
  cases dx with
  |str i =>
   cases e;exact rP a s c H x y v u Q I rx ry ⟨i,j,px r1,px r2,k _ H (Ext.refl _ _) hr (by simp[Rep])⟩
  |_=>cases e
 |_=>exact BL a s c H M x y v u dx _ dz Q I hr rx ry r1 r2 e k
theorem GT{b:Bool}{x:D}{ds:List D}:inE b x (.lst ds)=if bt x=true/\ds.all bt=true then some (.bl (xor b (ds.any fun d=>eqD d x)))else none:=rfl
theorem GJ{b:Bool}{x:D}{ds:List D}:inE b x (.tup ds)=if bt x=true/\ds.all bt=true then some (.bl (xor b (ds.any fun d=>eqD d x)))else none:=rfl
theorem A6{b:Bool}{c:Nat}{y:Str}:inE b (.str (tx [c])) (.str y)=some (.bl (xor b (decide (c∈y.cps.toList)))):=by
 show some (D.bl (xor b (!(ah5 y ⟨#[c]⟩ 0 y.length 1).isEmpty)))=_;rw[StrLaws.found_one]
theorem lY:fillsNumberSlot (.type "tuple") "mul"=ak7 false :=
 PySem.fillsNumberSlot_seq (id:="tuple.__mul__") (r:=some (.builtin "tuple.__rmul__")) F.slot_tuple_mul.lookup (by decide +kernel) F.slot_tuple_rmul.lookup (by decide +kernel)
theorem qN:seqRepeat? (.type "tuple")=ak7 (some (.builtin "tuple.__mul__")):=by
 unfold seqRepeat?;rw[PySem.seqSlot_of (T:="tuple") (name:="__mul__") (id:="tuple.__mul__") F.slot_tuple_mul.lookup (by decide +kernel),PySem.seqSlot_of (T:="tuple") (name:="__rmul__") (id:="tuple.__rmul__") F.slot_tuple_rmul.lookup (by decide +kernel)];rfl
theorem ni(a:Int) (t:Tok) (l:K1) (c:Array J3) :
  Meets (L3.«int.__rmul__» ⟨[.int a t,.ref l],[]⟩) (fun _ R s=>aj8 s.heap l c/\R (.ok (.ret J3.notImplemented)) s) :=
 .of_wp fun prog w A R s h=>by
  obtain⟨p,g,d,o,os⟩:=s;obtain⟨⟨⟨j,u,f,m⟩,q,i,n,e⟩,h⟩:=h;simp only at i e;subst i e
  wp_walk;exact⟨_,rfl,h⟩
theorem pI(l:K1) (c:Array J3) (x:Int) (u:Tok) (f:c.isEmpty=false) (E:2<=x) (z:x<2 ^ 62) (B:c.size*x.toNat<=K0) :
  Meets (L3.«tuple.__mul__» ⟨[.ref l,.int x u],[]⟩) (fun _ R s=>aj8 s.heap l c/\R (.ok (.ret (.ref s.heap.objs.size))) { s with heap:=s.heap.push { cls:=.type "tuple",data:=.seq (O0 x.toNat c.toList).flatten.toArray } }) :=
 .of_wp fun prog w A R s h=>by
  obtain⟨p,h⟩:=h;show K5 _ _ (do
   let n <-asIndex (.int x u)
   if n < -(2 ^ 63) || n>=2 ^ 63 then
    rule "tuple.repeat.overflow";raiseError "OverflowError" s!"cannot fit '{← typeNameOf (.int x u)}' into an index-sized integer"
   let e <-ab3 (.ref l)
   if e.isEmpty || n==1 then
    if <-L3.Tuple.tupleIsExact (.ref l)then rule "tuple.repeat.same-object";return <-ret (.ref l)
   if n<=0 || e.isEmpty then return <-ret (<-R9 #[])
   if e.size*n > (2 ^ 63-1) / 8 then rule "tuple.repeat.no-memory";av9 (<-aw8 (.type "MemoryError") [])
   if L3.Tuple.tupleTooMany (e.size*n)then as2 "tuple.__mul__:memory"
   ret (<-R9 ((O0 n.toNat e).foldl (·++·) #[]))) _ _ s
  refine o0 (ad6 (a:=x) rfl ?_);dsimp only;rw[if_neg (by simp only[Bool.or_eq_true,decide_eq_true_eq];lia)];refine o0 (ar7 p ?_);rw[if_neg (by simp[f];lia)];rw[if_neg (by simp[f];exact Int.le_of_lt (by assumption))];have g:((x.toNat:Nat):Int)=x:=by lia
  have i:(c.size:Int)*x=((c.size*x.toNat:Nat):Int):=by rw[Int.natCast_mul,g]
  have C:K0=16777216:=rfl;rw[if_neg (by rw[i];lia)];rw[if_neg (by unfold L3.Tuple.tupleTooMany;rw[i];simp only[decide_eq_true_eq];lia)];have q:aw5 (fun o j=>o++j) #[] (O0 x.toNat c)=(O0 x.toNat c.toList).flatten.toArray:=by
   have:=lU c.toList x.toNat [];rw[O8]at this;simpa using this
  rw[q];have hs:sizeOk (.seq (O0 x.toNat c.toList).flatten.toArray):=by
   show(O0 x.toNat c.toList).flatten.toArray.size<=K0;rw[K3,rL,L8,ao1];exact B
  exact o0 (m:=R9 _) (N0 (J1 ⟨_,rfl,h⟩) hs)
theorem am.rep{K:J4}{M:DH}{H:Hp}{ds:List D}{a:List V}(h:am K M H ds a):∀k:Nat,am K M H (O0 k ds).flatten (O0 k a).flatten
 |0=>am.nil
 |k+1=>by
  rw[ab7,ab7,ag8,ag8];exact h.append (am.rep h k)
noncomputable def vn:D->D->Option D
 |.int a=>fun zy=>match zy with|.int b=>if mJ a b then some (.int (a*b))else none|_=>none
 |.str x=>fun zy=>match zy with|.int n=>if x.length<=16777216/\-(2 ^ 63)<=n/\n<=16777216/\x.length*n.toNat<=16777216 then some (.str (Txt.mul x n))else none|_=>none
 |.tup c=>fun zy=>match zy with|.int n=>if 2<=n/\n<2 ^ 62/\c≠[]/\c.length*n.toNat<=K0 then some (.tup (O0 n.toNat c).flatten)else none|_=>none
 |.lst c=>fun zy=>match zy with|.int n=>if -(2 ^ 63)<=n/\n<2 ^ 63/\c.length*n.toNat<=K0 then some (.lst (O0 n.toNat c).flatten)else none|_=>none
 |_=>fun _=>none
theorem jG:bL X (ad3 .Mult) vn:=by
 intro E s C H M x y v u dx dy dz Q I hr rx ry r1 r2 e k;cases dx with
 |int a =>
  cases dy with
  |int b=>exact ET E s C H M x y v u _ _ dz Q I hr rx ry r1 r2 e k
  |_=>cases e
 |str z =>
  cases dy with
  |int n =>
   simp only[vn]at e
   by_cases c:z.length<=16777216/\-(2 ^ 63)<=n/\n<=16777216/\z.length*n.toNat<=16777216
   ·rw[if_pos c]at e;cases e;have N:=px r1;have m:=fX r2;subst N;subst m;obtain⟨S,rfl⟩:=rx;obtain⟨g,rfl⟩:=ry;have B:MulOk z n:=by
     by_cases hn:0<=n
     ·exact mulOk_of z.length n.toNat (J7 _) (by lia) c.2.1 (by lia) c.2.2.2
     ·exact mulOk_of z.length 0 (J7 _) (by lia) c.2.1 (by decide) (by exact P1 _)
    exact SB.mul B fun G kk=>⟨.str _,H,I.tok _,⟨G,rfl⟩,k _ H (Ext.refl _ _) hr (by simp[Rep])⟩
   ·rw[if_neg c]at e;cases e
  |_=>cases e
 |tup i =>
  cases dy with
  |int n =>
   simp only[vn]at e
   by_cases c:2<=n/\n<2 ^ 62/\i≠[]/\i.length*n.toNat<=K0
   ·rw[if_pos c]at e;cases e;have m:=fX r2;subst m;obtain⟨g,rfl⟩:=ry;obtain⟨a,l,rfl,sq,j⟩:=r1;cases rx;obtain⟨its,J,pt,Y⟩:=I.tuple sq;have h:=J.length;have f:=j.length;have A:its.toArray.isEmpty=false:=by
     cases its with
     |nil =>
      have P:i.length=0:=by rw[f,h];rfl
      exact absurd (ai1.mp P) c.2.2.1
     |cons _ _=>rfl
    have w:its.toArray.size*n.toNat<=K0:=by rw[K3,<-h,<-f];exact c.2.2.2
    refine wpAny_binaryOp_repeat_ref (T:="tuple") (U:="int") (by decide) pt.typeIs (fun R=>au2 R n g) lY F.fills_int_mul ap5 qN F.slot_int_index.lookup
     (ar4 ap5 (au2 s n g) F.entry_int_rmul (F.args_int_rmul_2 _ _) (ni n g a its.toArray)
      ⟨pt,rfl,pt.typeIs,ar4 F.slot_tuple_mul pt.typeIs F.entry_tuple_mul (F.args_tuple_mul_2 _ _) (pI a its.toArray n g A c.1 c.2.1 w) ⟨pt,?_⟩⟩)
    have L:ax (O0 n.toNat l).flatten (O0 n.toNat its).flatten:=J.rep n.toNat;refine⟨.ref s.heap.objs.size,_,I.laid (t':=s.toks) (o:=.tup (O0 n.toNat l).flatten) (fun b Z q=>u8 _ q) (J7 _) ?_,rfl,?_⟩
    ·refine⟨?_,_,L,by simpa using lq.new _ _⟩;rw[rL,ao1,<-f];exact c.2.2.2
    ·exact oU hr (I.hok.fresh (J7 _)) (j.rep n.toNat) k
   ·rw[if_neg c]at e;cases e
  |_=>cases e
 |lst i =>
  cases dy with
  |int n =>
   simp only[vn]at e
   by_cases c:-(2 ^ 63)<=n/\n<2 ^ 63/\i.length*n.toNat<=K0
   ·rw[if_pos c]at e;cases e;obtain⟨a,l,rfl,sq,j⟩:=r1;exact EN E s C H _ _ v u Q I rx ry ⟨a,n,l,rfl,fX r2,sq,c.1,c.2.1,by rw[<-j.length];exact c.2.2,fun p O=>dq hr O (j.rep n.toNat) k⟩
   ·rw[if_neg c]at e;cases e
  |_=>cases e
 |_=>cases e
theorem Di{a b:Int}:vn (.int a) (.int b)=if mJ a b then some (.int (a*b))else none:=rfl
noncomputable def BA:D->Bool
 |.non=>true
 |_=>false
noncomputable def xb(a:Bool) (x y:D):Option D:=match y with|.non=>some (.bl (xor a (BA x)))|_=>none
theorem Dm{K:J4}{M:DH}{H:Hp}{d:D}{x:V}(r:aQ K M H d x):decide (x=V.non)=BA d:=by
 cases d with
 |tup c=>obtain⟨a,e,rfl,_⟩:=r;rfl
 |lst c=>obtain⟨a,e,rfl,_⟩:=r;rfl
 |scr c=>obtain⟨a,e,rfl,_⟩:=r;rfl
 |emp=>simp only[aQ,Rep]at r;obtain⟨a,rfl,_⟩:=r;rfl
 |box _ _=>simp only[aQ,Rep]at r;obtain⟨a,_,rfl,_⟩:=r;rfl
 |_=>simp only[aQ,Rep]at r;subst r;rfl
theorem Je:bL X (Q9 .Is) (xb false):=by
 intro a s c H M x y v u dx dy dz Q I hr rx ry r1 r2 e k;cases dy with
 |non =>
  cases e;refine Fg a s c H x y v u Q I rx ry ⟨Jv r2,?_⟩;rw[Dm r1];exact k _ H (Ext.refl _ _) hr (by simp[Rep])
 |_=>cases e
theorem yu{b:Bool}{x:D}:xb b x .non=some (.bl (xor b (BA x))):=rfl
variable{B:ai7}{cl:List (Str×K1)}{ms:List Bool}{aq:List Str}{Y:List O4}{tg N Z:O4}
end
@[irreducible] def QEd(X:Cx) (e:O4) (t:TEd):Prop:=PEd X e t
theorem QEd.eq{X:Cx}{e:O4}{t:TEd}:QEd X e t=(PEd X e t):=by unfold QEd;rfl
@[irreducible] def QAd(X:Cx) (e:List O4) (t:TAd):Prop:=PAd X e t
theorem QAd.eq{X:Cx}{e:List O4}{t:TAd}:QAd X e t=(PAd X e t):=by unfold QAd;rfl
@[irreducible] def QTd(X:Cx) (e:O4) (t:TTd):Prop:=PTd X e t
theorem QTd.eq{X:Cx}{e:O4}{t:TTd}:QTd X e t=(PTd X e t):=by unfold QTd;rfl
@[irreducible] def QWd(X:Cx) (e:O4) (t:TTd):Prop:=PWd X e t
theorem QWd.eq{X:Cx}{e:O4}{t:TTd}:QWd X e t=(PWd X e t):=by unfold QWd;rfl
@[irreducible] def QSd(X:Cx) (e:ae4) (t:TSd):Prop:=PSd X e t
theorem QSd.eq{X:Cx}{e:ae4}{t:TSd}:QSd X e t=(PSd X e t):=by unfold QSd;rfl
@[irreducible] def QSs(X:Cx) (e:List ae4) (t:TSd):Prop:=Dj X e t
theorem QSs.eq{X:Cx}{e:List ae4}{t:TSd}:QSs X e t=(Dj X e t):=by unfold QSs;rfl
@[irreducible] def QId(X:Cx) (a e:O4) (t:TId):Prop:=PId X a e t
theorem QId.eq{X:Cx}{a e:O4}{t:TId}:QId X a e t=(PId X a e t):=by unfold QId;rfl
@[irreducible] def QIf(X:Cx) (e:List O4) (t:TTd):Prop:=G2 X e t
theorem QIf.eq{X:Cx}{e:List O4}{t:TTd}:QIf X e t=(G2 X e t):=by unfold QIf;rfl
@[irreducible] def QOd(X:Cx) (e:Option O4) (t:TOd):Prop:=POd X e t
theorem QOd.eq{X:Cx}{e:Option O4}{t:TOd}:QOd X e t=(POd X e t):=by unfold QOd;rfl
theorem aa{X:Cx}(i:Nat) {x:Str}{c:Pos}(m:autoParam (X.N[i]?=some x) L2.zq0._auto_1) (l:Vis X.env.scope x:=by first|exact P0 rfl|exact at1 (P0 rfl)|exact at1 (at1 rfl)) (f:autoParam ((x==("__debug__":Str))=false) L2.zq1._auto_1)
  (a:autoParam ((x==("__classdict__":Str))=false) L2.zq1._auto_1):QEd X (.Name x c) (mN i):=by
 simp only[QEd.eq]at *
 exact(Bz m l f a).conv fun p H Q ⟨o,M,R,n,g,⟨d,e,q⟩,k⟩=>let⟨v,j,h⟩:=n.2 i d e;⟨v,j,k d M v H q (Ext.refl _ _) g h⟩
theorem ah{X:Cx}{i j pos}:QEd X (.Constant (.int i) j pos) (dC (.int i)):=by
 simp only[QEd.eq]at *
 exact F9.conv fun g H Q a=>a.el fun e M R f c q k=>k _ M _ H q (Ext.refl _ _) c (by simp[Rep])
theorem eO{X:Cx}{i j pos}:QEd X (.Constant (.bool i) j pos) (dC (.bl i)):=by
 simp only[QEd.eq]at *
 exact Hr.conv fun g H Q a=>a.el fun e M R f c q k=>k _ M _ H q (Ext.refl _ _) c (by simp[Rep])
theorem dI{X:Cx}{i j pos}:QEd X (.Constant (.str i) j pos) (dC (.str i)):=by
 simp only[QEd.eq]at *
 exact Fd.conv fun g H Q a=>a.el fun e M R f c q k=>k _ M _ H q (Ext.refl _ _) c (by simp[Rep])
theorem wx{X:Cx}{j pos}:QEd X (.Constant .none j pos) (dC .non):=by
 simp only[QEd.eq]at *
 exact EX.conv fun g H Q a=>a.el fun e M R f c q k=>k _ M _ H q (Ext.refl _ _) c (by simp[Rep])
theorem iB{X:Cx}{x:Str}{i:Int}{a:Pos}(hg:Gl X x) (e:∃tk,X.mg x=some (.int i tk)) (c:autoParam ((x==("__debug__":Str))=false) L2.zq1._auto_1):QEd X (.Name x a) (dC (.int i)):=by
 simp only[QEd.eq]at *
 obtain⟨t,f⟩:=e;exact CA hg f c
theorem AQ{X:Cx}{x y:Str}{a:Pos}(hg:Gl X x) (e:∃tk,X.mg x=some (.str y tk)) (c:autoParam ((x==("__debug__":Str))=false) L2.zq1._auto_1):QEd X (.Name x a) (dC (.str y)):=by
 simp only[QEd.eq]at *
 obtain⟨t,f⟩:=e;exact Cz hg f c
theorem ag{X:Cx}:QAd X [] Hn:=by
 simp only[QAd.eq]at *
 exact vd.conv fun g H Q a=>a.el fun e M R f c q k=>k _ M _ H q (Ext.refl _ _) c am.nil
theorem af{X:Cx}{a:O4}{c:List O4}{m:TEd}{i:TAd}(ha:QEd X a m) (hr:QAd X c i) (hs:autoParam (K8 (a::c) X.env=(false,af7 a X.env)::K8 c X.env) L2.zq0._auto_1):QAd X (a::c) (Ed m i):=by
 simp only[QEd.eq,QAd.eq]at *
 exact(m5 ha hr hs).conv fun x H Q f=>f.el fun n M R o hr q k=>⟨n,M,_,o,hr,q,fun d M1 v B u l h w=>⟨n,M1,_,o.ext l,h,u,fun z M2 A s p j e g =>
   k _ M2 _ s p (l.trans j) e (am.cons (w.ext j) g)⟩⟩
theorem aY{X:Cx}{g:List O4}{f:Pos}{x1}{t:TAd}(h:QAd X g t):QEd X (.Tuple g x1 f) (G8 t):=by
 simp only[QEd.eq,QAd.eq]at *
 exact(vC h).conv fun w H Q e=>e.el fun n M R s m q k=>⟨n,M,_,s,m,q,fun u M1 o x z44z j a i=>by obtain⟨z,l⟩:=z44z;exact ⟨by rw[<-i.length];exact z,fun p c=>k _ M1 _ _ l (j.trans (Ext.new a c)) (a.new c) (by
   simp only[Rep];exact⟨p,o,rfl,.inl ⟨.inl aK,a.fresh c⟩,i.ext (Ext.new a c)⟩)⟩⟩
theorem iw{X:Cx}{g:List O4}{f:Pos}{t:TAd}(h:QAd X g t):QEd X (.List g f) (GW t):=by
 simp only[QEd.eq,QAd.eq]at *
 exact(z9 h).conv fun w H Q e=>e.el fun n M R s m q k=>⟨n,M,_,s,m,q,fun u M1 o x z45z j a i=>by obtain⟨z,l⟩:=z45z;exact ⟨by rw[<-i.length];exact z,fun p c=>k _ M1 _ _ l (j.trans (Ext.new a c)) (a.new c) (by
   simp only[Rep];exact⟨p,o,rfl,⟨aK,a.fresh c⟩,i.ext (Ext.new a c)⟩)⟩⟩
theorem iL{X:Cx}{g:List O4}{f:Pos}{t:TAd}(h:QAd X g t):QEd X (.List g f) (DW t):=by
 simp only[QEd.eq,QAd.eq]at *
 exact(z9 h).conv fun w H Q c=>c.el fun n M R o m q k=>⟨n,M,_,o,m,q,fun s M1 u x z46z j a i=>by obtain⟨z,l⟩:=z46z;exact ⟨by rw[<-i.length];exact z,fun p e=>k _ _ _ _ (l p (a.fresh e)) (j.trans (Ext.own e)) (a.own e i) (by
   simp only[Rep])⟩⟩
theorem ay{X:Cx}{a:O4}{b:O4}{e:TEd}{f:TEd}{c:Pos}{op:ax0}{r:D->D->Option D}(h:bL X (ad3 op) r) (ha:QEd X a e) (g:QEd X b f):QEd X (.BinOp a op b c) (dOp r e f):=by
 simp only[QEd.eq]at *
 exact(GS h.v ha g).conv AS
theorem cC{X:Cx}{a:O4}{b:O4}{e:TEd}{f:TEd}{c:Pos}{op:am8}{r:D->D->Option D}(h:bL X (Q9 op) r) (ha:QEd X a e) (g:QEd X b f) (i:X1 op b=false):QEd X (.Compare a [op] [b] c) (dOp r e f):=by
 simp only[QEd.eq]at *
 exact(Da h.v ha g i).conv AS
theorem aU{X:Cx}{a:O4}{b:O4}{e:TEd}{f:TEd}{c:Pos}{r:D->D->Option D}(h:IxR X (opV X.K r)) (ha:QEd X a e) (g:QEd X b f) (hs:xl b):QEd X (.Subscript a b c) (dOp r e f):=by
 simp only[QEd.eq]at *
 exact(G5 h ha g hs).conv AS
theorem uL{X:Cx}{a:O4}{p:TEd}{o:Pos}{op:UnaryOp}{r:D->Option D}(G:Hw X (unaryOp op) r) (ha:QEd X a p):QEd X (.UnaryOp op a o) (dUn r p):=by
 simp only[QEd.eq]at *
 have h:UnR X (unaryOp op) (fun x H Q=>∃g i M,HR X.K M H/\aQ X.K M H g x/\r g=some i/\∀w c,Ext M H M c->HR X.K M c->Rep X.K M c i w->Q w c):=fun A s u H x v Q I E z47z=>(by obtain⟨g,i,M,n,L,e,k⟩:=z47z;exact G A s u H M x v g i Q I n E L e k);exact(HG h ha).conv fun u H Q m=>m.el fun O M R J n q k=>⟨O,M,_,J,n,q,fun x M1 v T z48z B f P=>by obtain⟨z,S,C⟩:=z48z;exact ⟨_,z,M1,f,P.rd f,S,fun w c N j l=>k z M1 w c C (B.trans N) j l⟩⟩
theorem aI{X:Cx}{a:O4}{b:O4}{n:TEd}{j:TEd}{i:Pos}{op:am8}{r:D->D->Option D}(J:bL X (Q9 op) r) (ha:QEd X a n) (I:QEd X b j) (A:X1 op b=false):QTd X (.Compare a [op] [b] i) (jV (dOp r n j)):=by
 simp only[QEd.eq,QTd.eq]at *
 refine(Cj J.v ha I A).conv fun S H Q h=>?_;obtain⟨o,M,R,p,G,q,k⟩:=h;exact⟨o,M,_,p,G,q,fun x M1 v U C m f L=>⟨o,M1,_,p.ext m,f,C,fun y M2 u T z49z l c E=>by obtain⟨z,P,b,O,s⟩:=z49z;exact ⟨_,_,z,M2,c,(L.ext l).rd c,E.rd c,P,fun w B N g e =>
  ⟨b,by subst O;simpa only[Rep]using e,k b M2 B s ((m.trans l).trans N) g⟩⟩⟩⟩
theorem bQ{X:Cx}{a:O4}{e:TEd}(h:QEd X a e) (he:autoParam (∀c,isTrue a X.env c=(do let v <-c;standAt a.pos;ax4 [v] (truthy v))) L2.zq2._auto_1):QTd X a (jV e):=by
 simp only[QEd.eq,QTd.eq]at *
 exact(EV h he).conv DJ
theorem dQ{X:Cx}{a:O4}{f:Pos}{g:TTd}(h:QTd X a g):QTd X (.UnaryOp .Not a f) (D3 g):=by
 simp only[QTd.eq]at *
 exact(Gf h).conv fun p H Q c=>c.el fun m M R o l q k=>⟨m,M,_,o,l,q,fun b M1 n j i e=>k _ M1 n j i e⟩
theorem eP{X:Cx}{a:O4}{c:Pos}{e:TTd}(ha:QTd X a e):QWd X (.BoolOp .And [a] c) e:=by
 simp only[QTd.eq,QWd.eq]at *
 exact Dl ha
theorem fI{X:Cx}{a:O4}{c:Pos}{e:TTd}(ha:QTd X a e):QWd X (.BoolOp .Or [a] c) e:=by
 simp only[QTd.eq,QWd.eq]at *
 exact Fp ha
theorem gz{X:Cx}{a:O4}{b:O4}{g:Pos}{o:TTd}{e:TTd}{rest:List O4}(ha:QTd X a o) (x:QWd X (.BoolOp .And (b::rest) g) e):QWd X (.BoolOp .And (a::b::rest) g) (xu o e):=by
 simp only[QTd.eq,QWd.eq]at *
 exact(Gb ha x).conv fun A H Q l=>l.el fun m M R n w q k=>⟨m,M,_,n,w,q,fun c M1 z h j f=>by
   cases c with
   |true=>simp only[if_true]at h ⊢;exact⟨m,M1,R,n.ext j,f,h,fun b M2 s p u i=>k b M2 s p (j.trans u) i⟩
   |false=>simp only[J9,if_false]at h ⊢;exact k _ M1 z h j f⟩
theorem gV{X:Cx}{a:O4}{b:O4}{g:Pos}{o:TTd}{e:TTd}{rest:List O4}(ha:QTd X a o) (x:QWd X (.BoolOp .Or (b::rest) g) e):QWd X (.BoolOp .Or (a::b::rest) g) (Hv o e):=by
 simp only[QTd.eq,QWd.eq]at *
 exact(Iz ha x).conv fun A H Q l=>l.el fun m M R n w q k=>⟨m,M,_,n,w,q,fun c M1 z h j f=>by
   cases c with
   |false=>simp only[J9,if_false]at h ⊢;exact⟨m,M1,R,n.ext j,f,h,fun b M2 s p u i=>k b M2 s p (j.trans u) i⟩
   |true=>simp only[if_true]at h ⊢;exact k _ M1 z h j f⟩
theorem cf{X:Cx}{a:O4}{e:TEd}{c:Pos}{op}(h:QEd X a e):QEd X (.BoolOp op [a] c) e:=by
 simp only[QEd.eq]at *
 exact E3 h
theorem bh{X:Cx}{a:O4}{b:O4}{n:TEd}{m:TEd}{g:Pos}{rest:List O4}(ha:QEd X a n) (z:QEd X (.BoolOp .And (b::rest) g) m):QEd X (.BoolOp .And (a::b::rest) g) (Hi n m):=by
 simp only[QEd.eq]at *
 exact(Eh ha z).conv fun G H Q l=>l.el fun o M R p x q k=>⟨o,M,_,p,x,q,fun d M1 v C z50z j f A=>by obtain⟨c,e,h⟩:=z50z;exact ⟨c,by subst e;simpa only[Rep]using A,by
   cases c with
   |true=>simp only[if_true]at h ⊢;exact⟨o,M1,R,p.ext j,f,h,fun b M2 B u s w i E=>k b M2 B u s (j.trans w) i E⟩
   |false=>simp only[J9,if_false]at h ⊢;exact k _ M1 _ C h j f (by simp[Rep])⟩⟩
theorem Jx{X:Cx}{a:O4}{b:O4}{n:TEd}{m:TEd}{g:Pos}{rest:List O4}(ha:QEd X a n) (z:QEd X (.BoolOp .Or (b::rest) g) m):QEd X (.BoolOp .Or (a::b::rest) g) (dOr n m):=by
 simp only[QEd.eq]at *
 exact(Ir ha z).conv fun G H Q l=>l.el fun o M R p x q k=>⟨o,M,_,p,x,q,fun d M1 v C z51z j f A=>by obtain⟨c,e,h⟩:=z51z;exact ⟨c,by subst e;simpa only[Rep]using A,by
   cases c with
   |false=>simp only[J9,if_false]at h ⊢;exact⟨o,M1,R,p.ext j,f,h,fun b M2 B u s w i E=>k b M2 B u s (j.trans w) i E⟩
   |true=>simp only[if_true]at h ⊢;exact k _ M1 _ C h j f (by simp[Rep])⟩⟩
theorem yT{X:Cx}{a:O4}{i:TEd}{h:Pos}(ha:QEd X a i):QEd X (.UnaryOp .Not a h) (GP i):=by
 simp only[QEd.eq]at *
 exact(FE ha).conv fun u H Q f=>f.el fun n M R s m q k=>⟨n,M,_,s,m,q,fun d M1 v p ⟨c,e,l⟩ j g o =>
  ⟨c,by subst e;simpa only[Rep]using o,k _ M1 _ p l j g (by simp[Rep])⟩⟩
theorem HJ{X:Cx}{a:O4}{b:O4}{c:O4}{x:TEd}{w:TEd}{u:Pos}{z:TTd}(A:QTd X c z) (ha:QEd X a x) (C:QEd X b w):QEd X (.IfExp c a b u) (dIf z x w):=by
 simp only[QEd.eq,QTd.eq]at *
 exact(zS A ha C).conv fun E H Q m=>m.el fun n M R s B q k=>⟨n,M,_,s,B,q,fun c M1 G h g f=>by
   cases c with
   |true=>simp only[if_true]at h ⊢;exact⟨n,M1,R,s.ext g,f,h,fun b M2 o j i l e p=>k b M2 o j i (g.trans l) e p⟩
   |false=>simp only[J9,if_false]at h ⊢;exact⟨n,M1,R,s.ext g,f,h,fun b M2 o j i l e p=>k b M2 o j i (g.trans l) e p⟩⟩
theorem qO{X:Cx}{a:O4}{b:O4}{c:O4}{I:TEd}{G:TEd}{E:Pos}{tc:TEd}{op g:am8}{r N:D->D->Option D}(ho:bL X (Q9 op) r) (p:bL X (Q9 g) N) (ha:QEd X a I) (hb:QEd X b G) (U:QEd X c tc)
  (S:autoParam (at5 [op,g] [b,c]=false) L2.zq4._auto_1):QEd X (.Compare a [op,g] [b,c] E) (uM r N I G tc):=by
 simp only[QEd.eq]at *
 refine(zq ho.v p.v ha hb U S).conv fun σ H Q h=>?_;obtain⟨s,M,R,C,hr,q,k⟩:=h;refine⟨s,M,_,C,hr,q,fun x M1 v H1 q1 m A rv=>⟨s,M1,_,C.ext m,A,q1,fun y M2 u H2 ⟨b,eb,j⟩ l e J=>⟨_,_,.bl b,M2,e,(rv.ext l).rd e,J.rd e,eb,fun w P n i o =>
  ⟨b,by simpa only[Rep]using o,?_⟩⟩⟩⟩
 cases b with
 |true =>
  simp only[if_true]at j ⊢;exact⟨s,M2,_,(C.ext (m.trans l)).ext n,i,j,fun z L w4 H4 z54z O f Z=>by obtain⟨d,ed,Y⟩:=z54z;exact ⟨_,_,d,L,f,((J.ext n).ext O).rd f,Z.rd f,ed,fun w5 H5 T B r5=>k d L w5 H5 Y ((((m.trans l).trans n).trans O).trans T) B r5⟩⟩
 |false =>
  simp only[J9,if_false]at j ⊢;exact k _ M2 _ P j ((m.trans l).trans n) i (by simp[Rep])
theorem zt{X:Cx}{a:O4}{b:O4}{c:O4}{L:TEd}{J:TEd}{I:Pos}{tc:TEd}{op i:am8}{r P:D->D->Option D}(ho:bL X (Q9 op) r) (A:bL X (Q9 i) P) (ha:QEd X a L) (hb:QEd X b J) (Z:QEd X c tc)
  (U:autoParam (at5 [op,i] [b,c]=false) L2.zq4._auto_1):QTd X (.Compare a [op,i] [b,c] I) (jV (uM r P L J tc)):=by
 simp only[QEd.eq,QTd.eq]at *
 refine(zf ho.v A.v ha hb Z U).conv fun σ H Q h=>?_;obtain⟨B,M,R,G,hr,q,k⟩:=h;refine⟨B,M,_,G,hr,q,fun x M1 v H1 q1 n C rv=>⟨B,M1,_,G.ext n,C,q1,fun y M2 u H2 ⟨b,eb,j⟩ m e N=>⟨_,_,.bl b,M2,e,(rv.ext m).rd e,N.rd e,eb,fun w T o l s =>
  ⟨b,by simpa only[Rep]using s,?_⟩⟩⟩⟩
 cases b with
 |true =>
  simp only[if_true]at j ⊢;exact⟨B,M2,_,(G.ext (n.trans m)).ext o,l,j,fun z O w4 H4 z56z S f r4=>by obtain⟨d,ed,p,g,q4⟩:=z56z;exact ⟨_,_,d,O,f,((N.ext o).ext S).rd f,r4.rd f,ed,fun w5 H5 Y E r5=>⟨p,by subst g;simpa only[Rep]using r5,k p O H5 q4 ((((n.trans m).trans o).trans S).trans Y) E⟩⟩⟩
 |false =>
  simp only[J9,if_false]at j ⊢;obtain⟨p,g,j⟩:=j;cases g;exact⟨false,rfl,k _ M2 T j ((n.trans m).trans o) l⟩
theorem az{X:Cx}{c:Pos}{x:Str}{p:Pos}{e:O4}{a:List O4}{t:TAd}{id:String}{r:List D->Option D}(h:bD X (.builtin id) r) (hg:Gl X x) (f:X.mg x=none) (g:ac5 x=some (.builtin id)) (ha:QAd X (e::a) t) (hn:autoParam (x≠"__name__") L2.zq1._auto_1) (hdb:autoParam ((x==("__debug__":Str))=false) L2.zq1._auto_1)
  (he:autoParam (K8 (e::a) X.env=(false,af7 e X.env)::K8 a X.env) L2.zq0._auto_1) (hpl:autoParam ((aa2 c (K8 a X.env)).any (·.1)=false) L2.zq0._auto_1):QEd X (.Call (.Name x p) (e::a) [] c) (dCB r t):=by
 simp only[QEd.eq,QAd.eq]at *
 exact(tG h.v hg f g ha hn hdb he hpl).conv DN
theorem bg{X:Cx}{c:Pos}{x:Str}{p:Pos}{e:O4}{a:List O4}{t:TAd}{id:String}{r:List D->Option D}(h:bD X (.type id) r) (hg:Gl X x) (f:X.mg x=none) (g:ac5 x=some (.type id)) (ha:QAd X (e::a) t) (hn:autoParam (x≠"__name__") L2.zq1._auto_1) (hdb:autoParam ((x==("__debug__":Str))=false) L2.zq1._auto_1)
  (he:autoParam (K8 (e::a) X.env=(false,af7 e X.env)::K8 a X.env) L2.zq0._auto_1) (hpl:autoParam ((aa2 c (K8 a X.env)).any (·.1)=false) L2.zq0._auto_1):QEd X (.Call (.Name x p) (e::a) [] c) (dCB r t):=by
 simp only[QEd.eq,QAd.eq]at *
 exact(yl h.v hg f g ha hn hdb he hpl).conv DN
theorem aM{X:Cx}:QSs X [] AO:=by
 simp only[QSs.eq]at *
 exact C4.conv fun D g H a=>a.el fun e M E f c q u=>u.nx e M g H q (Ext.refl _ _) c f
theorem aj{X:Cx}{st:ae4}{rest:List ae4}{t:TSd}{u:TSd}(p:QSd X st t) (m:QSs X rest u):QSs X (st::rest) (Gn t u):=by
 simp only[QSd.eq,QSs.eq]at *
 exact(Al p m).conv fun D x H a=>a.el fun j M E n i q k=>⟨j,M,{ E with nx:=u E },n,i,q,⟨fun c l o w h g e f=>⟨c,l,E,f,e,h,k.ext g⟩,k.bk,k.ct,k.rt⟩⟩
theorem ak{X:Cx}{st:ae4}{t:TSd}(a:QSd X st t):QSs X [st] t:=by
 simp only[QSd.eq,QSs.eq]at *
 exact BY a
theorem aB{X:Cx}{e:O4}{te:TEd}{c:Pos}(he:QEd X e te):QSd X (.Return (some e) c) (IJ te):=by
 simp only[QEd.eq,QSd.eq]at *
 exact(uR he).conv fun D i H a=>a.el fun g M E h f q k=>⟨g,M,_,h,f,q,k.rt⟩
theorem fM{X:Cx}{e:O4}{te:TEd}{a:Pos}(he:QEd X e te) (hs:autoParam (ak9 e none a.line X.env=ak7 false) L2.zq0._auto_1):QSd X (.Expr e a) (Ab te):=by
 simp only[QEd.eq,QSd.eq]at *
 exact(Dg he hs).conv fun D m H c=>c.el fun h M E i l q k=>⟨h,M,_,i,l,q,fun d M1 v n j g f _=>k.nx h M1 m n j g f (i.ext g)⟩
theorem aZ{X:Cx}{c:O4}{j:Pos}{t:TSd}{u:TSd}{m l:List ae4}{tc:TTd}(n:QTd X c tc) (ha:QSs X m t) (p:QSs X l u):QSd X (.If c m l j) (Gg tc t u):=by
 simp only[QTd.eq,QSd.eq,QSs.eq]at *
 exact(Iq n ha p).conv fun D s H g=>g.el fun h M E i o q k=>⟨h,M,_,i,o,q,fun b M1 w f e a=>by
   cases b with
   |true=>simp only[if_true]at f ⊢;exact⟨h,M1,E,i.ext e,a,f,k.ext e⟩
   |false=>simp only[J9,if_false]at f ⊢;exact⟨h,M1,E,i.ext e,a,f,k.ext e⟩⟩
theorem aE{X:Cx}{e:O4}{te:TEd}{c:Pos}{i:Nat}{x:Str}{a:Pos}(z:X.N.Nodup) (o:X.N[i]?=some x) (m:Loc X.env.scope x) (he:QEd X e te) (hs:autoParam (ak9 e (some (.Name x a)) c.line X.env=ak7 false) L2.zq0._auto_1) (l:autoParam (X.fn x=true∨X.env.scope.names.lookup x=some .local) L2.zq3._auto_1) :
  QSd X (.Assign [.Name x a] e c) (FH i te):=by
 simp only[QEd.eq,QSd.eq]at *
 exact(Et z o m he hs l).conv fun D A H f=>f.el fun s M E j p q k=>⟨s,M,_,j,p,q,fun d M1 v w n h g u=>k.nx _ M1 _ w n h g ((j.ext h).set i u)⟩
theorem Hd{X:Cx}{e:O4}{te:TEd}{m:Pos}{i:Nat}{x:Str}{op:ax0}{r:D->D->Option D}{c:Pos}(Z:X.N.Nodup) (O:X.N[i]?=some x) (B:Loc X.env.scope x) (he:QEd X e te) (T:bL X (ax5 op) r) (p:autoParam (X.fn x=true∨X.env.scope.names.lookup x=some .local) L2.zq3._auto_1) :
  QSd X (.AugAssign (.Name x c) op e m) (Gz i te r):=by
 simp only[QEd.eq,QSd.eq]at *
 have h:PIp X op (opV X.K r):=fun G s n H x y v u Q I N C q=>T.v G s n H x y v u Q I N C q;refine(Fe Z O B he h p).conv fun D n H J=>?_;obtain⟨S,M,E,l,P,⟨d,R,q⟩,k⟩:=J;obtain⟨v,Y,U⟩:=l.2 i d R;refine⟨v,Y,S,M,_,l,P,q,fun y M1 w H1 z57z j a g=>by obtain⟨z,ez,L⟩:=z57z;exact ⟨_,_,z,M1,a,(U.ext j).rd a,g.rd a,ez,fun w2 A o f r2=>k.nx _ M1 _ A L (j.trans o) f (((l.ext j).ext o).set i r2)⟩⟩
theorem Dt{X:Cx}{t:TSd}{c:List ae4}(i:Nat) (h:QSs X c t):QSs X c (BB i t):=by
 simp only[QSs.eq]at *
 exact PSs.conv h fun D e H z58z=>by
  obtain⟨w,M,E,n,f,⟨a,x,o,u,q⟩,k⟩:=z58z
  refine⟨_,jO M a,E,?_,f.le LeM.del,q,k.ext (Ext.le LeM.del)⟩;obtain⟨v,l,g⟩:=n.2 i _ o;simp only[Rep]at g;subst g;have:=(n.ext (Ext.le (M1:=jO M a) LeM.del)).set i (Rep.froze (M1:=jO M a) f LeM.del u iZ);have s:e.set i (some (.ref a))=e:=by
   apply Z9;intro j
   by_cases m:j=i
   ·subst m;have p:j<e.length:=(L6.mp l).1;rw[ab4 p,l]
   ·rw[ag4 (ab6 m)]
  rw[s]at this;exact this
theorem uf{X:Cx}{e:O4}{te:TEd}{h:Pos}{a:O4}{g:GD}(he:QEd X e te) (hg:PGd X a g) (hs:autoParam (swapsWithSole [a] e h.line X.env=ak7 false) L2.zq0._auto_1) (x:autoParam (swappedStores [a] e X.env=ak7 none) L2.zq0._auto_1)
  (w:autoParam ((ad2 [a] X.env).map (·.2)=[at0 a X.env]) L2.zq0._auto_1):QSd X (.Assign [a] e h) (Io te g):=by
 simp only[QEd.eq,QSd.eq]at *
 obtain⟨I,B,G⟩:=hg;exact(FR he B hs x w).conv fun D u H j=>j.el fun n M E p A q k=>⟨n,M,_,p,A,q,fun d M1 v o z59z m f C=>by obtain⟨c,s,z⟩:=z59z;exact G d v u n c M1 o _ (p.ext m) f C s fun i l=>k.nx c M1 i o z m f l⟩
theorem dG{X:Cx}{a:O4}{h:Pos}{m:O4}{i:TAd}{p:Pos}(hg:Gl X "range") (l:X.mg "range"=none) (ha:QAd X [a] i) (hs:autoParam (K8 [a] X.env=[(false,af7 a X.env)]) L2.zq0._auto_1):QId X m (.Call (.Name "range" p) [a] [] h) (zH i):=by
 simp only[QAd.eq,QId.eq]at *
 exact(ye hg l ha hs).conv fun G H R f=>f.el fun z M I E w q k=>⟨z,M,_,E,w,q,fun J M1 L C z60z s g A=>by
   obtain⟨j,x,o,n,u⟩:=z60z
   subst x;obtain⟨v,B,e⟩:=A.one;have c:v=.int j:=by simpa only[Rep]using e
   subst c;subst B;exact⟨j,rfl,o,n,k _ M1 _ C u s g wN⟩⟩
theorem kn{X:Cx}{a:O4}{b:O4}{l:Pos}{u:O4}{o:TAd}{p:Pos}(hg:Gl X "range") (s:X.mg "range"=none) (ha:QAd X [a,b] o) (hs:autoParam (K8 [a,b] X.env=[(false,af7 a X.env),(false,af7 b X.env)]) L2.zq0._auto_1) (m:autoParam (K8 [b] X.env=[(false,af7 b X.env)]) L2.zq0._auto_1):QId X u (.Call (.Name "range" p) [a,b] [] l) (zK o):=by
 simp only[QAd.eq,QId.eq]at *
 exact(xy hg s ha hs m).conv fun N H R f=>f.el fun E M O L B q k=>⟨E,M,_,L,B,q,fun P M1 Q J z61z z g G=>by
   obtain⟨i,j,C,x,A⟩:=z61z
   subst C;obtain⟨v,w,I,e,h⟩:=G.two;have c:v=.int i:=by simpa only[Rep]using e
   have n:w=.int j:=by simpa only[Rep]using h
   subst c;subst n;subst I;exact⟨i,j,rfl,x,k _ M1 _ J A z g wN⟩⟩
theorem cq{X:Cx}{Y:Pos}{S:O4}{iter:O4}{p:List ae4}{Z:TId}{g:GD}{P:TSd}(hp:U7 (N3 X.prog X.w) X.A X.env X.xe) (hc:X.calm=true) (hi:QId X S iter Z) (hg:PGd X S g) (hb:QSs X p P)
  (hs:autoParam (∀x,Z7 iter X.env x=ak7 x) L2.zq2._auto_1):QSd X (.For S iter p [] Y) (GO Z g P):=by
 simp only[QSd.eq,QSs.eq,QId.eq]at *
 obtain⟨gv,pg,kg⟩:=hg;refine(EE hp hc hi pg hb hs).conv fun D σ H hh=>?_;obtain⟨Δ,M,E,sr,hr,q,k⟩:=hh;refine⟨Δ,M,_,sr,hr,q,fun j M1 J H1 q1 Q U it=>?_⟩;refine⟨fun i m e h=>∃ a c,m=j.length-i/\i<=j.length/\Ext M1 H1 c h/\HR X.K c h/\SR X.K c h e a/\dj g P E (j.drop i) a c,⟨j.length,Δ,M1,by simp,P1 _,Ext.refl _ _,U,sr.ext Q,q1⟩,?_⟩;rintro i m O H2 ⟨B,M2,rfl,a1,w,I,L,N⟩;obtain⟨go,stop⟩:=it M2 H2 w I i
 by_cases o:i<j.length
 ·have hd:j[i]?=some j[i]:=by simp[o]
  obtain⟨g1,y1⟩:=go _ hd;rw[ac2 o]at N;simp only[dj]at N;obtain⟨A,eg,f3⟩:=N;refine .inr ⟨g1,fun e h=>∃m',m'<j.length-i/\∃ a c,m'=j.length-(i+1)/\i+1<=j.length/\Ext M1 H1 c h/\HR X.K c h/\SR X.K c h e a/\dj g P E (j.drop (i+1)) a c,fun e h z=>z,fun x h hy=>?_⟩;obtain⟨G,C,rx⟩:=y1 x h hy;refine kg _ x O B A M2 h _ (L.ext G) C rx eg fun a0 R=>?_;refine⟨A,M2,_,R,C,f3,⟨fun a c e n u s f l=>?_,fun a c e n u s f l=>?_,fun a c e n u s f l=>?_,fun d c v n u s f T=>?_⟩⟩
  ·exact⟨_,by lia,a,c,rfl,o,(w.trans G).trans s,f,l,u⟩
  ·exact k.nx a c e n u (((Q.trans w).trans G).trans s) f l
  ·exact⟨_,by lia,a,c,rfl,o,(w.trans G).trans s,f,l,u⟩
  ·exact k.rt d c v n u (((Q.trans w).trans G).trans s) f T
 ·rw[ai8 (by lia)]at N;exact .inl ⟨stop (by lia),k.nx B M2 O H2 N (Q.trans w) I L⟩
theorem wd{X:Cx}{c:O4}{N:Pos}{n:List ae4}{tc:TTd}{O:TSd}(Y:U7 (N3 X.prog X.w) X.A X.env X.xe) (Q:QTd X c tc) (hb:QSs X n O):QSd X (.While c n [] N) (AK tc O):=by
 simp only[QTd.eq,QSd.eq,QSs.eq]at *
 refine(zX Y Q hb).conv fun D σ H U=>?_;obtain⟨Δ,M,E,sr,Z,⟨W,⟨R,S⟩,x⟩,k⟩:=U;refine⟨fun m f l=>∃ a e,Ext M H e l/\HR X.K e l/\SR X.K e l f a/\W m a e,⟨R,Δ,M,Ext.refl _ _,Z,sr,S⟩,?_⟩;rintro m B H1 ⟨j,M1,w,L,q,T⟩;refine⟨j,M1,_,q,L,x m j M1 T,fun b M2 P A p u=>?_⟩;cases b with
 |true =>
  simp only[if_true]at A ⊢;refine⟨fun f l=>∃s,s<m/\∃ a e,Ext M H e l/\HR X.K e l/\SR X.K e l f a/\W s a e,fun f l z=>z,j,M2,_,q.ext p,u,A,⟨fun a e f i z62z o g h=>?_,fun a e f i J o g h=>?_,fun a e f i z63z o g h=>?_,fun d e v i J o g I=>?_⟩⟩
  ·obtain⟨s,C,G⟩:=z62z;exact⟨s,C,a,e,(w.trans p).trans o,g,h,G⟩
  ·exact k.nx a e f i J ((w.trans p).trans o) g h
  ·obtain⟨s,C,G⟩:=z63z;exact⟨s,C,a,e,(w.trans p).trans o,g,h,G⟩
  ·exact k.rt d e v i J ((w.trans p).trans o) g I
 |false =>
  simp only[J9,if_false]at A ⊢;exact k.nx j M2 B P A (w.trans p) u (q.ext p)
theorem bP{X:Cx}:QIf X [] CO:=by
 simp only[QIf.eq]at *
 exact fun a s e H Q I z64z=>(by obtain⟨f,M,R,g,c,q,k⟩:=z64z;exact BJ a s e H Q I (k true M H q (Ext.refl _ _) c))
theorem nv{X:Cx}{c:O4}{tc:TTd}(h:QTd X c tc):QIf X [c] tc:=by
 simp only[QTd.eq,QIf.eq]at *
 exact BM h
theorem eI{X:Cx}{h:Pos}{j:O4}{iter:O4}{c:O4}{a:ai7}{f:List (Str×K1)}{ms:List Bool}{aq:List Str}{e:List O4}{m:TId}{g:GD}{tc:TTd}{te:TEd}(S:dW X a f ms aq) (p:X.calm=true) (n:QId X j iter m) (hg:PGa X a f aq j g)
  (l:∀C s H i,QIf (aD X a f (X.N++aq) C s H i) e tc) (he:∀C s H i,QEd (aD X a f (X.N++aq) C s H i) c te)
  (hs:autoParam (∀x,Z7 iter X.env x=ak7 x) L2.zq2._auto_1):QEd X (.ListComp c [⟨j,iter,e,0⟩] a h) (dLc ms aq.length m g tc te):=by
 simp only[QEd.eq,QId.eq,QIf.eq]at *
 obtain⟨u,o,q⟩:=hg;exact(Eu (tc:=upT X.K tc) S p n o l (ze (te:=up X.K te) he) hs).conv (wk q)
theorem CM{X:Cx}{j:Pos}{l:O4}{iter:O4}{f:O4}{a:ai7}{m:List (Str×K1)}{ms:List Bool}{aq:List Str}{h:List O4}{i:Nat}{x:Str}{c e:Pos}{A:TId}{g:GD}{tc:TTd}{te:TEd}(N:X.N.Nodup) (p:X.N[i]?=some x) (G:X.env.scope.names.lookup x=some .local)
  (o:ak9 (.ListComp f [⟨l,iter,h,0⟩] a j) (some (.Name x e)) c.line X.env=ak7 true) (S:dW X a m ms aq) (L:X.calm=true) (J:QId X l iter A) (hg:PGa X a m aq l g)
  (w:∀C s H n,QIf (aD X a m (X.N++aq) C s H n) h tc) (he:∀C s H n,QEd (aD X a m (X.N++aq) C s H n) f te)
  (hs:autoParam (∀x,Z7 iter X.env x=ak7 x) L2.zq2._auto_1):QSd X (.Assign [.Name x e] (.ListComp f [⟨l,iter,h,0⟩] a j) c) (FH i (dLc ms aq.length A g tc te)):=by
 simp only[QEd.eq,QSd.eq,QId.eq,QIf.eq]at *
 obtain⟨gv,R,Y⟩:=hg;refine(yf (tc:=upT X.K tc) N p G o S L J R w (ze (te:=up X.K te) he) hs).conv fun D O H P=>?_;obtain⟨T,M,E,B,Q,q,k⟩:=P;exact wk Y O H _ ⟨T,M,_,B,Q,q,fun d M1 v Z I z u U=>k.nx _ M1 _ Z I z u ((B.ext z).set i U)⟩
theorem kJ{X:Cx}{e:O4}{te:TEd}{o:O4}{u:TEd}{w g:Pos}(P:QEd X o u) (he:QEd X e te) (J:autoParam (aj9 o "append" X.env (af7 o X.env)=af7 o X.env) L2.zq0._auto_1)
  (j:autoParam (K8 [e] X.env=(false,af7 e X.env)::K8 [] X.env) L2.zq0._auto_1)
  (B:autoParam (((aa2 g (K8 [e] X.env)).all (fun x => !x.1) && (backToKw g (au7 [] X.env)).all (fun x => x.1.isSome)
  &&decide ([e].length+([]:List au8).length+(if([]:List au8).isEmpty then 0 else 1)<30))=true) L2.zq0._auto_1)
  (C:autoParam ((w.endLine==g.line)=true) L2.zq0._auto_1) (G:autoParam ((aa2 g (K8 [] X.env)).any (·.1)=false) L2.zq0._auto_1):QEd X (.Call (.Attribute o "append" w) [e] [] g) (EH u te):=by
 simp only[QEd.eq]at *
 exact(Hz PySem.F.plainAttrs_list PySem.F.slot_list_append PySem.F.type_list_append (show MtR X "list.append" wj from xF) P (m5 he vd j) J B C j G).conv fun σ H Q m=>m.el fun p M R z O q k=>⟨p,M,_,z,O,q,fun o M1 ov H1 z65z n h s=>by
   obtain⟨a,l,S,Z,N⟩:=z65z
   subst S;simp only[Rep]at s;subst s;obtain⟨T,hv,rl⟩:=h a _ Z;refine⟨.inl ⟨rfl,T,SqL.of hv⟩,p,M1,_,z.ext n,h,N,fun d M2 v H2 z66z I f U=>?_⟩;obtain⟨ds,c,E,A⟩:=z66z;obtain⟨Y,L,i⟩:=f a _ c;refine⟨a,Y,v,rfl,rfl,L,by rw[<-i.length];exact E,k _ _ _ _ A ((n.trans I).trans (Ext.write c)) (f.write c (i.append (am.cons U am.nil))) (by simp[Rep])⟩⟩
theorem cH{X:Cx}{a:O4}{w:TEd}{f:Pos}{T:Str}{Tn:String}{p c:Pos}(C:okT Tn=true) (hg:Gl X "isinstance") (G:X.mg "isinstance"=none) (n:Gl X T) (i:X.mg T=none) (j:ac5 T=some (.type Tn)) (ha:QEd X a w) (l:autoParam (T≠"__name__") L2.zq1._auto_1) (m:autoParam ((T==("__debug__":Str))=false) L2.zq1._auto_1)
  (hs:autoParam (K8 [a,.Name T c] X.env=(false,af7 a X.env)::K8 [.Name T c] X.env) L2.zq0._auto_1) (u:autoParam (K8 [.Name T c] X.env=(false,af7 (.Name T c) X.env)::K8 [] X.env) L2.zq0._auto_1) (hpl:autoParam ((aa2 f (K8 [.Name T c] X.env)).any (·.1)=false) L2.zq0._auto_1) :
  QEd X (.Call (.Name "isinstance" p) [a,.Name T c] [] f) (HH Tn w):=by
 simp only[QEd.eq]at *
 have z:di X (.builtin "isinstance") (fun x H Q=>∃v d k M,x=[v,.ty Tn]/\aQ X.K M H d v/\xB Tn d=some k/\Q (.bl k) H):=by
  intro Z s J H x us Q I o h;obtain⟨v,d,k,M,rfl,rd,g,q⟩:=h;obtain⟨u1,u2,rfl,L,Y⟩:=ax.two o;cases Y;exact xV C I L rd g q
 refine(tG z hg G (by kernel_rfl) (m5 ha (m5 (BU (v:=.ty Tn) n i j rfl l m) vd u) hs) (by decide) (by decide) hs hpl).conv fun J H Q N=>?_;obtain⟨P,M,R,E,O,q,k⟩:=N;exact⟨P,M,_,E,O,q,fun d M1 v S z67z A e o=>by obtain⟨U,g,B⟩:=z67z;exact ⟨v,_,U,M1,rfl,o.rd e,g,k _ M1 _ S B A e (by simp[Rep])⟩⟩
theorem da{X:Cx}:QOd X none se:=by
 simp only[QEd.eq,QAd.eq,QTd.eq,QWd.eq,QSd.eq,QSs.eq,QId.eq,QIf.eq,QOd.eq]at *
 exact B4 
theorem br{X:Cx}{e:O4}{te:TEd}(h:QEd X e te):QOd X (some e) (zx te):=by
 simp only[QEd.eq,QAd.eq,QTd.eq,QWd.eq,QSd.eq,QSs.eq,QId.eq,QIf.eq,QOd.eq]at *
 exact CJ (h:=h)
theorem qc{X:Cx}{e:O4}{a:List O4}{t:TAd}{c:Pos}{p:Pos}{x:Str}{k:Nat}{n:Nat}{S:SpD}(F:FnD X.prog X.w X.K X.mg X.base x k n S) (hr:cv k X.A) (hg:Gl X x) (ha:QAd X (e::a) t) (hdb:autoParam ((x==("__debug__":Str))=false) L2.zq1._auto_1) (he:autoParam (K8 (e::a) X.env=(false,af7 e X.env)::K8 a X.env) L2.zq0._auto_1) (hpl:autoParam ((aa2 c (K8 a X.env)).any (·.1)=false) L2.zq0._auto_1) :
  QEd X (.Call (.Name x p) (e::a) [] c) (su n S t):=by
 simp only[QEd.eq,QAd.eq,QTd.eq,QWd.eq,QSd.eq,QSs.eq,QId.eq,QIf.eq,QOd.eq]at *
 exact dc (F:=F) (hr:=hr) (hg:=hg) (ha:=ha) (hdb:=hdb) (he:=he) (hpl:=hpl)
theorem qU{X:Cx}{e:O4}{te:TEd}{g:Pos}(he:QEd X e te):QSd X (.Return (some e) g) (DS te):=by
 simp only[QEd.eq,QSd.eq]at *
 exact(uR he).conv fun D w H f=>f.el fun n M E s l q k=>⟨n,M,_,s,l,q,fun d M1 v o z68z i c h=>by
  obtain⟨a,u,m,p,j⟩:=z68z
  subst m;simp only[Rep]at h;subst h;exact k.rt _ _ _ o j (i.trans (Ext.le LeM.del)) (c.le LeM.del) (Rep.froze c LeM.del p iZ)⟩
theorem ba{X:Cx}{te:TEd}{tg:O4}{iter:O4}(h:QEd X iter te):QId X tg iter (DQ te):=by
 simp only[QEd.eq,QId.eq]at *
 intro ae s σ H R I hh;obtain⟨Δ,M,R',sr,hr,q,k⟩:=hh;refine thn (h ae s σ H (fun v l=>∃d N M1,jY d=some N/\(N.length<=K0->R' N M1)/\Ext M H M1 l/\HR X.K M1 l/\Rep X.K M1 l d v) I ⟨Δ,M,_,sr,hr,q,fun d M1 v l z69z J g z=>by obtain⟨N,n,L⟩:=z69z;exact ⟨d,N,M1,n,L,J,g,z⟩⟩) fun u B z70z=>?_;obtain⟨v,l,j,Y,d,N,M1,n,L,J,g,z⟩:=z70z;have lo:=aQ.len (K:=X.K) j z;cases d with
 |tup es =>
  cases n;simp only[Rep]at z;obtain⟨a,w,rfl,c,G⟩:=z;cases Y;obtain⟨its,U,p,O⟩:=j.tuple c.sq;refine aa7 (show B.heap.IsTuple a its.toArray from p) ?_;refine⟨B.heap.objs.size,[B.heap.objs.size],_,_,l,rfl,j.kept (t':=B.toks) fun b o e=>u8 _ e,vB a _,⟨_,J8 _ rfl,rfl,rfl⟩,rZ (o:=av1) j,?_⟩;refine k _ M1 _ l (L lo) J g fun M2 H2 f m i=>⟨fun d T=>?_,fun S=>⟨w,(c.ext f).sq,by rw[<-G.length];exact S⟩⟩;obtain⟨v,C,r⟩:=G.get T;refine⟨⟨w,v,(c.ext f).sq,C⟩,fun x H' z71z=>?_⟩;obtain⟨P,y⟩:=z71z;subst P;have:=y w (c.ext f).sq;rw[C]at this;cases this;exact⟨Ext.refl _ _,m,r.ext f⟩
 |lst es =>
  cases n;simp only[Rep]at z;obtain⟨a,w,rfl,c,G⟩:=z;cases Y;obtain⟨its,U,p,O⟩:=j.list (SqL.of c.1);refine X5 p.isList ?_;refine⟨B.heap.objs.size,[B.heap.objs.size],_,_,l,rfl,j.kept (t':=B.toks) fun b o e=>u8 _ e,qp a _,⟨_,J8 _ rfl,rfl,rfl⟩,rZ (o:=av1) j,?_⟩;refine k _ M1 _ l (L lo) J g fun M2 H2 f m i=>⟨fun d T=>?_,fun S=>⟨w,SqL.of (c.ext f).1,by rw[<-G.length];exact S⟩⟩;obtain⟨v,C,r⟩:=G.get T;refine⟨⟨w,v,SqL.of (c.ext f).1,C⟩,fun x H' z72z=>?_⟩;obtain⟨P,y⟩:=z72z;subst P;have:=y w (SqL.of (c.ext f).1);rw[C]at this;cases this;exact⟨Ext.refl _ _,m,r.ext f⟩
 |scr es =>
  cases n;simp only[Rep]at z;obtain⟨a,w,rfl,c,G⟩:=z;cases Y;obtain⟨its,U,p,O⟩:=j.list c.sq;refine X5 p.isList ?_;refine⟨B.heap.objs.size,[B.heap.objs.size],_,_,l,rfl,j.kept (t':=B.toks) fun b o e=>u8 _ e,qp a _,⟨_,J8 _ rfl,rfl,rfl⟩,rZ (o:=av1) j,?_⟩;refine k _ M1 _ l (L lo) J g fun M2 H2 f m i=>⟨fun d T=>?_,fun S=>⟨w,(c.ext f).sq,by rw[<-G.length];exact S⟩⟩;obtain⟨v,C,r⟩:=G.get T;refine⟨⟨w,v,(c.ext f).sq,C⟩,fun x H' z73z=>?_⟩;obtain⟨P,y⟩:=z73z;subst P;have:=y w (c.ext f).sq;rw[C]at this;cases this;exact⟨Ext.refl _ _,m,r.ext f⟩
 |str x =>
  simp only[jY]at n
  by_cases O:x.length<=K0
  ·rw[if_pos O]at n;cases n;simp only[Rep]at z;subst z;obtain⟨t,rfl⟩:=Y;have hq:=k _ M1 _ l (L (by have Z:x.cps.size<=K0:=O;simpa[fY]using Z)) J g Em;cases ha:x.cps.all (·<128)
   ·exact wpAny_pyIter_wide ha (wA j "str_iterator" (by decide) (fun A hA=>av4.strWide hA _ x t) (fun A i s' Q E st q=>wpAny_pyIter_striter_wide st q) hq)
   ·exact wpAny_pyIter_ascii ha (wA j "str_ascii_iterator" (by decide) (fun A hA=>av4.strAscii hA _ x t) (fun A i s' Q E st q=>wpAny_pyIter_striter_ascii st q) hq)
  ·rw[if_neg O]at n;cases n
 |_=>cases n
theorem ik{X:Cx}{e:O4}{te:TEd}{g:Pos}(he:QEd X e te):QSd X (.Return (some e) g) (D8 te):=by
 simp only[QEd.eq,QSd.eq]at *
 exact(uR he).conv fun D p H c=>c.el fun l M E o j q k=>⟨l,M,_,o,j,q,fun d M1 v n ⟨M2,a,i⟩ h f m =>
  k.rt _ _ _ n i (h.trans (Ext.le a)) (f.le a) (m.ext (Ext.le a))⟩
theorem Fm{X:Cx}{a:O4}{t:TAd}{l:Pos}{Q:O4}{p:Pos}(hg:Gl X "reversed") (P:X.mg "reversed"=none) (ha:QAd X [a] t) (hs:autoParam (K8 [a] X.env=[(false,af7 a X.env)]) L2.zq0._auto_1):QId X Q (.Call (.Name "reversed" p) [a] [] l) (DX t):=by
 simp only[QAd.eq,QId.eq]at *
 intro Z s S H R I hh;obtain⟨Δ,M,U,sr,hr,q,k⟩:=hh;refine Call_ (cO I hg P pK (S2 (thn (ha l Z s S H (fun h g=>∃c M1,am X.K M1 g [.tup c] h/\(c.length<=K0->U c.reverse M1)/\Ext M H M1 g/\HR X.K M1 g) I ⟨Δ,M,_,sr,hr,q,fun ds M1 h g z75z j f E=>by obtain⟨c,ed,B⟩:=z75z;exact ⟨c,M1,by rw[<-ed];exact E,B,j,f⟩⟩) fun us L z76z=>?_) hs rfl));obtain⟨h,g,m,T,c,M1,E,B,j,f⟩:=z76z;obtain⟨v,rfl,C⟩:=E.one;cases T with
 |cons r O =>
  cases O;have lo:=aQ.len (K:=X.K) m C;simp only[Rep]at C;obtain⟨ad,h,rfl,A,N⟩:=C;cases r;obtain⟨its,w,pt,hz⟩:=m.tuple A.sq;have a0:=w.length;have a1:=N.length;have G:its.toArray.size<2 ^ 63:=by have:=AM;simp;lia
  refine nL pt G fun kk=>?_;refine fD (i:=(its.toArray.size:Int)-1) ⟨_,J8 _ rfl,rfl,rfl⟩ ?_;refine⟨L.heap.objs.size,[L.heap.objs.size],_,_,g,rfl,m.kept (t':=kk) fun b o e=>u8 _ e,zP ad _ c.length,⟨P1 _,_,J8 _ rfl,rfl,?_⟩,rZ (o:=av1) m,?_⟩
  ·show Data.fields _=_;have j:(its.toArray.size:Int)-1=(c.length:Int)-1-((0:Nat):Int):=by simp;lia
   rw[j]
  ·refine k _ M1 _ g (B lo) j f fun M2 H2 z u i=>⟨fun d n=>?_,fun hl=>by show c.length<=i;simpa using hl⟩;have J:i<c.length:=by
    have:=(L6.mp n).1;simpa using this
   rw[List.getElem?_reverse J]at n;obtain⟨v,gv,r⟩:=N.get n;refine⟨⟨⟨h,(A.ext z).sq,by lia⟩,J⟩,fun x H' z77z=>?_⟩;obtain⟨Y,y⟩:=z77z;subst Y;have:=y h (A.ext z).sq;rw[gv]at this;cases this;exact⟨Ext.refl _ _,u,r.ext z⟩
theorem bu{X:Cx}{e:O4}{te:TEd}{S:Pos}{lo U:Option O4}{Z T:TOd}{p2:Pos}(he:QEd X e te) (hl:QOd X lo Z) (hu:QOd X U T):QEd X (.Subscript e (.Slice lo U none p2) S) (IE te Z T):=by
 simp only[QEd.eq,QOd.eq]at *
 refine(BC (SlR.or Cg (SlR.or F7 (SlR.or F1 AF))) he hl hu).conv fun σ H Q hh=>?_;obtain⟨O,M,R,P,hr,q,k⟩:=hh;refine⟨O,M,_,P,hr,q,fun x M1 v H1 q1 J N rv=>⟨O,M1,_,P.ext J,N,q1,fun l M2 H2 q2 G C=>⟨O,M2,_,(P.ext J).ext G,C,q2,fun u j B z78z Y c=>?_⟩⟩⟩;obtain⟨z,g,q3⟩:=z78z;have h:=((rv.ext G).ext Y).rd c;have ee:=(J.trans G).trans Y;have A:∀w i,Ext j B j i->HR X.K j i->Rep X.K j i z w->Q w i:=fun w i e4 I r4=>k z j w i q3 (ee.trans e4) I r4;generalize rdM j x=d at h g;cases d with
 |lst m =>
  cases g;obtain⟨a,n,rfl,sq,f⟩:=h;refine .inl ⟨a,n,rfl,SqL.of sq,fun p o=>dq c o ?_ A⟩;unfold cj rJ;rw[<-f.length];exact(f.drop _).take _
 |scr m =>
  cases g;obtain⟨a,n,rfl,sq,f⟩:=h;refine .inl ⟨a,n,rfl,sq,fun p o=>dq c o ?_ A⟩;unfold cj rJ;rw[<-f.length];exact(f.drop _).take _
 |str s =>
  simp only[slE,slD]at g
  by_cases E:s.length<=K0
  ·rw[if_pos E]at g;cases g;exact .inr (.inr (.inl ⟨s,px h,E,A _ B (Ext.refl _ _) c (by simp[Rep])⟩))
  ·rw[if_neg E]at g;cases g
 |tup m =>
  cases g;have rt:=aQ.tup c h;obtain⟨a,n,rfl,sq,f⟩:=h
  by_cases L:HT.sIx m.length 0 l=0/\HT.sIx m.length m.length u=m.length
  ·refine .inr (.inr (.inr ⟨a,n,rfl,sq,by rw[<-f.length];exact L,A _ B (Ext.refl _ _) c ?_⟩));rw[vz L];exact rt
  ·refine .inr (.inl ⟨a,n,rfl,sq,by rw[<-f.length];exact L,fun p o=>oU c o ?_ A⟩);unfold cj rJ;rw[<-f.length];exact(f.drop _).take _
 |_=>cases g
theorem tL{X:Cx}{e:O4}{te:TEd}{G:TEd}{N:Pos}{st:O4}{p2:Pos}(he:QEd X e te) (hs:QEd X st G):QEd X (.Subscript e (.Slice none none (some st) p2) N) (zz te G):=by
 simp only[QEd.eq]at *
 intro A s p H Q I hh;obtain⟨E,M,R,T,hr,q,k⟩:=hh;refine aw4 (thn (he A s p H (fun v g=>∃x M1,Rep X.K M1 g x v/\Ext M H M1 g/\HR X.K M1 g/\G E M1 fun st M2=>st=.int (-1)/\∃a,x=.tup a/\R (.tup a.reverse) M2) I
  ⟨E,M,_,T,hr,q,fun x M1 v g C m f J=>⟨x,M1,J,m,f,C⟩⟩) fun v s1 z79z=>?_)
 obtain⟨vx,g,I1,r1,x,M1,J,m,f,C⟩:=z79z;refine wpAny_Slice ?_;rw[evalPart_none];refine J1 (J1 ?_);rw[evalPart_some];refine thn (hs A s1 p g (fun u h=>∃M2 a,u=.int (-1)/\x=.tup a/\R (.tup a.reverse) M2/\Ext M1 g M2 h/\HR X.K M2 h) I1 ⟨E,M1,_,T.ext m,f,C,fun d M2 u h z80z l c ru=>by obtain⟨ed,a,B,n⟩:=z80z;exact ⟨M2,a,by subst ed;simpa only[Rep]using ru,B,n,l,c⟩⟩) fun u i z81z=>?_;obtain⟨vu,h,I2,r2,M2,a,eu,B,n,l,c⟩:=z81z;subst eu;subst B;obtain⟨tk,rfl⟩:=r2;have j:=J.ext l;simp only[Rep]at j;obtain⟨ad,S,rfl,ta,rl⟩:=j;cases r1;have L:Inv X A p h { i with heap:=i.heap.push { cls:=.type "slice",data:=.fields #[.none,.none,.int (-1) tk] } }:=I2.kept (t':=i.toks) fun b ob q=>u8 _ q;obtain⟨its,r,O,P⟩:=L.tuple ta.sq;have Z:=r.length;refine tail_any (ops:=[.ref ad,.ref i.heap.objs.size]) O.typeIs R0.lookup (HT.getItem_tuple_rev O (L5.IsSliceOf.new ..) ?_ (by rw[K3,<-Z];exact P)) (by with_unfolding_all rfl);have U:ax S.reverse its.reverse:=ax.reverse r;refine⟨.ref _,_,L.laid (t':=i.toks) (o:=.tup S.reverse) (fun b ob q=>u8 _ q) (J7 _) ?_,rfl,?_⟩
 ·exact⟨by simpa using P,_,U,lq.new _ _⟩
 ·exact oU (ds:=a.reverse) c (L.hok.fresh (J7 _)) rl.reverse fun w Y e4 z r4=>k _ M2 w Y n ((m.trans l).trans e4) z r4
section
variable{X:Cx}{rest:List ae4}{t:TSd}{e:O4}{y:TTd}
theorem CI(h:QSs X rest t):Dj X rest t:=by
 rw[QSs.eq]at h;exact h
theorem gB(h:QWd X e y):QTd X e y:=by
 simp only[QWd.eq,QTd.eq]at *
 exact PWd.pt h
end
end L2
namespace L2
open PySem PySem.Spec PyProof.Rows PySem.Builtin.Str
end L2
namespace L2
open PySem PySem.Spec PyProof.Rows
end L2
namespace Att
open PySem PySem.W PySem.Calls PyProof.Rows
end Att
namespace L2
open PySem PySem.Spec PyProof.Rows
section
variable{X:Cx}{y:Pos}
theorem HL{K:J4}{M:DH}{H:Hp}{a b:D}{xs:List V}(h:ad0 (aQ K M H) [a,b] xs):∃v w,xs=[v,w]/\aQ K M H a v/\aQ K M H b w:=by
 cases h with
 |cons r t =>
  cases t with
  |cons e c=>cases c;exact⟨_,_,rfl,r,e⟩
noncomputable def dmD:List D->Option D
 |[.int i,.int j]=>if rG i j then some (.tup [.int (i / j),.int (i % j)])else none
 |_=>none
noncomputable def E7:List D->Option D
 |[.int i,.int j]=>some (.int (if j > i then j else i))
 |_=>none
theorem HZ(g:X.calm=true):bD X (.builtin "max") E7:=bD.of (yd g) fun H M m n l Q c a e q=>by
 unfold E7 at e
 split at e
 ·rename_i i j;cases e;obtain⟨v,w,rfl,f,h⟩:=HL a;rw[fX f,fX h];exact⟨i,j,rfl,q _ H (Ext.refl _ _) c (by simp[Rep])⟩
 ·cases e
end
open AutoSeq1 (wpAny_loadPart')
section
variable{prog:M9}{w:P5}{A:O9}{E:J3->J5->Prop}{s:J5}
theorem mP(l:K1) (its:Array J3) (n:Nat) (e:Option K1) (m:Array (Option J3)) :
  Meets (L3.«enumerate.__new__» ⟨[.type "enumerate",.ref l],[]⟩) (fun _ R s=>s.heap.get? l=some { cls:=.type "tuple",dict:=e,data:=.seq its n,slots:=m } /\
   R (.ok (.ret (.ref (s.heap.push { cls:=.type "tuple_iterator",data:=.fields #[.ref l,.int 0 0] }).objs.size)))
    { s with heap:=(s.heap.push { cls:=.type "tuple_iterator",data:=.fields #[.ref l,.int 0 0] }).push { cls:=.type "enumerate",data:=.fields #[.none,.bool false,.ref s.heap.objs.size,W5 0,.none,.none] } }) :=
 .of_wp fun prog w A R s h=>by
  obtain⟨o,g,d,p,os⟩:=s;have a:=h.1;have f:=h.2;have j:=sub_enumerate;have i:at8 (an5 ⟨o,g,d,p,os⟩) l its:=⟨_,a,rfl,n,rfl⟩
  wp_walk using aj3 a
  refine wpAny_stack_any fun st=>J1 ?_
  split
  ·rename_i c _ _ _ _ _;cases(c==af0 "enumerate")<;>(wp_walk using aj3 a,aa7 i;exact⟨_,rfl,f⟩)
  ·wp_walk using aj3 a,aa7 i
   exact⟨_,rfl,f⟩
theorem mU{l:K1}{its:Array J3}{Q:J3->J5->Prop}(p:s.heap.IsTuple l its)
  (h:∀ h',IsEnum h' (s.heap.objs.size + 1) s.heap.objs.size 0 .none → h'.IsTupleIter s.heap.objs.size l 0 → h'.objs.size = s.heap.objs.size + 2 →
   (∀b o,s.heap.get? b=some o->h'.get? b=some o)->Q (.ref (s.heap.objs.size+1)) { s with heap:=h' }) :
  K5 (N3 prog w) A (aw9 (.type "enumerate") [.ref l]) Q E s:=by
 obtain⟨⟨c,a,dt,i⟩,j,u,n,g⟩:=p;obtain rfl:c=.type "tuple":=u;obtain rfl:dt=.seq its n:=g;refine callType_new F.called_enumerate (by decide) (F.typeCall_enumerate_1 _) (F.newCall_enumerate_1 _) (fun m=>F.args_object_init_2 m _) F.entry_enumerate_new (mP l its n a i) ⟨j,?_⟩;have e:(s.heap.push { cls:=.type "tuple_iterator",data:=.fields #[.ref l,.int 0 0] }).objs.size=s.heap.objs.size+1:=R6 ..;show _/\_;rw[e];have f:IsEnum ((s.heap.push { cls:=.type "tuple_iterator",data:=.fields #[.ref l,.int 0 0] }).push { cls:=.type "enumerate",data:=.fields #[.none,.bool false,.ref s.heap.objs.size,W5 0,.none,.none] }) (s.heap.objs.size+1) s.heap.objs.size 0 .none:=by
  have q:=J8 (s.heap.push { cls:=.type "tuple_iterator",data:=.fields #[.ref l,.int 0 0] }) (o:={ cls:=.type "enumerate",data:=.fields #[.none,.bool false,.ref s.heap.objs.size,W5 0,.none,.none] }) rfl
  rwa [e]at q
 exact⟨⟨_,f,rfl⟩,h _ f ⟨_,u8 _ (J8 _ rfl),rfl,rfl⟩ (by rw[R6,e]) fun b o x=>u8 _ (u8 _ x)⟩
theorem gN{it t:K1}{i:Nat}{its}{x:J3}{Q:J3->J5->Prop}(a:s.heap.IsTupleIter it t i) (h:s.heap.IsTuple t its) (m:its[i]?=some x)
  (l:∀h',h'.IsTupleIter it t (i+1)->O6 it s.heap h'->Q x { s with heap:=h' }):K5 (N3 prog w) A (S1 (.ref it)) Q E s:=by
 obtain⟨o,e,j,c⟩:=id a;obtain⟨p,g,_,n,f⟩:=h;unfold S1;refine o0 (P2 (name:=N1 "__next__") a.typeIs ae9 (O7 ae9 a.typeIs F.entry_tuple_iterator_next ?_ (F.args_tuple_iterator_next_1 _)));show K5 _ _ (field (.ref it) 0 >>= _) _ _ s;refine o0 (T8 e c (x:=.ref t) rfl ?_);show K5 _ _ (if(Q0 t==T9)=true then _ else _) _ _ s;rw[if_neg (show ¬ ((Q0 t==T9)=true)from P7)];show K5 _ _ (field (.ref it) 1 >>= _) _ _ s;refine o0 (T8 e c (x:=.int i 0) rfl ?_);show K5 _ _ (at9 (.ref t) >>= _) _ _ s;refine o0 (ae3 g f ?_);simp only[V8,m];refine o0 (W9 e c (by simp) (J1 ⟨x,rfl,J1 (l _ ?_ (Q7 ..))⟩));exact⟨_,T5 _ e (aj5 (aa6 c _)),(Obj.cls_mapFields ..).trans j,by rw[aa6 c];simp[W5]⟩
theorem gZ{it t:K1}{i:Nat}{its}{Q:J3->J5->Prop}(l:A.handled=none) (c:s.heap.IsTupleIter it t i) (p:s.heap.IsTuple t its) (q:its[i]?=none)
  (n:∀h' e,an3 it s.heap h'->(∃o,h'.get? e=some o/\o.cls=.type "StopIteration")->E (.ref e) { s with heap:=h' }):K5 (N3 prog w) A (S1 (.ref it)) Q E s:=by
 obtain⟨o,j,u,f⟩:=id c;obtain⟨B,h,_,z,g⟩:=p;unfold S1;refine o0 (P2 (name:=N1 "__next__") c.typeIs ae9 (O7 ae9 c.typeIs F.entry_tuple_iterator_next ?_ (F.args_tuple_iterator_next_1 _)));show K5 _ _ (field (.ref it) 0 >>= _) _ _ s;refine o0 (T8 j f (x:=.ref t) rfl ?_);show K5 _ _ (if(Q0 t==T9)=true then _ else _) _ _ s;rw[if_neg (show ¬ ((Q0 t==T9)=true)from P7)];show K5 _ _ (field (.ref it) 1 >>= _) _ _ s;refine o0 (T8 j f (x:=.int i 0) rfl ?_);show K5 _ _ (at9 (.ref t) >>= _) _ _ s;refine o0 (ae3 h g ?_);simp only[V8,q];refine o0 (ak0 (o0 (W9 j f (by simp) ?_)));show K5 _ _ (aw8 (.type "StopIteration") [] >>= _) _ _ _;refine o0 ?_;simp only[aw8,av8];refine o0 (N0 ?_ (by size_fits));refine o0 (m:=ac4 _ _) (ad6 (a:=T9) (by first|rfl|(simp only[ac4];rfl)) ?_);refine N0 ?_ (by size_fits);simp -iota only[av9];refine o0 (ap0 ?_)
 first|rw[show A.in1.handled=none from l]|rw[l]
 refine o0 (J1 (as1 ?_));exact n _ _ (((Q7 ..).extBut.push _).push _) ⟨_,J8 _ rfl,rfl⟩
theorem xQ{prog:M9}{w:P5}{A:O9}(m:A.handled=none) (it l:K1) (f:l≠it) (its:Array J3) :
  Draws prog w A it [it,l] its.size (fun i v=>its[i]?=some v) (fun i h=>h.IsTupleIter it l i/\h.IsTuple l its) where
 live:=fun _ _ st=>let⟨o,e,_⟩:=st.1;⟨o,e⟩
 frame:=fun _ _ _ st j=>⟨let⟨o,e,r⟩:=st.1;⟨o,j it (by simp) o e,r⟩,let⟨o,e,r⟩:=st.2;⟨o,j l (by simp) o e,r⟩⟩
 item:=fun i s Q E g st q=>gN st.1 st.2 (x:=its[i]) (by simp[g]) fun n a c=>q _ n s.toks (by simp[g]) ⟨a,st.2.extBut c.extBut f⟩ c
 done:=fun s Q E st p=>gZ m st.1 st.2 (by simp) p
end
section
variable{X:Cx}{y:List (K1×Obj)}{σ:St}{H:Hp}{s:J5}{h':L5}
theorem Inv.turned2{t':Nat}{e it:K1}(I:Inv X y σ H s) (k:∀b o,b≠e->b≠it->s.heap.get? b=some o->h'.get? b=some o) (A:dP X y H e) (p:dP X y H it):Inv X y σ H { s with heap:=h',toks:=t' }:=by
 obtain⟨L,j,R,G,B,w⟩:=A;obtain⟨O,i,Q,J,l,E⟩:=p;have f:∀b u,H b=some u->b≠e/\b≠it:=fun b u q=>⟨fun z=>(by rw[z,L]at q;cases q),fun z=>(by rw[z,O]at q;cases q)⟩;have h:∀b o,b∉[e,it]->s.heap.get? b=some o->h'.get? b=some o:=fun b o a q=>k b o (fun z=>a (by simp[z])) (fun z=>a (by simp[z])) q;refine I.step (g':=s.gens) (d':=s.drawn) (ch:=[e,it]) (fun b M=>?_) (fun b o _ _ a q _=>h b o a q) (fun b o _ _ a q _=>⟨o.slots,h b o a q⟩) (fun _ _ _ _ n=>n)
  (fun b o a q=>⟨o,h b o a q⟩) (fun _ _ q=>q) (fun _ _ _ q=>q) (fun b S q=>⟨#[],by rw[q];simp⟩) (fun m C=>?_) (fun b u q=>?_) I.bare
 ·rcases L1.mp M with z|z
  ·subst z;exact⟨G,j,B,w⟩
  ·have z:=K2.mp z;subst z;exact⟨J,i,l,E⟩
 ·obtain⟨o,x,P,N,r⟩:=C;exact⟨o,x,P,k _ o (ab6 j) (ab6 i) N,r⟩
 ·refine(I.hok b u q).stay (fun c v a g=>?_) (fun _ q=>q) fun _ _ q=>q;rcases a with z|z
  ·rw[z]at g ⊢;exact k _ _ (f b u q).1 (f b u q).2 g
  ·exact k c v (f c _ z).1 (f c _ z).2 g
end
def pJ(b:Bool) (K:J4) (H:Hp) (a:K1) (xs:List V):Prop:=match b with|true=>SqT K H a xs|false=>SqL K H a xs
def sD(b:Bool) (h:L5) (it a:K1) (i:Nat):Prop:=match b with|true=>h.IsTupleIter it a i|false=>h.IsListIter it a i
noncomputable def Gu(b:Bool):String:=match b with|true=>"tuple_iterator" |false=>"list_iterator"
theorem sD.obj{b:Bool}{h:L5}{it a:K1}{i:Nat}(st:sD b h it a i):∃o,h.get? it=some o/\o.cls=.type (Gu b)/\o.data=.fields #[.ref a,.int i 0]:=by
 cases b<;>exact st
theorem sD.of{b:Bool}{h:L5}{it a:K1}{i:Nat}(st:∃o,h.get? it=some o/\o.cls=.type (Gu b)/\o.data=.fields #[.ref a,.int i 0]):sD b h it a i:=by
 cases b<;>exact st
theorem sS{X:Cx}{C:List (K1×Obj)}{σ:St}{H:Hp}{s:J5}{b:Bool}{a it:K1}{i:Nat}{xs:List V}(u:X.calm=true) (I:Inv X C σ H s) (w:pJ b X.K H a xs) (e:sD b s.heap it a i) :
  ∃(its:List J3) (St:Nat->L5->Prop),ax xs its/\Draws X.prog X.w X.A.in1 it [it,a] its.toArray.size (fun i v=>its.toArray[i]?=some v) St/\St i s.heap/\(∀j h,St j h->sD b h it a j)/\∃o,s.heap.get? a=some o/\o.cls≠.type "enumerate":=by
 cases b with
 |true =>
  obtain⟨its,n,p,x⟩:=I.tuple w;have f:s.heap.IsTuple a its.toArray:=p;have g:a≠it:=fun z=>by
   obtain⟨o,q,c,_⟩:=f;obtain⟨B,m,l,_⟩:=e;rw[z,m]at q;cases q;rw[l]at c;exact absurd c (by decide)
  obtain⟨o,q,c,_⟩:=id f;exact⟨its,_,n,xQ (A:=X.A.in1) (I.ok.hd u) it a g its.toArray,⟨e,f⟩,fun j h st=>st.1,o,q,by rw[c];decide⟩
 |false =>
  obtain⟨its,n,p,x⟩:=I.list w;have f:s.heap.IsList a its.toArray:=p.isList;have g:a≠it:=fun z=>by
   obtain⟨o,q,c,_⟩:=f;obtain⟨B,m,l,_⟩:=e;rw[z,m]at q;cases q;rw[l]at c;exact absurd c (by decide)
  obtain⟨o,q,c,_⟩:=id f;exact⟨its,_,n,Draws.list (A:=X.A.in1) (I.ok.hd u) it a g its.toArray,⟨e,f⟩,fun j h st=>st.1,o,q,by rw[c];decide⟩
theorem pJ.inj{X:Cx}{e:List (K1×Obj)}{σ:St}{H:Hp}{s:J5}{b:Bool}{a:K1}{xs c:List V}(I:Inv X e σ H s) (h:pJ b X.K H a xs) (h':pJ b X.K H a c):xs=c:=by
 cases b with
 |true=>exact I.tuple_inj h h'
 |false=>exact I.list_inj h h'
noncomputable def Ite(b:Bool) (K:J4) (a:K1) (n:Nat):It :=
 ⟨fun i H=>(∃c,pJ b K H a c/\c.length=n)/\i<n,fun i H x e=>∃T y,x=.ref T/\H T=none/\e=upd H T (.tup [.int i,y])/\∀c,pJ b K H a c->c[i]?=some y,fun i H=>(∃c,pJ b K H a c/\c.length=n)/\n<=i⟩
theorem dP.upd{X:Cx}{a:List (K1×Obj)}{H:Hp}{b T:K1}{o:HO}(f:dP X a H b) (h:b≠T):dP X a (upd H T o) b:=by
 obtain⟨c,r⟩:=f;exact⟨by rw[aO h];exact c,r⟩
theorem xM{P:M9}{w:P5}{K:J4}{J:List O4}{x1:Nat}{pt:Pos}(b:Bool) (a e it:K1) (n:Nat):lZ P w K (.Tuple J x1 pt) (Ite b K a n) [e,it] e (fun i h=>(∃f,IsEnum h e it i f)/\sD b h it a i/\e≠it/\i<=n) where
 mem:=by simp
 obj:=fun i h st c p=>by
  rcases L1.mp p with z|z
  ·subst z;obtain⟨⟨f,q⟩,_⟩:=st;exact⟨_,q,fun v z=>by cases z⟩
  ·have z:=K2.mp z;subst z;obtain⟨_,st,_⟩:=st;obtain⟨o,q,_,d⟩:=st.obj;exact⟨o,q,fun v z=>by rw[d]at z;cases z⟩
 keep:=fun i h h' st k=>by
  obtain⟨⟨f,q⟩,st,ne,le⟩:=st;obtain⟨o,q2,r⟩:=st.obj;exact⟨⟨f,k e (by simp) _ q⟩,.of ⟨o,k it (by simp) o q2,r⟩,ne,le⟩
 item:=by
  intro X hP hw hK hc i C s σ H E I Z st hg;subst hP hw hK;obtain⟨⟨Y,hq,O⟩,N⟩:=hg;have U:Y[i]?=some (Y[i]'(by lia)):=by simp[O,N]
  generalize Y[i]'(by lia)=x at U;obtain⟨⟨f,A⟩,l,j,a4⟩:=st;obtain⟨its,St,rv,dr,g,m,ob,S,a9⟩:=sS hc I hq l;obtain⟨u,hu,ru⟩:=rv.get U;have a7:e≠a:=fun z=>by
   rw[<-z,A]at S;cases S;exact a9 rfl
  have fe:=Z e (by simp);have fi:=Z it (by simp);have a6:i<its.toArray.size:=by
   have h1:=(L6.mp hu).1;simpa using h1
  have eT:e<s.heap.objs.size:=K6 A;have iT:it<s.heap.objs.size:=by obtain⟨o,q,_⟩:=l.obj;exact K6 q
  refine wpAny_pyNext_enum_itemD dr A g a6 j (by simp[j,a7]) fun y h1 B hy G a0 a8 a' hk=>?_;have ey:y=u:=by
   have T:its[i]?=some y:=by simpa using hy
   rw[hu]at T;cases T;rfl
  subst ey;refine⟨_,rfl,?_⟩;have In:H s.heap.objs.size=none:=I.hok.fresh (J7 _);have I1:Inv X C σ (upd H s.heap.objs.size (.tup [.int i,x])) { s with heap:=s.heap.push { cls:=.type "tuple",data:=.seq #[.int i B,y] },toks:=B+1 } :=
   I.laid (fun b o q=>u8 _ q) (J7 _) ⟨by simp only[M8,ap6];rw[aa3];decide,[.int i B,y],.cons ⟨_,rfl⟩ (.cons ru .nil),⟨_,J8 s.heap rfl,rfl,⟨0,rfl⟩,rfl⟩⟩
  have R:dP X C (upd H s.heap.objs.size (.tup [.int i,x])) e:=fe.upd (K9 eT);have Q:dP X C (upd H s.heap.objs.size (.tup [.int i,x])) it:=fi.upd (K9 iT);have I2:Inv X C σ (upd H s.heap.objs.size (.tup [.int i,x])) { s with heap:=h1,toks:=B+1 }:=I1.turned2 (t':=B+1) (fun b o a1 a5 q=>by
   by_cases L:b=s.heap.objs.size
   ·subst L;rw[J8 s.heap rfl]at q;cases q;exact a8
   ·refine hk b o a1 a5 ?_;rcases L5.get?_push_cases q with z|z
    ·exact absurd z.1 L
    ·exact z) R Q
  refine wpAny_letOwnedTupleGo_enum G fun T a3 M=>?_;obtain⟨g0,g1,g2,g3,g4,g5⟩:=R;have I3:=I2.turned (t':=B+1) (h':=T) (it:=e) (fun b o p q=>(M.2 b p).trans q) g0 g1 g3 g4 g5;refine⟨.ref s.heap.objs.size,_,I3,rfl,⟨_,x,rfl,In,rfl,fun ys a2=>by rw[pJ.inj I a2 hq];exact U⟩,⟨⟨y,by simpa using a3⟩,?_,j,N⟩,fun b p=>?_⟩
  ·obtain⟨o,q,r⟩:=(m _ _ a0).obj;exact .of ⟨o,(M.2 it (ab6 j)).trans q,r⟩
  ·rcases L1.mp p with z|z
   ·subst z;exact g0
   ·rw[K2.mp z];exact Q.1
 done:=by
  intro X hP hw hK hc i C s σ H E I Z st hg;subst hP hw hK;obtain⟨⟨Y,hq,O⟩,U⟩:=hg;obtain⟨⟨f,A⟩,l,j,a4⟩:=st;obtain⟨its,St,rv,dr,g,_⟩:=sS hc I hq l;obtain⟨f0,f1,f2,f3,f4,f5⟩:=Z it (by simp);have hl:=rv.length;have hi:i=its.toArray.size:=by simp;lia
  rw[hi]at g;exact wpAny_pyNext_enum_endD dr A g fun h' eb=>⟨rfl,I.turned (t':=s.toks) (fun b o p q=>eb b o p q) f0 f1 f3 f4 f5⟩
 self:=fun _ _ _ _ _ st h=>by
  obtain⟨⟨f,A⟩,_⟩:=st;exact wpAny_pyIter_enum A h
section
variable{X:Cx}{a:O4}{t:TAd}{B:Pos}
noncomputable def pH(n:Nat):List D->List D
 |[]=>[]
 |d::r=>.tup [.int n,d]::pH (n+1) r
theorem oS:∀(ds:List D) (n i:Nat),(pH n ds)[i]?=(ds[i]?).map fun d=>.tup [.int ((n+i:Nat):Int),d]
 |[],n,i=>by simp[pH]
 |d::r,n,0=>by simp[pH]
 |d::r,n,i+1=>by
  simp only[pH,U4];rw[oS r (n+1) i];have:n+1+i=n+(i+1):=by lia
  rw[this]
theorem oB:∀(ds:List D) (n:Nat),(pH n ds).length=ds.length
 |[],_=>rfl
 |d::r,n=>by simp[pH,oB r (n+1)]
noncomputable def sqD(b:Bool) (a:List D):D:=match b with|true=>.tup a|false=>.lst a
def C6(b:Bool) (c:TAd):TId:=fun e M R=>c e M fun f M1=>∃a,f=[sqD b a]/\(a.length<=K0->R (pH 0 a) M1)
def A5(c:TAd):TId:=fun f M R=>c f M fun e M1=>∃a,e=[.tup a]/\(a.length<=K0->R (pH 0 a) M1)
theorem FA{K:J4}{M:DH}{H:Hp}{b:Bool}{j:List D}{v:V}(h:Rep K M H (sqD b j) v):∃a c,v=.ref a/\am K M H j c/\∀M2 g,Ext M H M2 g->pJ b K g a c:=by
 cases b with
 |true =>
  simp only[sqD,Rep]at h;obtain⟨a,c,e,f,i⟩:=h;exact⟨a,c,e,i,fun M2 g x=>(f.ext x).sq⟩
 |false =>
  simp only[sqD,Rep]at h;obtain⟨a,c,e,f,i⟩:=h;exact⟨a,c,e,i,fun M2 g x=>SqL.of (x _ _ f.1 f.2).1⟩
theorem uQ{prog:M9}{w:P5}{A:O9}{E:J3->J5->Prop}{X:Cx}{e:List (K1×Obj)}{σ:St}{H:Hp}{s:J5}{b:Bool}{l:K1}{xs:List V}{Q:J3->J5->Prop}(I:Inv X e σ H s) (a:pJ b X.K H l xs)
  (h:∀ h',IsEnum h' (s.heap.objs.size + 1) s.heap.objs.size 0 .none → sD b h' s.heap.objs.size l 0 → h'.objs.size = s.heap.objs.size + 2 →
   (∀b o,s.heap.get? b=some o->h'.get? b=some o)->Q (.ref (s.heap.objs.size+1)) { s with heap:=h' }):K5 (N3 prog w) A (aw9 (.type "enumerate") [.ref l]) Q E s:=by
 cases b with
 |true =>
  obtain⟨its,f,p,c⟩:=I.tuple a;exact mU (show s.heap.IsTuple l its.toArray from p) h
 |false =>
  obtain⟨its,f,p,c⟩:=I.list a;exact call_enumerate_list p.isList h
theorem nq:ac5 "enumerate"=some (.type "enumerate"):=by kernel_rfl
theorem Cb{b:Bool}{n:List O4}{x1:Nat}{pt p:Pos}(hg:Gl X "enumerate") (hm:X.mg "enumerate"=none) (ha:PAd X [a] t) (hs:autoParam (K8 [a] X.env=[(false,af7 a X.env)]) L2.zq0._auto_1):PId X (.Tuple n x1 pt) (.Call (.Name "enumerate" p) [a] [] B) (C6 b t):=by
 intro ae s σ H R I u;obtain⟨Δ,M,R',sr,hr,q,k⟩:=u;refine Call_ (cO I hg hm nq (S2 (thn (ha B ae s σ H (fun l h=>∃c M1,am X.K M1 h [sqD b c] l/\(c.length<=K0->R' (pH 0 c) M1)/\Ext M H M1 h/\HR X.K M1 h) I ⟨Δ,M,_,sr,hr,q,fun ds M1 l h z82z L j O=>by obtain⟨c,ed,E⟩:=z82z;exact ⟨c,M1,by rw[<-ed];exact O,E,L,j⟩⟩) fun us A z83z=>?_) hs rfl));obtain⟨l,h,g,r1,c,M1,O,E,L,j⟩:=z83z;obtain⟨v,rfl,rt⟩:=O.one;cases r1 with
 |cons r U =>
  cases U;obtain⟨ad,l,rfl,N,o⟩:=FA rt;cases r;have lo:c.length<=K0:=by
   have Q:=o _ _ (Ext.refl _ _);rw[N.length];cases b with
   |true=>exact(g.tuple Q).choose_spec.2.2
   |false=>exact(g.list Q).choose_spec.2.2
  have a0:=N.length;refine uQ g (o _ _ (Ext.refl _ _)) fun h' S G a1 hk=>?_;refine wpAny_pyIter_enum S ?_;refine⟨A.heap.objs.size+1,[A.heap.objs.size+1,A.heap.objs.size],_,_,h,rfl,g.kept (t':=A.toks) hk,xM b ad _ _ c.length,⟨⟨_,S⟩,G,Nat.succ_ne_self _,P1 _⟩,fun b' hb=>?_,?_⟩
  ·rcases L1.mp hb with z|z
   ·subst z;exact g.fpOk (by lia) (g.hok.fresh (by lia))
   ·rw[K2.mp z];exact g.fpOk (J7 _) (g.hok.fresh (J7 _))
  ·refine k _ M1 _ h (E lo) L j fun M2 H2 C e i=>⟨fun d m=>?_,fun P=>⟨⟨l,(o _ _ C),by lia⟩,by rw[oB]at P;exact P⟩⟩;rw[oS]at m;cases f:c[i]? with
   |none=>rw[f]at m;cases m
   |some Y =>
    rw[f]at m;have J:D.tup [.int ((0+i:Nat):Int),Y]=d:=by simpa using m
    subst J;have hi:i<c.length:=(L6.mp f).1;obtain⟨v0,gv,r0⟩:=N.get f;refine⟨⟨⟨l,(o _ _ C),by lia⟩,hi⟩,fun x H' z84z=>?_⟩;obtain⟨T,y,ex,w,Z,hy⟩:=z84z;subst ex;subst Z;have u:=hy l (o _ _ C);rw[gv]at u;cases u;refine⟨Ext.new e w,e.new w,?_⟩;simp only[Rep];refine⟨T,[.int i,v0],rfl,.inl ⟨.inl aK,e.fresh w⟩,?_⟩;exact am.cons (by simp[Rep]) (am.cons ((r0.ext C).ext (Ext.new e w)) am.nil)
theorem DF{c:List O4}{e:Nat}{pt p:Pos}(hg:Gl X "enumerate") (f:X.mg "enumerate"=none) (ha:QAd X [a] t) (hs:autoParam (K8 [a] X.env=[(false,af7 a X.env)]) L2.zq0._auto_1):QId X (.Tuple c e pt) (.Call (.Name "enumerate" p) [a] [] B) (A5 t):=by
 simp only[QAd.eq,QId.eq]at *
 exact Cb (b:=true) hg f ha hs
end
section
variable{X:Cx}{y:Pos}
theorem FC{i j:Int}:dmD [.int i,.int j]=if rG i j then some (.tup [.int (i / j),.int (i % j)])else none:=rfl
theorem Ds{i j:Int}:E7 [.int i,.int j]=some (.int (if j > i then j else i)):=rfl
theorem AA:pE 10 60=True:=by simp[pE]
end
section
variable{X:Cx}{e:O4}{te z:TEd}{y:Pos}
end
section
variable{κ:Type} [DecidableEq κ]
noncomputable def cR(a:List (κ×D)) (k:κ):Option D:=(a.find? fun c=>decide (c.1=k)).map (·.2)
noncomputable def je(a:List (κ×D)) (k:κ) (v:D):List (κ×D) :=
 if(a.any fun c=>decide (c.1=k))=true then a.map (fun c=>if c.1=k then(c.1,v)else c)else a++[(k,v)]
theorem lF{p:κ×D}{r:List (κ×D)}{k:κ}(e:p.1=k):cR (p::r) k=some p.2:=by simp[cR,ae7,e]
theorem kZ{p:κ×D}{r:List (κ×D)}{k:κ}(e:¬ p.1=k):cR (p::r) k=cR r k:=by simp[cR,ae7,e]
theorem ly(k:κ):∀a:List (κ×D),(a.any fun c=>decide (c.1=k))=(cR a k).isSome
 |[]=>rfl
 |p::r=>by
  rw[ac0]
  by_cases e:p.1=k
  ·simp only[lF e,decide_eq_true e,Bool.true_or,Option.isSome_some]
  ·rw[kZ e,decide_eq_false e,Bool.false_or];exact ly k r
variable{K:J4}{M:DH}{H:Hp}
theorem KR.val{a:List (κ×D)}{ks:List (κ×V)}(h:KR K M H a ks) (k:κ):(∀d,cR a k=some d->∃v,dX ks k=some v/\Rep K M H d v)/\(dX ks k).isSome=(cR a k).isSome:=by
 unfold KR at h
 induction h with
 |nil=>exact⟨fun d e=>(nomatch e),rfl⟩
 |@cons p q f c r t ih =>
  by_cases e:p.1=k
  ·rw[lF e,kh (r.1.symm.trans e)];exact⟨fun d z=>(by cases z;exact⟨_,rfl,r.2⟩),rfl⟩
  ·rw[kZ e,kS (fun z=>e (r.1.trans z))];exact ih
theorem KR.any{a:List (κ×D)}{ks:List (κ×V)}(h:KR K M H a ks) (k:κ):(ks.any fun c=>decide (c.1=k))=a.any fun c=>decide (c.1=k):=by
 unfold KR at h
 induction h with
 |nil=>rfl
 |cons r _ ih=>rw[ac0,ac0,ih,r.1]
theorem KR.length{a:List (κ×D)}{ks:List (κ×V)}(h:KR K M H a ks):a.length=ks.length:=am2 h
theorem KR.put{a:List (κ×D)}{ks:List (κ×V)}(h:KR K M H a ks) (k:κ) {d:D}{v:V}(r:Rep K M H d v):KR K M H (je a k d) (gh ks k v):=by
 unfold je gh;rw[h.any k]
 by_cases e:(a.any fun f=>decide (f.1=k))=true
 ·rw[if_pos e,if_pos e];clear e;unfold KR at h ⊢
  induction h with
  |nil=>exact .nil
  |@cons p q i g c t ih =>
   rw[L7,L7];refine .cons ?_ ih
   by_cases e:p.1=k
   ·rw[if_pos e,if_pos (c.1.symm.trans e)];exact⟨c.1,r⟩
   ·rw[if_neg e,if_neg (fun z=>e (c.1.trans z))];exact c
 ·rw[if_neg e,if_neg e];exact ad0.snoc h ⟨rfl,r⟩
end
noncomputable def kD:Key->D
 |.inl i=>.int i
 |.inr x=>.str x
theorem ma{K:J4}{M:DH}{H:Hp}{k:Key}{v:V}(h:Rep K M H (kD k) v):v=kV k:=by
 cases k<;>simpa[kD,Rep,kV]using h
theorem rA{K:J4}{M:DH}{H:Hp}:∀{ks:List Key}{a:List V},am K M H (ks.map kD) a->a=ks.map kV
 |[],_,h=>by simpa[am]using h
 |k::ks,_,h=>by
  simp only[L7,am]at h;obtain⟨v,f,rfl,e,c⟩:=h;rw[ma e,rA c];rfl
section
variable{X:Cx}{a b c e o i:O4}{Y:List O4}{te B N Z tb:TEd}{t:TAd}{W:Pos}
def dDK:TEd:=fun _ M Q=>∀p,M p=none->Q (.ref p) (aN M p (.dK []))
def dDT:TEd:=fun _ M Q=>∀p,M p=none->Q (.ref p) (aN M p (.dT []))
def Ek(e:Bool) (N B:TEd):TEd:=fun f M Q=>N f M fun y M1=>B f M1 fun x M2=>∃a c k,x=.ref a/\M2 a=some (.dK c)/\y=kD k/\Q (.bl (xor e (cR c k).isSome)) M2
def Bu(c:Bool) (ty g:TE):TE:=fun f H Q=>ty f H fun y h=>g f h fun x e=>∃a o,x=.ref a/\ie e a y o/\Q (.bl (xor c o.isSome)) e
theorem zQ{ty m:TE}{op:am8}{a:Bool}(e:op=(if a then .NotIn else .In)) (l:X.A.units+1<Z4) (g:PE X i ty) (j:PE X o m):PC X op i o (Bu a ty m):=by
 subst e;cases a with
 |false =>
  intro c s f H Q I h;exact FU l g j c s f H Q I (by simpa[Bu,HC]using h)
 |true =>
  intro c s f H Q I h;exact xN l g j c s f H Q I (by simpa[Bu,we]using h)
theorem AG{K:J4}{e:Bool}:∀ σ H Q,up K (Ek e N B) σ H Q->Bu e (up K N) (up K B) σ H Q:=fun σ H Q f=>f.el fun l M R m I q k=>⟨l,M,_,m,I,q,fun y M1 v O G i g J=>⟨l,M1,_,m.ext i,g,G,fun x M2 u z z85z A c j=>by
  obtain⟨a,o,h,E,L,n,p⟩:=z85z
  subst E;subst n;simp only[Rep]at j;subst j;obtain⟨s,C,w⟩:=c a _ L;refine⟨a,dX s h,rfl,by rw[ma J];exact ie.k C,?_⟩;rw[(w.val h).2];exact k _ M2 _ z p (i.trans A) c (by simp only[Rep])⟩⟩
def Eg(e:Bool) (t:TAd) (B:TEd):TEd:=fun g M Q=>t g M fun h M1=>h.length<=K0/\B g M1 fun x M2=>∃a c f,x=.ref a/\M2 a=some (.dT c)/\h=f.map kD/\Q (.bl (xor e (cR c f).isSome)) M2
theorem zA{K:J4}{f:Bool}:∀ σ H Q,up K (Eg f t B) σ H Q->Bu f (GK (upA K t)) (up K B) σ H Q:=fun σ H Q h=>h.el fun n M R w P q k=>⟨n,M,_,w,P,q,fun T M1 U X ⟨z,O⟩ l c o=>⟨by rw[<-o.length];exact z,fun p g=>⟨n,M1,_,(w.ext l).ext (Ext.new c g),c.new g,O,fun x M2 u J z87z j e m=>by
  obtain⟨a,C,i,N,S,A,E⟩:=z87z
  subst N;subst A;simp only[Rep]at m;subst m;obtain⟨G,L,I⟩:=e a _ S;have s:=(j p _ aK (c.fresh g)).1;rw[rA o]at s;refine⟨a,dX G i,rfl,ie.t L s,?_⟩;rw[(I.val i).2];exact k _ M2 _ J E ((l.trans (Ext.new c g)).trans j) e (by simp only[Rep])⟩⟩⟩
theorem Gm{K:J4}{te:TEd}{tv:TE}(h:∀ σ H Q,up K te σ H Q->tv σ H Q):∀ σ H Q,upT K (jV te) σ H Q->tB tv σ H Q:=fun σ H Q a=>a.el fun j M R n i q k =>
 h σ H _ ⟨j,M,_,n,i,q,fun d M1 v m z88z f c l=>by obtain⟨b,e,g⟩:=z88z;exact ⟨b,by subst e;simpa only[Rep]using l,k b M1 m g f c⟩⟩
def DK(B N te:TEd):TSd:=fun E e M=>te e M fun d M1=>B e M1 fun x M2=>N e M2 fun y f=>∃a c k,x=.ref a/\f a=some (.dK c)/\y=kD k/\c.length<K0/\E.nx e (aN f a (.dK (je c k d)))
def D7(B:TEd) (t:TAd) (te:TEd):TSd:=fun E e M=>te e M fun d M1=>B e M1 fun x M2=>t e M2 fun h g=>h.length<=K0/\∃a c f,x=.ref a/\g a=some (.dT c)/\h=f.map kD/\c.length<K0/\E.nx e (aN g a (.dT (je c f d)))
end
section
variable{X:Cx}{a b c e o:O4}{z:List O4}{te B:TEd}{t:TAd}{y:Pos}{N:O4}
noncomputable def Jm:List D->Option D
 |[.int i,.int j]=>some (.int (if j<i then j else i))
 |_=>none
noncomputable def cE:List D->Option (List Int)
 |[]=>some []
 |.int i::a=>(cE a).map (i::·)
 |_=>none
theorem nr:∀{ns:List Int},cE (ns.map D.int)=some ns
 |[]=>rfl
 |n::ns=>by simp[cE,nr (ns:=ns)]
noncomputable def C5:D->Option D
 |.lst c=>(cE c).map fun a=>.int a.sum
 |_=>none
theorem EC{ns:List Int}:C5 (.lst (ns.map D.int))=some (.int ns.sum):=by simp[C5,nr]
theorem qA{K:J4}{M:DH}{H:Hp}:∀{ds:List D}{ns:List Int}{a:List V}{us:List J3},cE ds=some ns->am K M H ds a->ax a us->∃xs:Array (Int×Tok),us.toArray=intItems xs/\xs.toList.map (·.1)=ns
 |[],_,_,_,e,h,r=>by
  simp only[cE,ab8]at e;subst e;simp only[am]at h;subst h;cases r;exact⟨#[],by simp[intItems],rfl⟩
 |.int i::ds,ns,a,us,e,h,r=>by
  simp only[cE]at e;cases q:cE ds with
  |none=>rw[q]at e;cases e
  |some s =>
   rw[q]at e;cases e;simp only[am]at h;obtain⟨v,w,rfl,g,n⟩:=h;simp only[Rep]at g;subst g;cases r with
   |@cons x u l c m o =>
    obtain⟨t,rfl⟩:=m;obtain⟨f,j,p⟩:=qA q n o;refine⟨(((i,t)::f.toList)).toArray,?_,by simp[p]⟩;have:c=(intItems f).toList:=by rw[<-j]
    rw[this];simp[intItems]
 |.non::_,_,_,_,e,_,_=>by cases e
 |.bl _::_,_,_,_,e,_,_=>by cases e
 |.str _::_,_,_,_,e,_,_=>by cases e
 |.tup _::_,_,_,_,e,_,_=>by cases e
 |.lst _::_,_,_,_,e,_,_=>by cases e
 |.scr _::_,_,_,_,e,_,_=>by cases e
 |.emp::_,_,_,_,e,_,_=>by cases e
 |.box _ _::_,_,_,_,e,_,_=>by cases e
 |.ref _::_,_,_,_,e,_,_=>by cases e
theorem G9(o:X.calm=true):bD X (.builtin "sum") (nW C5):=by
 intro p s j H M i P g R Q I C c z e k;obtain⟨d,rfl,h⟩:=cw e;clear e;have e:=h;clear h;obtain⟨v,rfl,r⟩:=kW z;obtain⟨u,rfl,B⟩:=ax.one c;cases d with
 |lst g =>
  simp only[C5]at e;cases q:cE g with
  |none=>rw[q]at e;cases e
  |some A =>
   rw[q]at e;cases e;obtain⟨l,S,rfl,sq,J⟩:=r;cases B;obtain⟨its,c,m,O⟩:=I.list (SqL.of sq);obtain⟨a,w,n⟩:=qA q J c;refine sum_intListG (xs:=a) (I.ok.hd o) (by rw[<-w];exact m.isList) fun E f x N=>?_;have G:Inv X p j H { s with heap:=E,toks:=f }:=I.kept (t':=f) N;refine⟨.int _,H,G,⟨_,rfl⟩,k _ H (Ext.refl _ _) C ?_⟩;have L:preSum (numAt a) a.size=A.sum:=by
    rw[preSum_eq,Z0 (by simp),n]
   rw[L];simp[Rep]
 |_=>cases e
end
section
variable{X:Cx}{N z B:O4}{H:Pos}{y:ai7}{W:List (Str×K1)}{ms:List Bool}{aq:List Str}{I:List O4}
end
section
variable{X:Cx}{y l:O4}{z:TE}{te:TEd}
theorem vE{K:J4}{M:DH}{H:Hp}{k:Key}:Rep K M H (kD k) (kV k):=by cases k<;>simp[kD,kV,Rep]
end
theorem gQ{prog:M9}{w:P5}{A:O9}{R:at6->J5->Prop}{s:J5}{G E a iter:O4}{f:ai7}{C:Pos}{it:J3}{D:K1}{env:Env}(I:Nat->J5->Prop)
  (z:∀ n s,I n s → K5 (N3 prog w) A (ag3 it) (fun r c => match r with
   |none=>R (.ok .next) c
   | some v => K5 (N3 prog w) A (aj2 a it v) (fun _ c => K5 (N3 prog w) A (at0 a env v) (fun _ l =>
     K5 (N3 prog w) A (af7 G env) (fun J j=>K5 (N3 prog w) A (af7 E env) (fun H o =>
       K5 (N3 prog w) A (dictSet D J H) (fun _ i=>∃m,m<n/\I m i) (fun _ _=>False) o) (fun _ _=>False) j) (fun _ _=>False) l) (fun _ _=>False) c) (fun _ _=>False) c) (fun _ _=>False) s)
  (n:Nat) (h:I n s) :
  ak4 (N3 prog w) A (.compLoop (.DictComp G E [⟨a,iter,[],0⟩] f C) 0 it (.ref D) env) R s:=by
 refine codeAny_loop rfl I (fun n s L=>?_) n h;show K5 _ A ((compTurn (.DictComp G E [⟨a,iter,[],0⟩] f C) 0 it (.ref D) env).onRaise (fun x=>do noteFrame x env;theTreesLotGoes x)) _ _ s;refine wpAny_noted ?_;rw[compTurn_dict];refine o0 (as0 (o0 (U6 (z n s L) (fun r c e=>?_) fun _ _ g=>g.elim)));cases r with
 |none=>exact J1 e
 |some v =>
  refine o0 (U6 e (fun _ M e=>?_) fun _ _ g=>g.elim);refine o0 (U6 e (fun _ l B=>o0 (wpAny_tests_nil ?_)) fun _ _ g=>g.elim);exact o0 (o0 (U6 B (fun J j u=>o0 (U8 (U6 u (fun H o p=>o0 (as0 (U8 (U6 p (fun _ i q=>J1 ⟨rfl,q⟩) fun _ _ g=>g.elim)))) fun _ _ g=>g.elim))) fun _ _ g=>g.elim))
section
variable{X:Cx}{I:List (K1×Obj)}{σ W:St}{H B:Hp}{s2 s':J5}{y:ai7}{Z:List (Str×K1)}{ms:List Bool}{aq:List Str}{tg Y kx vx:O4}{g:TG}{tk tv:TE}{pos:Pos}
theorem vI(w:Inv X I σ H s2) {fp:List K1}(i:∀b∈fp,dP X I H b)
  (g:Inv (aD X y Z (X.N++aq) s2.heap.objs.size s2 H fp) [] W B s') {h':L5} (hs:O6 s2.heap.objs.size s'.heap h') :
  Inv X I σ B { s' with heap:=h' }:=by
 have x:B s2.heap.objs.size=none:=g.free;have up:∀b o,b≠s2.heap.objs.size->s'.heap.get? b=some o->h'.get? b=some o:=fun b o a e=>(hs.2 b a).trans e;have n:∀b u,B b=some u->b≠s2.heap.objs.size:=fun b u e z=>by rw[z,x]at e;cases e
 have l:HOk X.prog X.w B h':=fun b u e=>(g.hok b u e).stay (fun c v m q=>up c v (by
   rcases m with rfl|m
   ·exact n _ _ e
   ·exact n _ _ m) q) (fun c q=>q) fun c A q=>q
 have un:Un (frs X.stack) fp H B s2.heap h':=by
  have U:=g.base;have f:∀b o,s2.heap.get? b=some o->b≠s2.heap.objs.size:=fun b o e=>K9 (K6 e);refine⟨fun b o e j a h=>up b o (f b o e) (U.keep b o e j a h),fun b o e j a h=>?_,U.free,fun b o e h=>?_,U.tups,U.frzs,U.tbls⟩
  ·obtain⟨s,q⟩:=U.slot b o e j a h;exact⟨s,up b _ (f b o e) q⟩
  ·obtain⟨p,q⟩:=U.there b o e h;exact⟨p,up b _ (f b o e) q⟩
 exact w.call' (s':={ s' with heap:=h' }) (ch:=fp) g.os un l g.bare fun b a=>⟨(i b a).2.2.2.1,(i b a).2.1,(i b a).2.2.2.2.1,(i b a).2.2.2.2.2⟩
end
end L2
namespace L2
open PySem PySem.W PyProof.Rows
section
variable{y z:Type}
def tw(n:Nat) (lt:Nat->Nat->Bool):KasT y->(y->Prop)->Prop
 |.ret a,Q=>Q a
 |.ask i j k,Q=>i<n/\j<n/\tw n lt (k (lt i j)) Q
theorem iX{n:Nat}{lt:Nat->Nat->Bool}{f:y->KasT z}{Q:z->Prop}:∀{t:KasT y},tw n lt t (fun a=>tw n lt (f a) Q)->tw n lt (t.bind f) Q
 |.ret _,h=>h
 |.ask _ _ _,h=>⟨h.1,h.2.1,iX h.2.2⟩
theorem za{n:Nat}{lt:Nat->Nat->Bool}{c:Nat->Nat->(Bool->J5->Prop)->J5->Prop}{J:J5->Prop}(l:∀i j C s,i<n->j<n->J s->(∀s',J s'->C (lt i j) s')->c i j C s) {Q:y->Prop}{G:y->J5->Prop}(g:∀a s,J s->Q a->G a s) :
  ∀{t:KasT y} {s:J5},tw n lt t Q->J s->t.kasWp c G s
 |.ret _,s,h,f=>g _ s f h
 |.ask i j k,s,h,f=>l i j _ s h.1 h.2.1 f fun s' e=>za l g h.2.2 e
variable{O:af4}{key:Nat->O.α}{n:Nat}
noncomputable def eD(O:af4) (key:Nat->O.α) (i j:Nat):Bool:=O.blt (key i) (key j)
noncomputable def Eb(O:af4) (key:Nat->O.α):KeyKind:={ O with keyOf:=fun v=>match v with|.int i _=>some (key i.toNat)|_=>none,dflt:=key 0 }
noncomputable def o3(p:Array Nat):Array Keyed:=p.map fun(i:Nat)=>((ag5 (i:Int) 0,T9):Keyed)
noncomputable def kp(O:af4) (key:Nat->O.α) (p:Array Nat) (i:Nat):O.α:=key (p.getD i 0)
theorem oX{p:Array Nat}{i:Nat}(h:i<p.size):KK (Eb O key) (o3 p) i=kp O key p i:=by
 unfold KK kp o3;rw[Array.getElem?_map,N4 h];simp[Eb,X7,h]
theorem B0{p:Array Nat}{i j:Nat}:o3 (kas_rev p i j)=mirror (o3 p) i j ((j-i) / 2):=by
 unfold o3 kas_rev mirror;exact(kas_swaps_map _ _ _ _ _).symm
theorem B8{p:Array Nat}{k d:Nat}:o3 (bubble p k d)=bubble (o3 p) k d:=by
 unfold o3 bubble;exact(kas_swaps_map _ _ _ _ _).symm
theorem sF{p:Array Nat}:(o3 p).size=p.size:=by simp[o3]
theorem Ap{p:Array Nat}{i j:Nat}:(kas_rev p i j).size=p.size:=mirror_size _ _ _ _
theorem vm{p:Array Nat}{i j k:Nat}(c:j<=p.size) (a:k<p.size):kp O key (kas_rev p i j) k=if i<=k/\k<j then kp O key p (i+j-1-k)else kp O key p k:=by
 rw[<-oX (by rw[Ap];exact a),B0,KK_mirror (by rw[sF];exact c)]
 by_cases h:i<=k/\k<j
 ·rw[if_pos h,if_pos h,oX (by lia)]
 ·rw[if_neg h,if_neg h,oX a]
theorem Bb{p:Array Nat}{src d k:Nat}(hs:src<p.size) (f:d<=src) (e:k<p.size):kp O key (bubble p src d) k=if k=src-d then kp O key p src else if src-d<k/\k<=src then kp O key p (k-1)else kp O key p k:=by
 rw[<-oX (by rw[bubble_size];exact e),B8,KK_bubble (by rw[sF];exact hs) f]
 by_cases c:k=src-d
 ·rw[if_pos c,if_pos c,oX hs]
 ·rw[if_neg c,if_neg c]
  by_cases a:src-d<k/\k<=src
  ·rw[if_pos a,if_pos a,oX (by lia)]
  ·rw[if_neg a,if_neg a,oX e]
def cI(n:Nat) (p:Array Nat):Prop:=p.toList.Perm (N5 n)
theorem cI.size{p:Array Nat}(h:cI n p):p.size=n:=by
 have:=h.length_eq;simpa using this
theorem cI.lt{p:Array Nat}(h:cI n p) {i:Nat}(a:i<n):p.getD i 0<n:=by
 have hs:=h.size;have e:p.getD i 0=p.toList[i]'(by simp;lia):=by simp[X7,show i<p.size by lia]
 rw[e];exact P6.mp (h.mem_iff.mp (V6 _))
theorem cI.rev{p:Array Nat}(h:cI n p) (i j:Nat):cI n (kas_rev p i j):=(Array.perm_iff_toList_perm.mp (mirror_perm p i j _)).trans h
theorem cI.bub{p:Array Nat}(h:cI n p) (i j:Nat):cI n (bubble p i j):=(Array.perm_iff_toList_perm.mp (bubble_perm p i j)).trans h
def dg(O:af4) (key:Nat->O.α) (p:Array Nat) (k:Nat):Prop:=∀i j,i<=j->j<k->O.kle (kp O key p i) (kp O key p j)
def ju(O:af4) (key:Nat->O.α) (p:Array Nat) (k:Nat):Prop:=∀i j,i<=j->j<k->O.kle (kp O key p j) (kp O key p i)
theorem dg.more{p:Array Nat}{x:Nat}(h:dg O key p x) (g:1<=x) (le:O.kle (kp O key p (x-1)) (kp O key p x)):dg O key p (x+1):=fun i j a f=>by
 rcases S3 j x with c|c
 ·exact h i j a c
 ·obtain rfl:j=x:=by lia
  rcases S3 i j with e|e
  ·exact ao8 (h i (j-1) (by lia) (by lia)) le
  ·obtain rfl:i=j:=by lia
   exact ah0 _
theorem ju.more{p:Array Nat}{x:Nat}(h:ju O key p x) (g:1<=x) (le:O.kle (kp O key p x) (kp O key p (x-1))):ju O key p (x+1):=fun i j a f=>by
 rcases S3 j x with c|c
 ·exact h i j a c
 ·obtain rfl:j=x:=by lia
  rcases S3 i j with e|e
  ·exact ao8 le (h i (j-1) (by lia) (by lia))
  ·obtain rfl:i=j:=by lia
   exact ah0 _
theorem uI{p:Array Nat}(c:cI n p):∀{f a:Nat}{Q:Nat->Prop},1<=a->a+f<=n->dg O key p a ->
  (∀m,a<=m->m<=a+f->dg O key p m->(m=a+f∨O.klt (kp O key p m) (kp O key p (m-1)))->Q m)->tw n (eD O key) (kas_asc p f a) Q
 |0,a,Q,g,i,hs,k=>k a (J7 _) (J7 _) hs (.inl rfl)
 |f+1,a,Q,g,i,hs,k=>by
  refine⟨c.lt (by lia),c.lt (by lia),?_⟩;cases q:eD O key (p.getD a 0) (p.getD (a-1) 0)with
  |true=>exact k a (J7 _) (by lia) hs (.inr q)
  |false=>exact uI c (by exact P9 (by assumption)) (by lia) (hs.more g q) fun m o l h j=>k m (by exact V4 (by assumption)) (by lia) h (j.imp (fun e=>by lia) id)
theorem kG{p:Array Nat}{i j:Nat}(a:j<=p.size) (he:∀k,i<=k->k<j->kp O key p k=kp O key p (j-1)) {k:Nat}(c:k<p.size):kp O key (kas_rev p i j) k=kp O key p k:=by
 rw[vm a c]
 by_cases h:i<=k/\k<j
 ·rw[if_pos h,he _ (by lia) (by lia),he k h.1 h.2]
 ·rw[if_neg h]
theorem m7:∀{f:Nat}{p:Array Nat}{x q:Nat}{Q:Array Nat×Nat×Nat->Prop},cI n p->1<=x->x+f<=n->ju O key p x->q+1<=x->(∀i,x-(q+1)<=i->i<x->kp O key p i=kp O key p (x-1)) ->
  (∀o m s,cI n o->1<=m->m<=x+f->ju O key o m->s+1<=m->(∀i,m-(s+1)<=i->i<m->kp O key o i=kp O key o (m-1))->Q (o,m,s))->tw n (eD O key) (kas_desc f p x q) Q
 |0,p,x,q,Q,l,u,I,hs,A,w,k=>k p x q l u (J7 _) hs A w
 |f+1,p,x,q,Q,l,u,I,hs,A,w,k=>by
  have M:=l.size;refine⟨l.lt (by lia),l.lt (by lia),?_⟩;cases c:eD O key (p.getD x 0) (p.getD (x-1) 0)with
  |true =>
   have lt:O.klt (kp O key p x) (kp O key p (x-1)):=c;simp only[if_true]
   by_cases E:q > 0
   ·rw[if_pos E];have same:∀{i},i<n->kp O key (kas_rev p (x-(q+1)) x) i=kp O key p i:=fun L=>kG (by lia) w (by lia);refine m7 (l.rev _ _) (by exact P9 (by assumption)) (by lia) ?_ (by exact P9 (by assumption)) (fun i H C=>by obtain rfl:i=x:=(by lia);rfl) fun o m s a b G d e g=>k o m s a b (by lia) d e g;refine ju.more (fun i j z J=>?_) u ?_
    ·rw[same (by lia),same (by lia)];exact hs i j z J
    ·rw[same (by lia),same (by lia)];exact ak1 lt
   ·rw[if_neg E];exact m7 l (by exact P9 (by assumption)) (by lia) (hs.more u (ak1 lt)) (by exact P9 (by assumption)) (fun i H C=>by obtain rfl:i=x:=(by lia);rfl) fun o m s a b G d e g=>k o m s a b (by lia) d e g
  |false =>
   simp only[J9,if_false];refine⟨l.lt (by lia),l.lt (by lia),?_⟩;cases B:eD O key (p.getD (x-1) 0) (p.getD x 0)with
   |true=>exact k p x q l u (by lia) hs A w
   |false =>
    simp only[J9,if_false];have eq:kp O key p x=kp O key p (x-1):=O.total _ _ c B;refine m7 l (by exact P9 (by assumption)) (by lia) (hs.more u B) (by lia) (fun i H C=>?_) fun o m s a b G d e g=>k o m s a b (by lia) d e g;rw[show x+1-1=x by lia];rcases S3 i x with h|h
    ·rw[eq];exact w i (by lia) h
    ·obtain rfl:i=x:=by lia
     rfl
theorem xt{p:Array Nat}{m e:Nat}{Q:Nat×Array Nat->Prop}(g:cI n p) (o:1<=m) (u:m<=e) (q:e<=n) (hs:ju O key p m)
  (k:∀f h,cI n h->1<=f->f<=e->dg O key h f->Q (f,h)):tw n (eD O key) (kas_tail3 m e p) Q:=by
 have s:=g.size;unfold kas_tail3;refine iX (uI (g.rev 0 m) o (by lia) (fun i j l w=>?_) fun f a b c _=>k f _ (g.rev 0 m) (by exact K7 (by assumption) (by assumption)) (by lia) c);rw[vm (by lia) (by lia),vm (by lia) (by lia),if_pos ⟨by exact P1 _,by lia⟩,if_pos ⟨by exact P1 _,by assumption⟩];exact hs _ _ (by lia) (by lia)
theorem mv{p:Array Nat}{m a:Nat}{Q:Nat×Array Nat->Prop}(w:cI n p) (G:m+1<=a) (l:a<=n) (hs:ju O key p (m+1))
  (k:∀g f,cI n f->1<=g->g<=a->dg O key f g->Q (g,f)):tw n (eD O key) (kas_descPart m a p) Q:=by
 unfold kas_descPart;refine iX (m7 w (by lia) (by lia) hs (by lia) (fun i B C=>by obtain rfl:i=m:=(by lia);rfl) fun f x u c o A e H q=>?_);have E:=c.size;dsimp only
 by_cases s:u > 0
 ·rw[if_pos s];refine xt (c.rev _ _) o (by lia) l (fun i j h z=>?_) k;rw[kG (by lia) q (by lia),kG (by lia) q (by lia)];exact e i j h z
 ·rw[if_neg s];exact xt c o (by lia) l e k
theorem zD{p:Array Nat}{a:Nat}{Q:Nat×Array Nat->Prop}(h:cI n p) (E:1<=a) (x:a<=n)
  (k:∀q s,cI n s->1<=q->q<=a->dg O key s q->Q (q,s)):tw n (eD O key) (kas_count a p) Q:=by
 have C:=h.size;unfold kas_count;refine iX (uI h (J7 1) (by lia) (fun i j l w=>by obtain rfl:i=j:=(by lia);exact ah0 _) fun m u B o A=>?_)
 by_cases e:m=a
 ·rw[if_pos (by simpa using e)];exact k m p h u (by lia) o
 ·rw[if_neg (by simpa using e)];have lt:O.klt (kp O key p m) (kp O key p (m-1)):=A.resolve_left (by lia)
  by_cases g:m > 1
  ·rw[if_pos g];refine⟨h.lt (by lia),h.lt (by lia),?_⟩;cases c:eD O key (p.getD 0 0) (p.getD (m-1) 0)with
   |true=>exact k m p h u (by lia) o
   |false =>
    simp only[J9,if_false];have f:∀i,0<=i->i<m->kp O key p i=kp O key p (m-1):=fun i _ z =>
     af4.kle_antisymm (o i (m-1) (by lia) (by lia)) (ao8 (show O.kle (kp O key p (m-1)) (kp O key p 0)from c) (o 0 i (by assumption) z))
    have same:∀{i},i<n->kp O key (kas_rev p 0 m) i=kp O key p i:=fun z=>kG (by lia) f (by lia);refine mv (h.rev _ _) (by lia) x (ju.more (fun i j l w=>?_) u ?_) k
    ·rw[same (by lia),same (by lia),f i (by exact P1 _) (by lia),f j (by exact P1 _) w];exact ah0 _
    ·rw[same (by lia),same (by lia)];exact ak1 lt
  ·rw[if_neg g];obtain rfl:m=1:=by lia
   refine mv h (by lia) x (ju.more (fun i j l w=>by obtain rfl:i=j:=(by lia);exact ah0 _) (J7 1) (ak1 lt)) k
theorem nF{p:Array Nat}(h:cI n p) {x:Nat}(m:x<n) (hs:dg O key p x):∀{f l r:Nat}{Q:Nat->Prop},l<=r->r<=x->r-l<=f ->
  (∀i,i<l->O.kle (kp O key p i) (kp O key p x))->(∀i,r<=i->i<x->O.klt (kp O key p x) (kp O key p i)) ->
  (∀e,e<=x->(∀i,i<e->O.kle (kp O key p i) (kp O key p x))->(∀i,e<=i->i<x->O.klt (kp O key p x) (kp O key p i))->Q e)->tw n (eD O key) (kas_place p x f l r) Q
 |0,l,r,Q,s,j,o,a,b,k=>by
  obtain rfl:l=r:=by lia
  exact k l j a b
 |f+1,l,r,Q,s,j,o,a,b,k=>by
  unfold kas_place
  by_cases g:l>=r
  ·rw[if_pos g];obtain rfl:l=r:=by lia
   exact k l j a b
  ·rw[if_neg g];refine⟨h.lt m,h.lt (by lia),?_⟩;cases c:eD O key (p.getD x 0) (p.getD ((l+r) / 2) 0)with
   |true =>
    simp only[if_true];exact nF h m hs (by lia) (by lia) (by lia) a (fun i u q=>af4.klt_of_klt_of_kle (show O.klt (kp O key p x) (kp O key p ((l+r) / 2))from c) (hs _ _ u q)) k
   |false =>
    simp only[J9,if_false];exact nF h m hs (by lia) (by assumption) (by lia) (fun i w=>ao8 (hs i ((l+r) / 2) (by lia) (by lia)) (show O.kle (kp O key p ((l+r) / 2)) (kp O key p x)from c)) b k
theorem zN:∀{f:Nat}{p:Array Nat}{x:Nat}{Q:Array Nat->Prop},cI n p->1<=x->x+f<=n->dg O key p x->(∀g,cI n g->dg O key g (x+f)->Q g)->tw n (eD O key) (kas_bin f p x) Q
 |0,p,x,Q,e,_,_,hs,k=>k p e hs
 |f+1,p,x,Q,e,A,w,hs,k=>by
  have u:=e.size;refine iX (nF e (by lia) hs (P1 _) (J7 _) (by exact J7 _) (fun i q=>by lia) (fun i a b=>by lia) fun l B lo q=>?_);refine zN (e.bub _ _) (by exact P9 (by assumption)) (by lia) (fun i j h z=>?_) fun g a b=>k g a (by rw[show x+(f+1)=x+1+f by lia];exact b);rw[Bb (by lia) (by lia) (by lia),Bb (by lia) (by lia) (by lia),show x-(x-l)=l by lia]
  by_cases s:i=l
  ·rw[if_pos s]
   by_cases c:j=l
   ·rw[if_pos c];exact ah0 _
   ·rw[if_neg c,if_pos (by lia)];exact ak1 (q _ (by lia) (by lia))
  ·rw[if_neg s]
   by_cases o:l<i/\i<=x
   ·rw[if_pos o,if_neg (by lia),if_pos (by lia)];exact hs _ _ (by lia) (by lia)
   ·rw[if_neg o]
    by_cases c:j=l
    ·rw[if_pos c];exact lo _ (by lia)
    ·rw[if_neg c]
     by_cases m:l<j/\j<=x
     ·rw[if_pos m];exact hs _ _ (by lia) (by lia)
     ·rw[if_neg m];exact hs _ _ h (by lia)
theorem CB(h:1<=n) {Q:Array Nat->Prop}(k:∀p,cI n p->dg O key p n->Q p):tw n (eD O key) (kas_sort n) Q:=by
 have l:cI n (List.toArray (N5 n)):=ar0 _;unfold kas_sort;refine iX (zD l h (J7 _) fun m p f j o c=>?_);dsimp only
 by_cases g:m<n
 ·rw[if_pos g];have e:max m 1=m:=by lia
  rw[e];exact zN f j (by lia) c fun i a b=>k i a (by rwa [show m+(n-m)=n by lia]at b)
 ·rw[if_neg g];obtain rfl:m=n:=by lia
  exact k p f c
end
end L2
namespace L2
open PySem PySem.W PySem.Calls PyProof.Rows
section
variable{prog:M9}{w:P5}{A:O9}{E:J3->J5->Prop}{O:af4}
noncomputable def gK(a:List J3) (p:Array Nat):List J3:=p.toList.map fun i=>a.getD i T9
theorem qL{a:List J3}{p:Array Nat}(h:cI a.length p):(gK a p).length=a.length:=by
 unfold gK;rw[J0,L8];exact h.size
def ou(x:K1) (s t:J5):Prop:=∀b o,b≠x->s.heap.get? b=some o->t.heap.get? b=some o
theorem u7{s:J5}{x:K1}{f:List J3}{n:Nat}{key:Nat->O.α}{κ:ax2}{P:PySem.Fin->J5->Prop}(H:s.heap.get? x=some (aj6 "list" f.toArray n)) (hz:f.length<64)
  (hk:∀l Q,2<=f.length->ou x s l->Q κ l->K5 (N3 prog w) A (keyKind' f.toArray) Q (fun _ _=>False) l)
  (hc:∀i j l C,i<f.length->j<f.length->ou x s l->C (eD O key i j) l->kas_ask prog w A κ f i j C l)
  (k:∀p c h',cI f.length p->dg O key p f.length->(∀b o,b≠x->s.heap.get? b=some o->h'.get? b=some o)->h'.get? x=some (aj6 "list" (gK f p).toArray c)->P (.done (.ret .none)) { s with heap:=h' }) :
  K5 (N3 prog w) A (L3.«list.sort» ⟨[.ref x],[]⟩) P E s:=by
 have lx:x<s.heap.objs.size:=K6 H;obtain⟨c1,T⟩:∃c,(s.heap.update x (am0 fun _=>#[])).get? x=some (aj6 "list" #[] c):=⟨_,get?_update_seq H (fun _=>#[])⟩;rw[list_sort_plain];refine o0 (listItems_at H rfl (o0 (listUpdate_at H rfl (o0 (seqEpoch_at T rfl (o0 (wpAny_newTuple (o0 (as3 (U8 ?_) (P1 _))) ?_)))) ?_ (P1 _))))
 rotate_left
 ·show f.length<=_;rw[aa3];lia
 ·rw[K3,aa3];lia
 generalize U:((s.heap.update x (am0 fun _=>#[])).push (aj6 "tuple" f.toArray 0)).push (aj6 "list" #[] 0)=h;show K5 _ A _ P E { s with heap:=h };have m:h.get? x=some (aj6 "list" #[] c1):=by
  rw[<-U];exact u8 _ (u8 _ T)
 have st:ou x s { s with heap:=h }:=fun b o G e=>by
  show h.get? b=some o;rw[<-U];exact u8 _ (u8 _ (by rw[L5.get?_update_ne _ _ _ _ G];exact e))
 have B:∀p,cI f.length p->dg O key p f.length->P (.done (.ret .none)) { s with heap:=h.update x (am0 fun _=>(gK f p).toArray) }:=fun p I M =>
  k p _ _ I M (fun b o G e=>by rw[L5.get?_update_ne _ _ _ _ G];exact st b o G e) (get?_update_seq m fun _=>(gK f p).toArray)
 dsimp only
 by_cases g:f.toArray.size<2
 ·rw[if_pos g,if_pos g];refine o0 (J1 ?_);rw[StateT.run_pure];refine o0 (J1 ?_);dsimp only;have R:f.length<2:=by rw[K3]at g;exact g
  have N:(arrOf (SortSt.mk' general' (f.toArray.zip f.toArray) #[] 7 none)).map (·.2)=(gK f (List.toArray (N5 f.length))).toArray:=by
   refine kat_snds rfl ?_;have e:=kas_range (f.toArray.zip f.toArray);have z0:(f.toArray.zip f.toArray).size=f.length:=by simp
   rw[z0]at e;exact e.symm
  rw[N];refine o0 (seqEpoch_at m rfl (o0 (listUpdate_at m rfl ?_ (P1 _) ?_)))
  ·simp only[failedOf,bne_self_eq_false,J9,if_false];exact J1 (B _ (ar0 _) fun i j a0 S=>by
    obtain rfl:i=j:=by lia
    exact ah0 _)
  ·rw[K3,qL (show cI f.length (List.toArray (N5 f.length))from ar0 _),aa3];lia
 ·rw[if_neg g,if_neg g];have two:2<=f.length:=by rw[K3]at g;lia
  refine o0 (U6 (hk { s with heap:=h } (fun q t=>q=κ/\t=({ s with heap:=h }:J5)) two st ⟨rfl,rfl⟩) ?_ fun _ _ z=>z.elim);rintro Y _ ⟨Z,rfl⟩;rw[Z];have ask:(kas_sort f.length).kasWp (kas_ask prog w A κ f) (fun p t=>t=({ s with heap:=h }:J5)/\cI f.length p/\dg O key p f.length) { s with heap:=h } :=
   za (J:=fun t=>t=({ s with heap:=h }:J5)) (lt:=eD O key) (Q:=fun p=>cI f.length p/\dg O key p f.length) (fun i j C t hi S L hC=>by subst L;exact hc i j _ C hi S st (hC _ rfl)) (fun p t L hq=>⟨L,hq⟩) (CB (by exact V4 (by assumption)) fun p a b=>⟨a,b⟩) rfl
  refine o0 (U6 (kat_run (Q:=fun u t=>∃p:Array Nat,arrOf u=p.map (kas_item (f.toArray.zip f.toArray))/\failedOf u=none/\t=({ s with heap:=h }:J5)/\cI f.length p/\dg O key p f.length) rfl two hz (fun p u t _ a2 a3 a4=>⟨p,a2,a3,a4⟩) ask) ?_ fun _ _ z=>z);rintro⟨⟨⟩,u⟩ t ⟨p,X,ef,rfl,I,M⟩;dsimp only;have N:(arrOf u).map (·.2)=(gK f p).toArray:=kat_snds rfl X;rw[N];refine o0 (seqEpoch_at m rfl (o0 (listUpdate_at m rfl ?_ (P1 _) ?_)))
  ·rw[ef];simp only[bne_self_eq_false,J9,if_false];exact J1 (B p I M)
  ·rw[K3,qL I,aa3];lia
end
noncomputable def ltP(a b:Int×Int):Bool:=decide (a.1<b.1) || (decide (a.1=b.1)&&decide (a.2<b.2))
noncomputable def leP(a b:Int×Int):Bool:=! ltP b a
theorem i7{a b:Int×Int}:ltP a b=true↔a.1<b.1∨(a.1=b.1/\a.2<b.2):=by simp[ltP]
theorem oK{a b:Int×Int}:ltP a b=false↔b.1<a.1∨(a.1=b.1/\b.2<=a.2):=by
 rw[Bool.eq_false_iff,Ne,i7];lia
noncomputable def EK:af4 where
 α:=Int×Int
 blt:=ltP
 irrefl a:=by rw[oK];lia
 trans a b c h1 h2:=by rw[i7]at *;lia
 negTrans a b c h:=by rw[i7,i7];rw[i7]at h;lia
 total a b h1 h2:=by
  rw[oK]at h1 h2;exact ax1 (by lia) (by lia)
theorem Aq{a b:Int×Int}(e:leP a b=true) (c:leP b a=true):a=b:=by
 simp only[leP,Bool.not_eq_true',oK]at e c;exact ax1 (by lia) (by lia)
noncomputable def iI(ps:List (Int×Int)):List (Int×Int):=ps.mergeSort leP
theorem jQ(ps:List (Int×Int)):(iI ps).Perm ps:=List.mergeSort_perm _ _
theorem tP(ps:List (Int×Int)):(iI ps).Pairwise fun a b=>leP a b=true :=
 List.pairwise_mergeSort (fun a b c f e=>by simp only[leP,Bool.not_eq_true',oK]at *;lia) (fun a b=>by
  cases h:leP a b with
  |true=>rfl
  |false =>
   simp only[leP,Bool.not_eq_false',i7]at h;simp only[Bool.false_or,leP,Bool.not_eq_true',oK];lia) ps
theorem oC{ps c:List (Int×Int)}(h:c.Perm ps) (hs:c.Pairwise fun a b=>leP a b=true):c=iI ps :=
 ao4.eq_of_pairwise (le:=fun a b=>leP a b=true) (fun a b _ _ f e=>Aq f e) hs (tP ps) (h.trans (jQ ps).symm)
noncomputable def pD(p:Int×Int):D:=.tup [.int p.1,.int p.2]
noncomputable def lD:List D->Option (List (Int×Int))
 |[]=>some []
 |.tup [.int i,.int j]::a=>(lD a).map ((i,j)::·)
 |_=>none
theorem qu:∀{ps:List (Int×Int)},lD (ps.map pD)=some ps
 |[]=>rfl
 |p::ps=>by simp[lD,pD,qu (ps:=ps)]
theorem vU:∀{ds:List D}{ps:List (Int×Int)},lD ds=some ps->ds=ps.map pD:=by
 intro ds
 induction ds using lD.induct with
 |case1=>intro ps e;cases e;rfl
 |case2 i j ds ih =>
  intro ps e;simp only[lD]at e;cases q:lD ds with
  |none=>rw[q]at e;cases e
  |some c=>rw[q]at e;cases e;rw[ih q];rfl
 |case3 ds f a=>intro ps e;rw[lD]at e<;>simp_all
section
variable{X:Cx}{z:List (K1×Obj)}{s:J5}{σ:St}{H:Hp}{M:DH}
theorem va(I:Inv X z σ H s) {ps:List (Int×Int)}{f:List V}{us:List J3}(l:am X.K M H (ps.map pD) f) (m:ax f us) {i:Nat}(h:i<ps.length) :
  ∃a t u,us[i]?=some (.ref a)/\aj8 s.heap a #[.int ps[i].1 t,.int ps[i].2 u]:=by
 obtain⟨v,g,r⟩:=l.get (i:=i) (d:=pD ps[i]) (by simp[h]);obtain⟨w,o,j⟩:=m.get g;simp only[pD,Rep]at r;obtain⟨a,p,rfl,sq,c⟩:=r;cases j;obtain⟨its,e,n,q⟩:=I.tuple sq.sq;simp only[am,Rep]at c;obtain⟨_,_,rfl,rfl,_,_,rfl,rfl,rfl⟩:=c;obtain⟨x,y,rfl,⟨t,rfl⟩,⟨u,rfl⟩⟩:=ax.two e;exact⟨a,t,u,o,n⟩
theorem eJ{us:List J3}{i:Nat}{v:J3}(h:us[i]?=some v):us.getD i T9=v:=by
 rw[Q3,h];rfl
theorem mY{h:L5}:∀{ps:List (Int×Int)}{us:List J3},us.length=ps.length->(∀i (j:i<ps.length),∃a t u,us[i]?=some (.ref a)/\aj8 h a #[.int ps[i].1 t,.int ps[i].2 u])->∃fs,KatTups h us fs/\fs.length=ps.length/\∀f∈fs,∃i t,f=ag5 i t
 |[],[],_,_=>⟨[],KatTups.nil,rfl,fun _ h=>(nomatch h)⟩
 |p::ps,u::us,c,k=>by
  obtain⟨fs,x,s,m⟩:=mY (ps:=ps) (us:=us) (by simpa using c) fun i j=>k (i+1) (by simpa using j);obtain⟨a,t,z,e,o,q,w,n,l⟩:=k 0 (by simp);simp only[aa8,ab8]at e;subst e;exact⟨_::fs,KatTups.cons q w l rfl x,by simp[s],fun f g=>by
   rcases L1.mp g with rfl|g
   ·exact⟨_,_,rfl⟩
   ·exact m f g⟩
 |[],_::_,c,_=>by simp at c
 |_::_,[],c,_=>by simp at c
theorem oq{prog:M9}{w:P5}{A:O9}{E:J3->J5->Prop}{s:J5}{x y:K1}{p q:Int×Int}{c i f h:Tok}{C:Bool->J5->Prop}(n:aj8 s.heap x #[.int p.1 c,.int p.2 i]) (u:aj8 s.heap y #[.int q.1 f,.int q.2 h]) (k:C (ltP p q) s) :
  K5 (N3 prog w) A (keyLt' (tuples' true) (.ref x) (.ref y)) C E s:=by
 obtain⟨G,o,_,H,z⟩:=n;obtain⟨I,l,_,B,j⟩:=u;refine kat_lt o z l j ?_;refine kat_cons (al3 ?_);cases e:(p.1==q.1)with
 |false =>
  refine kat_no (oneLt_int ?_);have:decide (p.1<q.1)=ltP p q:=by
   have a:¬ p.1=q.1:=by simpa using e
   simp[ltP,a]
  rw[this];exact k
 |true =>
  have a:p.1=q.1:=by simpa using e
  refine kat_yes (kat_cons (al3 ?_));cases g:(p.2==q.2)with
  |false =>
   refine kat_no (kat_one _ _ ?_);refine wpAny_lt_int ?_;have:decide (p.2<q.2)=ltP p q:=by simp[ltP,a]
   rw[this];exact k
  |true =>
   have m:p.2=q.2:=by simpa using g
   refine kat_yes (kat_nil ?_);have:decide ((#[ag5 p.1 c,ag5 p.2 i]:Array J3).size<(#[ag5 q.1 f,ag5 q.2 h]:Array J3).size)=ltP p q:=by simp[ltP,a,m]
   rw[this];exact k
noncomputable def kp_(p:Array Nat) (i:Nat):Nat:=p.getD i 0
theorem bT{h h':L5}{a:K1}{its:Array J3}(t:aj8 h a its) (k:∀b o,h.get? b=some o->h'.get? b=some o):aj8 h' a its :=
 let⟨o,e,f,c⟩:=t
 ⟨o,k _ _ e,f,c⟩
theorem gf{a:List V}{us:List J3}(c:ax a us):∀{l:List Nat},(∀i∈l,i<a.length)->ax (l.map fun i=>a.getD i .non) (l.map fun i=>us.getD i T9)
 |[],_=>.nil
 |i::l,h=>by
  have e:=h i (.head _);obtain⟨u,g,r⟩:=c.get (J6 e);rw[L7,L7];refine .cons ?_ (gf c fun j f=>h j (.tail _ f));rw[eJ g,Q3,J6 e];exact r
theorem ja{K:J4}{ps:List (Int×Int)}{c:List V}(e:am K M H (ps.map pD) c):∀{l:List Nat},(∀i∈l,i<ps.length)->am K M H ((l.map fun i=>ps.getD i (0,0)).map pD) (l.map fun i=>c.getD i .non)
 |[],_=>rfl
 |i::l,h=>by
  have a:=h i (.head _);obtain⟨v,g,r⟩:=e.get (i:=i) (d:=pD ps[i]) (by simp[a]);simp only[L7,am];refine⟨v,_,?_,?_,ja e fun j f=>h j (.tail _ f)⟩
  ·rw[Q3,g];rfl
  ·rw[Q3,J6 a];exact r
theorem l6(ps:List (Int×Int)):(N5 ps.length).map (fun i=>ps.getD i (0,0))=ps:=by
 apply List.ext_getElem (by simp);intro i c a;simp[J6 a]
end
end L2
namespace L2
open PySem PySem.Spec PyProof.Rows
theorem F5{X:Cx}{e:Pos}:QEd X (.Dict [] [] e) dDK:=by
 simp only[QEd.eq]at *
 exact PE.conv Bn fun i H Q a=>a.el fun g M R h f q k=>fun p c =>
  k _ _ _ _ (q p (f.fresh c)) (Ext.own c) (f.put (Ext.own c) ⟨[],aK,.nil⟩) (by simp only[Rep])
theorem JC{X:Cx}{e:Pos}:QEd X (.Dict [] [] e) dDT:=by
 simp only[QEd.eq]at *
 exact PE.conv A7 fun i H Q a=>a.el fun g M R h f q k=>fun p c =>
  k _ _ _ _ (q p (f.fresh c)) (Ext.own c) (f.put (Ext.own c) ⟨[],aK,.nil⟩) (by simp only[Rep])
theorem D5{X:Cx}{o:O4}{g:List O4}{f:TEd}{t:TAd}{c:Pos}(a:Bool) {x1}{p:Pos}{op:am8}(e:op=(if a then .NotIn else .In)) (i:X.A.units+1<Z4) (h:QAd X g t) (j:QEd X o f) (l:X1 op o=false):QEd X (.Compare (.Tuple g x1 p) [op] [o] c) (Eg a t f):=by
 simp only[QEd.eq,QAd.eq]at *
 exact PE.conv (vF (zQ e i (vC h) j) l) zA
theorem AH{X:Cx}{o:O4}{i:O4}{f:TEd}{g:TEd}{c:Pos}(a:Bool) {op:am8}(e:op=(if a then .NotIn else .In)) (h:X.A.units+1<Z4) (j:QEd X i g) (l:QEd X o f) (m:X1 op o=false):QTd X (.Compare i [op] [o] c) (jV (Ek a g f)):=by
 simp only[QEd.eq,QTd.eq]at *
 exact PT.conv (qV (zQ e h j l) m) (Gm AG)
theorem yX{X:Cx}{e:O4}{o:O4}{i:O4}{te:TEd}{O:TEd}{P:TEd}{f:Pos}{p:Pos}(hu:X.A.units+1<Z4) (ho:QEd X o O) (hi:QEd X i P) (he:QEd X e te) (hs:autoParam (ak9 e (some (.Subscript o i p)) f.line X.env=ak7 false) L2.zq0._auto_1):QSd X (.Assign [.Subscript o i p] e f) (DK O P te):=by
 simp only[QEd.eq,QSd.eq]at *
 exact PS.conv (xc hu ho hi he hs) fun D Y H B=>B.el fun j M E m hr q k=>⟨j,M,_,m,hr,q,fun d M1 v H1 q1 h C rv=>⟨j,M1,_,m.ext h,C,q1,fun x M2 u H2 U g s N=>⟨j,M2,_,(m.ext h).ext g,s,U,fun y L w I z89z G c A=>by
   obtain⟨a,n,z,ex,Q,R,hz,S⟩:=z89z
   subst ex;subst R;simp only[Rep]at N;subst N;obtain⟨Z,T,J⟩:=c a _ Q;have l:Ext L I (aN L a (.dK (je n z d))) (upd I a (.dK (gh Z z v))):=Ext.write Q;refine⟨a,_,rfl,by rw[ma A];exact sO.k T (by rw[<-J.length];exact hz),?_⟩;exact k.nx j _ Y _ S (((h.trans g).trans G).trans l) (c.put l ⟨_,aK,(J.put z ((rv.ext g).ext G)).ext l⟩) ((((m.ext h).ext g).ext G).ext l)⟩⟩⟩
theorem Gq{X:Cx}{e:O4}{o:O4}{B:List O4}{te:TEd}{U:TEd}{t:TAd}{i:Pos}{x1}{p Z:Pos}(hu:X.A.units+1<Z4) (ho:QEd X o U) (ht:QAd X B t) (he:QEd X e te) (hs:autoParam (ak9 e (some (.Subscript o (.Tuple B x1 Z) p)) i.line X.env=ak7 false) L2.zq0._auto_1):QSd X (.Assign [.Subscript o (.Tuple B x1 Z) p] e i) (D7 U t te):=by
 simp only[QEd.eq,QAd.eq,QSd.eq]at *
 exact PS.conv (xc hu ho (vC ht) he hs) fun D σ H L=>L.el fun n M E z hr q k=>⟨n,M,_,z,hr,q,fun d M1 v H1 q1 l O rv=>⟨n,M1,_,z.ext l,O,q1,fun x M2 u H2 q2 j C T=>⟨n,M2,_,(z.ext l).ext j,C,q2,fun ds m h f z90z P c g=>by
   obtain⟨hl,a,A,G,ex,Y,ey,hz,q3⟩:=z90z
   subst ex;subst ey;simp only[Rep]at T;subst T;refine⟨by rw[<-g.length];exact hl,fun p N=>?_⟩;obtain⟨R,Q,S⟩:=c a _ Y;have I:a≠p:=cp Q N;have s:Ext m f m (upd f p (.tup h)):=Ext.new c N;have J:=c.new (o:=.tup h) N;have w:Ext m (upd f p (.tup h)) (aN m a (.dT (je A G d))) (upd (upd f p (.tup h)) a (.dT (gh R G v))):=Ext.write Y;have h4:upd f p (.tup h) a=some (.dT R):=by rw[aO I];exact Q
   refine⟨a,_,rfl,sO.t h4 (by rw[aK,rA g]) (by rw[<-S.length];exact hz),?_⟩;exact k.nx n _ σ _ q3 ((((l.trans j).trans P).trans s).trans w) (J.put w ⟨_,aK,((S.ext s).put G (((rv.ext j).ext P).ext s)).ext w⟩) (((((z.ext l).ext j).ext P).ext s).ext w)⟩⟩⟩
theorem cv.units1{k:Nat}{A:O9}(r:cv k A):A.units+1<Z4:=by have:=r.un;lia
theorem IP{i:Int}{P:Key->Prop}:(∃k,D.int i=kD k/\P k)↔P (.inl i) :=
 ⟨fun z91z=>by obtain⟨k,e,h⟩:=z91z;exact match k,e with|.inl _,rfl=>h,fun h=>⟨_,rfl,h⟩⟩
theorem IC{x:Str}{P:Key->Prop}:(∃k,D.str x=kD k/\P k)↔P (.inr x) :=
 ⟨fun z92z=>by obtain⟨k,e,h⟩:=z92z;exact match k,e with|.inr _,rfl=>h,fun h=>⟨_,rfl,h⟩⟩
theorem EM:∀{a b:Key},kD a=kD b->a=b
 |.inl _,.inl _,h=>by cases h;rfl
 |.inr _,.inr _,h=>by cases h;rfl
 |.inl _,.inr _,h=>by cases h
 |.inr _,.inl _,h=>by cases h
theorem vY:∀{a b:List Key},a.map kD=b.map kD->a=b
 |[],[],_=>rfl
 |[],_::_,h=>by cases h
 |_::_,[],h=>by cases h
 |x::e,y::c,h=>by
  simp only[L7,S4]at h;rw[EM h.1,vY h.2]
theorem Ee{a b:Key}{P:List Key->Prop}:(∃ks:List Key,[kD a,kD b]=ks.map kD/\P ks)↔P [a,b] :=
 ⟨fun z93z=>by obtain⟨ks,e,h⟩:=z93z;rw[vY (a:=[a,b]) (b:=ks) (by simpa using e)];exact h,fun h=>⟨_,rfl,h⟩⟩
theorem EO{i j:Int}{P:List Key->Prop}:(∃ks:List Key,[D.int i,D.int j]=ks.map kD/\P ks)↔P [.inl i,.inl j]:=Ee (a:=.inl i) (b:=.inl j)
theorem E8{i j:Str}{P:List Key->Prop}:(∃ks:List Key,[D.str i,D.str j]=ks.map kD/\P ks)↔P [.inr i,.inr j]:=Ee (a:=.inr i) (b:=.inr j)
theorem CW{i j:Int}:Jm [.int i,.int j]=some (.int (if j<i then j else i)):=rfl
@[irreducible] def Dk(t:TSd):TSd:=t
theorem wo{t:TSd}:Dk t=t:=by unfold Dk;rfl
theorem bq{t:TSd}{E:fT}{a:DE}{M:DH}(h:t E a M):Dk t E a M:=by rw[wo];exact h
theorem cX{X:Cx}{st:List ae4}{t:TSd}(h:QSs X st t):QSs X st (Dk t):=by rw[wo];exact h
theorem Bq{K:Params->J4}{H:List K1}{n t:Nat}{q:M9}{g:List Str}{R:(Str->Option J3)->L5->Prop}{r:PySem.W.RowW}{d:DefRec}{i:List (Str×O4)}{run:J3->List J3->Sem J3}(hk:∀P,H=(K P).map (·.1))
  (h:PySem.W.WalkO q g R (fun w h=>(K w.params).In h) r d i run):PySem.W.WalkX q g R (PySem.W.X.obsZ H) (PySem.W.X.valZ K n t) r d i run:=by
 intro w f A T Y G y a o pm Z C dV kV ho S M hD B U m s O L x j I E J;refine h w f A T Y G (fun b u X=>L.keeps b u ?_) a o pm Z C dV kV ho S M hD B U m s O x j I E J;have Q:H.map f.heap.get?=(K w.params).map fun p=>some p.2:=congrArg (·.1) y;rw[hk w.params,M0]at Q;have N:∀(l:J4),(l.map fun p=>f.heap.get? p.1)=l.map (fun p=>some p.2)->af8 b l=some u->f.heap.get? b=some u:=by
  intro l
  induction l with
  |nil=>intro _ z;cases z
  |cons p l ih =>
   intro e z;rw[L7,L7,S4]at e;rw[S6]at z
   by_cases c:b=p.1
   ·subst c;rw[beq_self_eq_true]at z;cases z;exact e.1
   ·rw[beq_eq_false_iff_ne.mpr c]at z;exact ih e.2 z
 exact N _ Q X
end L2
namespace L2
open PySem PySem.W PySem.Calls PyProof.Rows
section
variable{prog:M9}{w:P5}{A:O9}{E:J3->J5->Prop}{O:af4}
theorem qI{T:String}{o:Obj}{n:Nat}{s:J5}{l:K1}{f:List J3}{key:Nat->O.α}{κ:ax2}{Q:J3->J5->Prop}(S:T="list"∨T="tuple") (hg:s.heap.get? l=some o) (J:o.cls=.type T) (Y:o.data=.seq f.toArray n) (Z:f.length<64)
  (hk:∀z Q,2<=f.length->(∀b o,s.heap.get? b=some o->z.heap.get? b=some o)->Q κ z->K5 (N3 prog w) A.in1.in1 (keyKind' f.toArray) Q (fun _ _=>False) z)
  (P:∀i j z C,i<f.length->j<f.length->(∀b o,s.heap.get? b=some o->z.heap.get? b=some o)->C (eD O key i j) z->kas_ask prog w A.in1.in1 κ f i j C z)
  (k:∀(a:L5) p x c h',(∀b o,s.heap.get? b=some o->a.get? b=some o)->cI f.length p->dg O key p f.length->a.objs.size<=x->(∀b o,a.get? b=some o->h'.get? b=some o)->h'.get? x=some (aj6 "list" (gK f p).toArray c)->Q (.ref x) { s with heap:=h' }) :
  K5 (N3 prog w) A (aw9 (.builtin "sorted") [.ref l]) Q E s:=by
 refine call_function_entry as4 aq4 aq5 (aq6 _) ?_;unfold L3.«sorted»;refine o0 (m:=au3 "sorted" 1 1 _) (J1 ?_);have G:f.length<=K0:=by rw[aa3];lia
 refine o0 (wpAny_collect_seq l S hg J Y (fun a B=>o0 (as3 ?_ G)) (by simpa using G));have H:∀b o,a.get? b=some o->(a.push (aj6 "list" f.toArray 0)).get? b=some o:=fun b o e=>by
  rw[L5.get?_push_ne _ _ _ (K9 (K6 e))];exact e
 have L:∀b o,s.heap.get? b=some o->(a.push (aj6 "list" f.toArray 0)).get? b=some o:=fun b o e=>H b o (B b o e);have new:(a.push (aj6 "list" f.toArray 0)).get? a.objs.size=some (aj6 "list" f.toArray 0):=J8 _ rfl;have g:a.get? a.objs.size=none:=ad9 (J7 _);have I:s.heap.get? a.objs.size=none:=by
  cases e:s.heap.get? a.objs.size with
  |none=>rfl
  |some u=>rw[B _ _ e]at g;cases g
 show K5 _ _ _ _ _ { s with heap:=a.push (aj6 "list" f.toArray 0) };have go:∀(t:J5),ou a.objs.size { s with heap:=a.push (aj6 "list" f.toArray 0) } t->∀b o,s.heap.get? b=some o->t.heap.get? b=some o:=fun t h b o e=>h b o (fun q=>by rw[q,I]at e;cases e) (L b o e);have M:∀(t:J5),ou a.objs.size { s with heap:=a.push (aj6 "list" f.toArray 0) } t->∀b o,a.get? b=some o->t.heap.get? b=some o:=fun t h b o e=>h b o (fun q=>by rw[q,g]at e;cases e) (H b o e);refine o0 (U8 (O7 slot_list_sort ⟨_,new,rfl⟩ entry_list_sort ?_ (args_list_sort _)));refine u7 (κ:=κ) (key:=key) new Z (fun t Q' two h q=>hk t Q' two (go t h) q) (fun i j t C U N h q=>P i j t C U N (go t h) q) fun p c h' X hr hs R=>?_;refine⟨_,rfl,J1 ⟨_,rfl,?_⟩⟩;exact k a p _ c h' B X hr (J7 _) (fun b o e=>M { s with heap:=h' } hs b o e) R
end
noncomputable def Jw:af4 where
 α:=Int
 blt a b:=decide (a<b)
 irrefl a:=by simp
 trans a b c h1 h2:=by simp only[decide_eq_true_eq]at *;lia
 negTrans a b c h:=by simp only[decide_eq_true_eq]at *;lia
 total a b h1 h2:=by simp only[decide_eq_false_iff_not]at *;lia
noncomputable def pM(ns:List Int):List Int:=ns.mergeSort fun a b=>decide (a<=b)
theorem vM(ns:List Int):(pM ns).Perm ns:=List.mergeSort_perm _ _
theorem zY(ns:List Int):(pM ns).Pairwise fun a b=>a<=b:=by
 have:=List.pairwise_mergeSort (le:=fun a b:Int=>decide (a<=b)) (fun a b c f e=>by simp only[decide_eq_true_eq]at *;lia) (fun a b=>by simp only[Bool.or_eq_true,decide_eq_true_eq];lia) ns;exact this.imp fun h=>by simpa using h
theorem zm{ns ms:List Int}(h:ms.Perm ns) (hs:ms.Pairwise fun a b=>a<=b):ms=pM ns :=
 ao4.eq_of_pairwise (le:=fun a b:Int=>a<=b) (fun a b _ _ e c=>by lia) hs (zY ns) (h.trans (vM ns).symm)
section
variable{X:Cx}{y:List (K1×Obj)}{s:J5}{σ:St}{H:Hp}{M:DH}
theorem uP(ns:List Int):(N5 ns.length).map (fun i=>ns.getD i 0)=ns:=by
 apply List.ext_getElem (by simp);intro i c a;simp[J6 a]
theorem E4{K:J4}{ns:List Int}{a:List V}{us:List J3}(h:am K M H (ns.map D.int) a) (f:ax a us) {i:Nat}(c:i<ns.length):∃t,us[i]?=some (.int ns[i] t):=by
 obtain⟨v,g,r⟩:=h.get (i:=i) (d:=D.int ns[i]) (by simp[c]);obtain⟨l,j,e⟩:=f.get g;simp only[Rep]at r;subst r;obtain⟨t,rfl⟩:=e;exact⟨t,j⟩
theorem qw{K:J4}{ns:List Int}{c:List V}(e:am K M H (ns.map D.int) c):∀{l:List Nat},(∀i∈l,i<ns.length)->am K M H ((l.map fun i=>ns.getD i 0).map D.int) (l.map fun i=>c.getD i .non)
 |[],_=>rfl
 |i::l,h=>by
  have a:=h i (.head _);obtain⟨v,g,r⟩:=e.get (i:=i) (d:=D.int ns[i]) (by simp[a]);simp only[L7,am];refine⟨v,_,?_,?_,qw e fun j f=>h j (.tail _ f)⟩
  ·rw[Q3,g];rfl
  ·rw[Q3,J6 a];exact r
theorem yO{us:List J3}:∀{ns:List Int},us.length=ns.length->(∀i (c:i<ns.length),∃t,us[i]?=some (.int ns[i] t))->ax7 us ns:=by
 induction us with
 |nil=>intro ns h _;cases ns with|nil=>exact .nil|cons n ns=>cases h
 |cons u us ih =>
  intro ns h a;cases ns with
  |nil=>cases h
  |cons n ns =>
   obtain⟨t,e⟩:=a 0 (by simp);have g:u=.int n t:=by simpa using e
   subst g;exact .cons _ _ (ih (by simpa using h) fun i c=>by
    obtain⟨j,f⟩:=a (i+1) (by simpa using c);exact⟨j,by rw[U4]at f;exact f⟩)
theorem Ao(I:Inv X y σ H s) (hr:HR X.K M H) {ns:List Int}(a0:ns.length<64) {l:K1}{T:String}{o:Obj}{n:Nat}{A:List V}{its:List J3}(U:am X.K M H (ns.map D.int) A) (L:ax A its) (S:A.length<=K0)
  (hT:T="list"∨T="tuple") (hg:s.heap.get? l=some o) (R:o.cls=.type T) (hd:o.data=.seq its.toArray n) {Q:VK}
  (k:∀w m,Ext M H M m->HR X.K M m->Rep X.K M m (.lst ((pM ns).map D.int)) w->Q w m):K5 (N3 X.prog X.w) X.A (aw9 (.builtin "sorted") [.ref l]) (EP X y σ Q) X.xe s:=by
 have G:ns.length=its.length:=by rw[<-L.length,<-U.length,J0]
 have at_:=fun i (e:i<ns.length)=>E4 U L e;have h:∀i (e:i<ns.length),ns.getD i 0=ns[i]:=fun i e=>by rw[Q3,J6 e];rfl
 refine qI (O:=Jw) (key:=fun i=>ns.getD i 0) (κ:=oneType') hT hg R hd (by lia) (fun s1 Q' two kp q=>?_) (fun i j s1 C e f kp q=>?_) fun h1 p x c h' N J hs hx kp ho=>?_
 ·have Y:=yO G.symm at_
  match its,two,Y with
  |v1::v2::r,_,Y=>rw[keyKind_ints Y];exact J1 q
 ·rw[<-G]at e f;obtain⟨t,g⟩:=at_ i e;obtain⟨u,g'⟩:=at_ j f;show K5 _ _ (keyLt' _ _ _) _ _ _;rw[eJ g,eJ g'];refine kat_lt_int ?_;have q':C (decide (ns.getD i 0<ns.getD j 0)) s1:=q
  rwa [h i e,h j f]at q'
 ·have B:∀i∈p.toList,i<ns.length:=fun i e=>by rw[G];exact P6.mp (J.mem_iff.mp e)
  have E:A.length=its.length:=L.length;have lo:(p.toList.map fun i=>A.getD i .non).length=its.length:=by rw[J0,L8];exact J.size
  have I1:Inv X y σ H { s with heap:=h1,toks:=s.toks }:=I.kept N;have I2:=I1.laid (t':=s.toks) (o:=.lst (p.toList.map fun i=>A.getD i .non)) kp hx (show bB X.prog X.w _ h' x (.lst _)from⟨by rw[lo,<-E];exact S,gK its p,c,gf L (fun i e=>by rw[E,<-G];exact B i e),ho⟩);have es:(p.toList.map fun i=>ns.getD i 0)=pM ns:=by
   have Z:p.toList.Perm (N5 ns.length):=by rw[G];exact J
   have hm:=Z.map fun i=>ns.getD i 0;rw[uP]at hm;refine zm hm ?_;rw[ag1];intro i j e f P;have sz:p.size=its.length:=J.size;rw[J0,L8]at e f;have:=hs i j (V4 P) (by lia);have e1:kp_ p i=p.toList[i]'(by simpa using e):=by simp[kp_,X7,e]
   have e2:kp_ p j=p.toList[j]'(by simpa using f):=by simp[kp_,X7,f]
   have g:ns.getD (kp_ p i) 0<=ns.getD (kp_ p j) 0:=by
    have z:decide (ns.getD (kp_ p j) 0<ns.getD (kp_ p i) 0)=false:=this;simp only[decide_eq_false_iff_not]at z
    lia
   rw[e1,e2]at g;simpa using g
  refine⟨.ref x,_,I2,rfl,dq hr (I1.hok.fresh hx) (qw U B) fun w m a b c=>?_⟩;rw[es]at c;exact k w m a b c
theorem yb(I:Inv X y σ H s) (hr:HR X.K M H) {ps:List (Int×Int)}(a1:ps.length<64) {l:K1}{T:String}{o:Obj}{n:Nat}{E:List V}{its:List J3}(rl:am X.K M H (ps.map pD) E) (P:ax E its) (Z:E.length<=K0)
  (hT:T="list"∨T="tuple") (hg:s.heap.get? l=some o) (U:o.cls=.type T) (hd:o.data=.seq its.toArray n) {Q:VK}
  (k:∀w B,Ext M H M B->HR X.K M B->Rep X.K M B (.lst ((iI ps).map pD)) w->Q w B):K5 (N3 X.prog X.w) X.A (aw9 (.builtin "sorted") [.ref l]) (EP X y σ Q) X.xe s:=by
 have L:ps.length=its.length:=by rw[<-P.length,<-rl.length,J0]
 have at_:=fun i (e:i<ps.length)=>va I rl P e;have A:∀i (e:i<ps.length),ps.getD i (0,0)=ps[i]:=fun i e=>by rw[Q3,J6 e];rfl
 refine qI (O:=EK) (key:=fun i=>ps.getD i (0,0)) (κ:=tuples' true) hT hg U hd (by lia) (fun Y Q' two kp q=>?_) (fun i j Y C e m kp q=>?_) fun h1 p x c h' R N hs hx kp ho=>?_
 ·obtain⟨fs,t1,t2,t3⟩:=mY (h:=Y.heap) L.symm fun i e=>let⟨a,t,u,g,z⟩:=at_ i e;⟨a,t,u,g,bT z kp⟩
  exact kat_kind (T:=.type "int") t1 (by lia) (fun f hf=>by obtain⟨i,t,rfl⟩:=t3 f hf;exact Looks.of_pure rfl) rfl q
 ·rw[<-L]at e m;obtain⟨a,t,u,g,z⟩:=at_ i e;obtain⟨b,t',u',g',z'⟩:=at_ j m;show K5 _ _ (keyLt' _ _ _) _ _ _;rw[eJ g,eJ g'];refine oq (bT z kp) (bT z' kp) ?_;have q':C (ltP (ps.getD i (0,0)) (ps.getD j (0,0))) Y:=q
  rwa [A i e,A j m]at q'
 ·have G:∀i∈p.toList,i<ps.length:=fun i e=>by rw[L];exact P6.mp (N.mem_iff.mp e)
  have J:E.length=its.length:=P.length;have lo:(p.toList.map fun i=>E.getD i .non).length=its.length:=by rw[J0,L8];exact N.size
  have I1:Inv X y σ H { s with heap:=h1,toks:=s.toks }:=I.kept R;have I2:=I1.laid (t':=s.toks) (o:=.lst (p.toList.map fun i=>E.getD i .non)) kp hx (show bB X.prog X.w _ h' x (.lst _)from⟨by rw[lo,<-J];exact Z,gK its p,c,gf P (fun i e=>by rw[J,<-L];exact G i e),ho⟩);have es:(p.toList.map fun i=>ps.getD i (0,0))=iI ps:=by
   have a0:p.toList.Perm (N5 ps.length):=by rw[L];exact N
   have hm:=a0.map fun i=>ps.getD i (0,0);rw[l6]at hm;refine oC hm ?_;rw[ag1];intro i j e m S;have sz:p.size=its.length:=N.size;rw[J0,L8]at e m;have:=hs i j (V4 S) (by lia);have e1:kp_ p i=p.toList[i]'(by simpa using e):=by simp[kp_,X7,e]
   have e2:kp_ p j=p.toList[j]'(by simpa using m):=by simp[kp_,X7,m]
   have g:leP (ps.getD (kp_ p i) (0,0)) (ps.getD (kp_ p j) (0,0))=true:=by
    have z:ltP (ps.getD (kp_ p j) (0,0)) (ps.getD (kp_ p i) (0,0))=false:=this;simp only[leP,z,ag2]
   rw[e1,e2]at g;simpa using g
  refine⟨.ref x,_,I2,rfl,dq hr (I1.hok.fresh hx) (ja rl G) fun w B a b c=>?_⟩;rw[es]at c;exact k w B a b c
noncomputable def sI(ds:List D):Option D:=if ds.length<64 then(match lD ds with|some c=>some (.lst ((iI c).map pD))|none=>(cE ds).map fun a=>.lst ((pM a).map D.int))else none
noncomputable def wn:D->Option D
 |.lst a=>sI a
 |.tup a=>sI a
 |_=>none
theorem tR:∀{ds:List D}{ns:List Int},cE ds=some ns->ds=ns.map D.int:=by
 intro ds
 induction ds using cE.induct with
 |case1=>intro ns e;cases e;rfl
 |case2 i ds ih =>
  intro ns e;simp only[cE]at e;cases q:cE ds with
  |none=>rw[q]at e;cases e
  |some f=>rw[q]at e;cases e;rw[ih q];rfl
 |case3 ds c a=>intro ns e;rw[cE]at e<;>simp_all
theorem By(I:Inv X y σ H s) (hr:HR X.K M H) {ds:List D}{j:D}(e:sI ds=some j) {l:K1}{T:String}{o:Obj}{n:Nat}{h:List V}{its:List J3}(p:am X.K M H ds h) (u:ax h its) (a:h.length<=K0)
  (m:T="list"∨T="tuple") (hg:s.heap.get? l=some o) (f:o.cls=.type T) (i:o.data=.seq its.toArray n) {Q:VK}
  (k:∀w g,Ext M H M g->HR X.K M g->Rep X.K M g j w->Q w g):K5 (N3 X.prog X.w) X.A (aw9 (.builtin "sorted") [.ref l]) (EP X y σ Q) X.xe s:=by
 unfold sI at e
 split at e
 ·rename_i c
  split at e
  ·rename_i z q;cases e;have:=vU q;subst this;exact yb I hr (by simpa using c) p u a m hg f i k
  ·cases q:cE ds with
   |none=>rw[q]at e;cases e
   |some x =>
    rw[q]at e;cases e;have:=tR q;subst this;exact Ao I hr (by simpa using c) p u a m hg f i k
 ·cases e
theorem xf:bD X (.builtin "sorted") (nW wn):=by
 intro y s σ H M J L A N Q I z f E e k;obtain⟨d,rfl,p⟩:=cw e;clear e;obtain⟨v,rfl,r⟩:=kW E;obtain⟨u,rfl,x⟩:=ax.one f;cases d with
 |lst A =>
  obtain⟨l,G,rfl,sq,q⟩:=r;cases x;obtain⟨its,f,B,i⟩:=I.list (SqL.of sq);obtain⟨o,m,j,n,g⟩:=B.isList;exact By I z p q f i (.inl rfl) m j g fun w h a b c=>k w h a b c
 |tup A =>
  obtain⟨l,G,rfl,sq,q⟩:=r;cases x;obtain⟨its,f,C,i⟩:=I.tuple sq;obtain⟨o,m,j,n,g⟩:=C;exact By I z p q f i (.inr rfl) m j g fun w h a b c=>k w h a b c
 |_=>cases p
theorem Ct{ps:List (Int×Int)}(h:ps.length<64):wn (.tup (ps.map pD))=some (.lst ((iI ps).map pD)):=by simp[wn,sI,qu,h]
end
end L2
namespace L2
open PySem PySem.Spec PyProof.Rows
section
variable{X:Cx}{a b c e:O4}{B:Pos}
def Dr(r m c:R2) (i o tc te:TE):TE:=fun a H Q=>i a H fun x p=>o a p fun y n=>r x y n fun z f=>∃k,z=.bl k /\
 (if k=true then tc a f fun h l=>m y h l fun s g=>∃e,s=.bl e/\(if e=true then te a g fun q j=>c h q j Q else Q (.bl false) g)else Q (.bl false) f)
theorem yw{G A tc te:TE}{op l f:am8}{r L m:R2}(ho:OpR X (Q9 op) r) (o:OpR X (Q9 l) L) (n:OpR X (Q9 f) m) (ha:PE X a G) (hb:PE X b A) (hc:PE X c tc) (he:PE X e te)
  (Z:autoParam (at5 [op,l,f] [b,c,e]=false) L2.zq4._auto_1):PE X (.Compare a [op,l,f] [b,c,e] B) (Dr r L m G A tc te):=by
 intro j s i H Q I h;refine Compare_chain (thn (ha j s i H _ I h) fun v s1 g=>g.el fun x H1 I1 r1 q1=>chain_link (thn (hb j s1 i H1 _ I1 q1) fun u s2 g=>g.el fun y H2 I2 O T =>
  thn (ho j s2 i H2 x y v u _ I2 r1 O T) fun d s3 z94z=>?_)) Z
 obtain⟨z,q,w,r3,k,e,p⟩:=z94z;subst e;cases r3;refine U0 ?_;cases k with
 |false=>exact ite_ff ⟨.bl false,q,w,rfl,p⟩
 |true =>
  refine ite_tt (chain_link (thn (hc j s3 i q _ w p) fun C U ⟨P,R,I4,E,q4⟩=>thn (o j U i R y P u C _ I4 O E q4) fun d' S z96z=>?_));obtain⟨z5,N,J,r5,k5,e5,M⟩:=z96z;subst e5;cases r5;refine U0 ?_;cases k5 with
  |false=>exact ite_ff ⟨.bl false,N,J,rfl,M⟩
  |true=>exact ite_tt (chain_last (thn (he j S i N _ J M) fun w6 Y g=>g.el fun z6 H6 I6 r6 q6=>n j Y i H6 P z6 C w6 Q I6 E r6 q6))
def wy(r i f:D->D->Option D) (h j tc te:TEd):TEd:=fun c M Q=>h c M fun x M1=>j c M1 fun y M2=>∃k,r (rdM M2 x) (rdM M2 y)=some (.bl k)/\if k=true then tc c M2 fun z a=>∃g,i (rdM a y) (rdM a z)=some (.bl g)/\(if g=true then te c a fun u e=>∃w,f (rdM e z) (rdM e u)=some w/\Q w e else Q (.bl false) a)else Q (.bl false) M2
theorem Ag{ta tb tc te:TEd}{op g f:am8}{r r' p:D->D->Option D}(ho:bL X (Q9 op) r) (Y:bL X (Q9 g) r') (s:bL X (Q9 f) p) (ha:QEd X a ta) (hb:QEd X b tb) (hc:QEd X c tc) (he:QEd X e te)
  (hm:autoParam (at5 [op,g,f] [b,c,e]=false) L2.zq4._auto_1):QEd X (.Compare a [op,g,f] [b,c,e] B) (wy r r' p ta tb tc te):=by
 simp only[QEd.eq]at *
 refine(yw ho.v Y.v s.v ha hb hc he hm).conv fun σ H Q h=>?_;obtain⟨N,M,R,G,hr,q,k⟩:=h;refine⟨N,M,_,G,hr,q,fun x M1 v H1 q1 n Z rv=>⟨N,M1,_,G.ext n,Z,q1,fun y M2 u H2 ⟨b,eb,I⟩ o i ru=>⟨_,_,.bl b,M2,i,(rv.ext o).rd i,ru.rd i,eb,fun w H3 m C P =>
  ⟨b,by simpa only[Rep]using P,?_⟩⟩⟩⟩
 cases b with
 |true =>
  simp only[if_true]at I ⊢;refine⟨N,M2,_,(G.ext (n.trans o)).ext m,C,I,fun z T w4 H4 ⟨U,ed,E⟩ J j r4=>⟨_,_,.bl U,T,j,((ru.ext m).ext J).rd j,r4.rd j,ed,fun w5 H5 L A r5=>⟨U,by simpa only[Rep]using r5,?_⟩⟩⟩;cases U with
  |true =>
   simp only[if_true]at E ⊢;exact⟨N,T,_,(((G.ext (n.trans o)).ext m).ext J).ext L,A,E,fun z6 M6 w6 H6 z99z e6 l r6=>by obtain⟨d6,S,q6⟩:=z99z;exact ⟨_,_,d6,M6,l,((r4.ext L).ext e6).rd l,r6.rd l,S,fun w7 H7 e7 O r7=>k d6 M6 w7 H7 q6 ((((((n.trans o).trans m).trans J).trans L).trans e6).trans e7) O r7⟩⟩
  |false =>
   simp only[J9,if_false]at E ⊢;exact k _ T _ H5 E ((((n.trans o).trans m).trans J).trans L) A (by simp[Rep])
 |false =>
  simp only[J9,if_false]at I ⊢;exact k _ M2 _ H3 I ((n.trans o).trans m) C (by simp[Rep])
end
section
variable{X:Cx}
end
section
variable{X:Cx}{l:O4}{z:TE}{te:TEd}{y:List O4}{B:Nat}{pt I N:Pos}
theorem wZ{K:J4}{M:DH}{H:Hp}:∀ks:List Key,am K M H (ks.map kD) (ks.map kV)
 |[]=>am.nil
 |k::ks=>am.cons vE (wZ ks)
end
section
variable{X:Cx}{o e f:O4}{B I te:TEd}{N W:Pos}
def y9(B I te:TEd):TEd:=fun f M Q=>B f M fun x M1=>∃a e,x=.ref a/\M1 a=some (.dK e)/\I f M1 fun y M2=>te f M2 fun z g=>∃c k,g a=some (.dK c)/\y=kD k/\Q ((cR c k).getD z) g
theorem CV(hu:X.A.units+1<Z4) (ho:QEd X o B) (hi:QEd X e I) (he:QEd X f te) (m:M2 X o "get" N e f W):QEd X (.Call (.Attribute o "get" N) [e,f] [] W) (y9 B I te):=by
 simp only[QEd.eq]at *
 exact PE.conv (zu hu ho hi he m) fun σ H Q G=>G.el fun O M R s hr q k=>⟨O,M,_,s,hr,q,fun x M1 v H1 z100z i h Z=>by
   obtain⟨a,a0,ex,em,q1⟩:=z100z
   subst ex;simp only[Rep]at Z;subst Z;obtain⟨p,h1,a1⟩:=h a _ em;refine⟨a,rfl,.inl ⟨p,.inl h1⟩,O,M1,_,s.ext i,h,q1,fun y M2 u H2 q2 C l ru=>?_⟩;refine⟨O,M2,_,(s.ext i).ext C,l,q2,fun z T w Y z101z U c E=>?_⟩;obtain⟨A,g,J,ey,j⟩:=z101z;subst ey;obtain⟨P,h3,S⟩:=c a _ J;have eu:=ma ru;subst eu;refine⟨dX P g,ie.k h3,?_⟩;cases L:cR A g with
   |some d =>
    obtain⟨w',hw,n⟩:=(S.val g).1 d L;rw[hw];rw[L]at j;exact k _ T _ Y j ((i.trans C).trans U) c n
   |none =>
    have:=(S.val g).2;rw[L]at this j;have hn:dX P g=none:=by simpa using this
    rw[hn];exact k _ T _ Y j ((i.trans C).trans U) c E⟩
end
section
variable{X:Cx}
noncomputable def inF(x y:D):Option D:=match y with
 |.lst a=>if dLe x 59=true/\ft a 59=true then some (.bl (a.any fun d=>eqD d x))else none
 |_=>none
theorem Ii{x:D}{ds:List D}:inF x (.lst ds)=if dLe x 59=true/\ft ds 59=true then some (.bl (ds.any fun d=>eqD d x))else none:=rfl
end
section
variable{X:Cx}{a b e:O4}{z B te:TEd}{y:Pos}
section
open PySem.SeqAt PySem.MeetsSeq AutoSeq1
end
end
noncomputable def itN:Bool->String
 |true=>"tuple_iterator"
 |false=>"list_iterator"
noncomputable def sqN:Bool->String
 |true=>"tuple"
 |false=>"list"
def eN(b:Bool) (h:L5) (i l:K1) (k:Nat):Prop:=∃o,h.get? i=some o/\o.cls=.type (itN b)/\o.data=.fields #[.ref l,.int k 0]
def fo(b:Bool) (h:L5) (l:K1) (xs:Array J3):Prop:=∃o,h.get? l=some o/\o.cls=.type (sqN b)/\∃n,o.data=.seq xs n
section
variable{prog:M9}{w:P5}{A:O9}{E:J3->J5->Prop}{s:J5}{b c:Bool}
theorem eN.go{h h':L5}{i l:K1}{k:Nat}(x:eN b h i l k) (f:∀o,h.get? i=some o->h'.get? i=some o):eN b h' i l k:=let⟨o,e,r⟩:=x;⟨o,f o e,r⟩
theorem fo.go{h h':L5}{l:K1}{xs:Array J3}(x:fo b h l xs) (f:∀o,h.get? l=some o->h'.get? l=some o):fo b h' l xs:=let⟨o,e,r⟩:=x;⟨o,f o e,r⟩
theorem j3{it l:K1}{i:Nat}{xs:Array J3}{x:J3}{Q:J3->J5->Prop}(p:eN b s.heap it l i) (q:fo b s.heap l xs) (a:xs[i]?=some x)
  (k:∀h',eN b h' it l (i+1)->O6 it s.heap h'->Q x { s with heap:=h' }):K5 (N3 prog w) A (S1 (.ref it)) Q E s:=by
 cases b with
 |true=>exact gN (show s.heap.IsTupleIter it l i from p) (show s.heap.IsTuple l xs from q) a k
 |false=>exact wpAny_nextOf_list_item (show s.heap.IsListIter it l i from p) (show s.heap.IsList l xs from q) a k
theorem p9{it l:K1}{i:Nat}{xs:Array J3}{Q:J3->J5->Prop}(a:A.handled=none) (p:eN b s.heap it l i) (q:fo b s.heap l xs) (c:xs[i]?=none)
  (k:∀h' e,an3 it s.heap h'->(∃o,h'.get? e=some o/\o.cls=.type "StopIteration")->E (.ref e) { s with heap:=h' }):K5 (N3 prog w) A (S1 (.ref it)) Q E s:=by
 cases b with
 |true=>exact gZ a (show s.heap.IsTupleIter it l i from p) (show s.heap.IsTuple l xs from q) c k
 |false=>exact wpAny_nextOf_list_end a (show s.heap.IsListIter it l i from p) (show s.heap.IsList l xs from q) c k
theorem yp{z T U i j l m:K1}{k:Nat}{xs ys:Array J3}{x y u v:J3}{Q:J3->J5->Prop}(D:aw0 z T U i j l m)
  (C:av2 s.heap z T U .none) (hT:al1 s.heap T (.ref i) (.ref j)) (hU:al1 s.heap U u v) (hi:eN b s.heap i l k) (hj:eN c s.heap j m k) (hl:fo b s.heap l xs) (hm:fo c s.heap m ys) (hx:xs[k]?=some x) (hy:ys[k]?=some y)
  (q:∀ h',av2 h' z T U (W5 s.heap.objs.size) → al1 h' U x y → eN b h' i l (k + 1) → eN c h' j m (k + 1) → al1 h' s.heap.objs.size x y → h'.objs.size = s.heap.objs.size + 1 →
   (∀d o,d≠z->d≠U->d≠i->d≠j->s.heap.get? d=some o->h'.get? d=some o)->Q (.ref s.heap.objs.size) { s with heap:=h' }) :
  K5 (N3 prog w) A (L3.«zip.__next__» ⟨[.ref z],[]⟩) (fun L s'=>∃v,L=.done (.ret v)/\Q v s') E s:=by
 show K5 _ _ (field (.ref z) 2 >>= _) _ _ _;refine o0 (T8 C rfl (x:=.bool false) rfl ?_);show K5 _ _ (field (.ref z) 3 >>= _) _ _ _;refine o0 (T8 C rfl (x:=.ref T) rfl (o0 (ae3 hT rfl ?_)));show K5 _ _ (Z5 (.ref z) >>= _) _ _ _;refine o0 ?_;unfold Z5;refine o0 (T8 C rfl (x:=.none) rfl (J1 ?_));simp only[if_true];refine o0 (ak0 (o0 (T8 C rfl (x:=.ref U) rfl ?_)));refine o0 (af5 C (by simp) fun g1 X f=>?_);replace X:av2 g1 z T U .ellipsis:=X;refine o0 ?_;simp only[List.zipIdx_cons,List.zipIdx_nil,am5,List.forIn_nil];refine o0 (o0 (as5 ?_));show K5 _ _ (S1 (.ref i) >>= _) _ _ _;refine o0 (j3 (hi.go fun o e=>f.extBut _ _ D.i1z e) (hl.go fun o e=>f.extBut _ _ D.l1z e) hx fun g2 i2 n=>J1 ?_);have Z:al1 g2 U u v:=n.extBut _ _ D.TOi1 (f.extBut _ _ D.TOz hU);refine o0 (ae3 Z rfl (o0 (wpAny_updateSeq_pair Z fun g3 S h=>?_)));replace S:al1 g3 U x v:=S;refine o0 (wpAny_letGo (J1 (o0 (o0 (as5 ?_)))));show K5 _ _ (S1 (.ref j) >>= _) _ _ _;refine o0 (j3 (hj.go fun o e=>h.extBut _ _ D.TOi2.symm (n.extBut _ _ D.i12.symm (f.extBut _ _ D.i2z e))) (hm.go fun o e=>h.extBut _ _ D.l2TO (n.extBut _ _ D.l2i1 (f.extBut _ _ D.l2z e))) hy fun g4 j4 B=>J1 ?_);have Y:al1 g4 U x v:=B.extBut _ _ D.TOi2 S;refine o0 (ae3 Y rfl (o0 (wpAny_updateSeq_pair Y fun a I p=>?_)));replace I:al1 a U x y:=I;refine o0 (wpAny_letGo (J1 (J1 (o0 (ae3 I rfl (o0 (wpAny_newTuple ?_)))))));have sz:a.objs.size=s.heap.objs.size:=by rw[p.1,B.1,h.1,n.1,f.1]
 have z5:av2 a z T U .ellipsis:=p.extBut _ _ D.TOz.symm (B.extBut _ _ D.i2z.symm (h.extBut _ _ D.TOz.symm (n.extBut _ _ D.i1z.symm X)));have kp:∀d o,d≠z->d≠U->d≠i->d≠j->s.heap.get? d=some o->a.get? d=some o:=fun d o g J R N e =>
  p.extBut _ _ J (B.extBut _ _ N (h.extBut _ _ J (n.extBut _ _ R (f.extBut _ _ g e))))
 have i5:eN b a i l (k+1):=i2.go fun o e=>p.extBut _ _ D.TOi1.symm (B.extBut _ _ D.i12 (h.extBut _ _ D.TOi1.symm e));have j5:eN c a j m (k+1):=j4.go fun o e=>p.extBut _ _ D.TOi2.symm e;have lz:z<a.objs.size:=K6 z5;show K5 _ _ (L3.SmallTypes.ownedTupleHandOut (.ref z) (.ref a.objs.size) >>= _) _ _ _;refine o0 ?_;unfold L3.SmallTypes.ownedTupleHandOut;have z6:av2 (a.push { cls:=.type "tuple",data:=.seq #[x,y] }) z T U .ellipsis:=u8 _ z5;refine o0 (af5 z6 (by simp) fun g7 P M=>?_);replace P:av2 g7 z T U (W5 a.objs.size):=P;refine af5 P (by simp) fun G H O=>?_;replace H:av2 G z T U (W5 a.objs.size):=H;have up:∀d o,d≠z->a.get? d=some o->G.get? d=some o:=fun d o g e=>O.extBut _ _ g (M.extBut _ _ g (u8 _ e));have t8:al1 G a.objs.size x y:=O.extBut _ _ (ac6 lz) (M.extBut _ _ (ac6 lz) (J8 _ rfl));have n8:G.objs.size=a.objs.size+1:=by rw[O.1,M.1,R6]
 rw[sz]at H t8 n8;refine J1 ⟨_,rfl,?_⟩;show Q (.ref a.objs.size) _;rw[sz];exact q G H (up _ _ D.TOz I) (i5.go fun o e=>up _ o D.i1z e) (j5.go fun o e=>up _ o D.i2z e) t8 n8 fun d o g J R N e=>up d o g (kp d o g J R N e)
theorem zo{z T U i j l m:K1}{k:Nat}{xs M:Array J3}{u v:J3}{Q:PySem.Fin->J5->Prop}(hh:A.handled=none) (D:aw0 z T U i j l m)
  (B:av2 s.heap z T U .none) (hT:al1 s.heap T (.ref i) (.ref j)) (hU:al1 s.heap U u v) (Z:eN b s.heap i l k) (hj:eN c s.heap j m k) (Y:fo b s.heap l xs) (hm:fo c s.heap m M) (no:xs[k]?=none∨M[k]?=none)
  (q:∀h' e,(∀d o,d≠z->d≠U->d≠i->d≠j->s.heap.get? d=some o->h'.get? d=some o)->(∃o,h'.get? e=some o/\o.cls=.type "StopIteration")->E (.ref e) { s with heap:=h' }) :
  K5 (N3 prog w) A (L3.«zip.__next__» ⟨[.ref z],[]⟩) Q E s:=by
 show K5 _ _ (field (.ref z) 2 >>= _) _ _ _;refine o0 (T8 B rfl (x:=.bool false) rfl ?_);show K5 _ _ (field (.ref z) 3 >>= _) _ _ _;refine o0 (T8 B rfl (x:=.ref T) rfl (o0 (ae3 hT rfl ?_)));show K5 _ _ (Z5 (.ref z) >>= _) _ _ _;refine o0 ?_;unfold Z5;refine o0 (T8 B rfl (x:=.none) rfl (J1 ?_));simp only[if_true];refine o0 (ak0 (o0 (T8 B rfl (x:=.ref U) rfl ?_)));refine o0 (af5 B (by simp) fun g1 G a=>?_);replace G:av2 g1 z T U .ellipsis:=G;refine o0 ?_;simp only[List.zipIdx_cons,List.zipIdx_nil,am5,List.forIn_nil];refine o0 (o0 (as5 ?_));show K5 _ _ (S1 (.ref i) >>= _) _ _ _;cases J:xs[k]? with
 |none =>
  refine o0 (p9 hh (Z.go fun o e=>a.extBut _ _ D.i1z e) (Y.go fun o e=>a.extBut _ _ D.l1z e) J fun I e f N=>?_);obtain⟨O,g,C⟩:=N;have z2:av2 I z T U .ellipsis:=f _ _ D.i1z.symm G;have H:e≠z:=fun p=>by subst p;rw[z2]at g;cases g;simp at C
  exact af5 z2 (by simp) fun g3 _ h=>q g3 e (fun d o n _ L _ p=>h.extBut _ _ n (f _ _ L (a.extBut _ _ n p))) ⟨O,h.extBut _ _ H g,C⟩
 |some x =>
  have hy:M[k]?=none:=no.resolve_left (by rw[J];exact nofun);refine o0 (j3 (Z.go fun o e=>a.extBut _ _ D.i1z e) (Y.go fun o e=>a.extBut _ _ D.l1z e) J fun I i2 f=>J1 ?_);have S:al1 I U u v:=f.extBut _ _ D.TOi1 (a.extBut _ _ D.TOz hU);refine o0 (ae3 S rfl (o0 (wpAny_updateSeq_pair S fun g3 u3 h=>?_)));refine o0 (wpAny_letGo (J1 (o0 (o0 (as5 ?_)))));show K5 _ _ (S1 (.ref j) >>= _) _ _ _;refine o0 (p9 hh (hj.go fun o e=>h.extBut _ _ D.TOi2.symm (f.extBut _ _ D.i12.symm (a.extBut _ _ D.i2z e))) (hm.go fun o e=>h.extBut _ _ D.l2TO (f.extBut _ _ D.l2i1 (a.extBut _ _ D.l2z e))) hy fun g4 e R N=>?_);obtain⟨O,g,C⟩:=N;have X:av2 g4 z T U .ellipsis:=R _ _ D.i2z.symm (h.extBut _ _ D.TOz.symm (f.extBut _ _ D.i1z.symm G));have H:e≠z:=fun p=>by subst p;rw[X]at g;cases g;simp at C
  exact af5 X (by simp) fun g5 _ P=>q g5 e (fun d o n a2 L a4 p=>P.extBut _ _ n (R _ _ a4 (h.extBut _ _ a2 (f.extBut _ _ L (a.extBut _ _ n p))))) ⟨O,P.extBut _ _ H g,C⟩
theorem rV{z T U i j l m:K1}{k:Nat}{xs a:Array J3}{x y u v:J3}{Q:Option J3->J5->Prop}(D:aw0 z T U i j l m)
  (e:av2 s.heap z T U .none) (B:al1 s.heap T (.ref i) (.ref j)) (M:al1 s.heap U u v) (C:eN b s.heap i l k) (J:eN c s.heap j m k) (n:fo b s.heap l xs) (G:fo c s.heap m a) (N:xs[k]?=some x) (h:a[k]?=some y)
  (q:∀ h',av2 h' z T U (W5 s.heap.objs.size) → al1 h' U x y → eN b h' i l (k + 1) → eN c h' j m (k + 1) → al1 h' s.heap.objs.size x y → h'.objs.size = s.heap.objs.size + 1 →
   (∀d o,d≠z->d≠U->d≠i->d≠j->s.heap.get? d=some o->h'.get? d=some o)->Q (some (.ref s.heap.objs.size)) { s with heap:=h' }) :
  K5 (N3 prog w) A (ag3 (.ref z)) Q E s:=by
 have ty:s.TypeIs (.ref z) "zip":=⟨_,e,rfl⟩;unfold ag3;exact o0 (ac3 (P2 (name:=N1 "__next__") ty ap9 (O7 ap9 ty F.entry_zip_next
  (yp D e B M C J n G N h fun h' O g L H p I f=>J1 (q h' O g L H p I f)) (F.args_zip_next_1 _))))
theorem tY{z T U i j l m:K1}{k:Nat}{xs a:Array J3}{u v:J3}{Q:Option J3->J5->Prop}(g:A.handled=none) (D:aw0 z T U i j l m)
  (f:av2 s.heap z T U .none) (p:al1 s.heap T (.ref i) (.ref j)) (I:al1 s.heap U u v) (x:eN b s.heap i l k) (H:eN c s.heap j m k) (n:fo b s.heap l xs) (B:fo c s.heap m a) (no:xs[k]?=none∨a[k]?=none)
  (q:∀h',(∀d o,d≠z->d≠U->d≠i->d≠j->s.heap.get? d=some o->h'.get? d=some o)->Q none { s with heap:=h' }):K5 (N3 prog w) A (ag3 (.ref z)) Q E s:=by
 have ty:s.TypeIs (.ref z) "zip":=⟨_,f,rfl⟩;unfold ag3;refine o0 (ac3 (P2 (name:=N1 "__next__") ty ap9 (O7 ap9 ty F.entry_zip_next (zo g D f p I x H n B no fun h' e kp C=>?_) (F.args_zip_next_1 _))));obtain⟨o,h,G⟩:=C;exact o0 (ab1 (T:="StopIteration") (b:=true) ⟨o,h,G⟩ an9 (J1 (q _ kp)))
end
noncomputable abbrev itO(b:Bool) (l:K1):Obj:={ cls:=.type (itN b),data:=.fields #[.ref l,.int 0 0] }
noncomputable abbrev zp1(h:L5) (b:Bool) (l:K1):L5:=h.push (itO b l)
noncomputable abbrev zp2(h:L5) (b c:Bool) (l m:K1):L5:=(zp1 h b l).push (itO c m)
noncomputable abbrev zp3(h:L5) (b c:Bool) (l m:K1):L5:=(zp2 h b c l m).push { cls:=.type "tuple",data:=.seq #[.ref h.objs.size,.ref (zp1 h b l).objs.size] }
noncomputable abbrev zp4(h:L5) (b c:Bool) (l m:K1):L5:=(zp3 h b c l m).push { cls:=.type "tuple",data:=.seq #[.none,.none] }
noncomputable abbrev zp5(h:L5) (b c:Bool) (l m:K1):L5:=(zp4 h b c l m).push { cls:=.type "zip",data:=.fields #[.none,.bool false,.bool false,.ref (zp2 h b c l m).objs.size,.ref (zp3 h b c l m).objs.size] }
set_option maxHeartbeats 4000000 in
theorem vV(b c:Bool) (l m:K1) (xs j:Array J3) :
  Meets (L3.«zip.__new__» ⟨[.type "zip",.ref l,.ref m],[]⟩) (fun _ R s=>fo b s.heap l xs/\fo c s.heap m j/\R (.ok (.ret (.ref (zp4 s.heap b c l m).objs.size))) { s with heap:=zp5 s.heap b c l m }) :=
 .of_wp fun prog w A R s h=>by
  obtain⟨f,g,d,i,os⟩:=s;obtain⟨u,q,p⟩:=h;have x:=sub_zip;cases b with
  |true =>
   have n:at8 (an5 ⟨f,g,d,i,os⟩) l xs:=u;cases c with
   |true =>
    have a:at8 (an5 ⟨f.push { cls:=.type "tuple_iterator",data:=.fields #[.ref l,.int 0 0] },g,d,i,os⟩) m j:=fo.go (b:=true) q fun o e=>u8 _ e
    wp_walk using aa7 n,aa7 a
    exact⟨_,rfl,p⟩
   |false =>
    have a:L5.IsList (an5 ⟨f.push { cls:=.type "tuple_iterator",data:=.fields #[.ref l,.int 0 0] },g,d,i,os⟩) m j:=fo.go (b:=false) q fun o e=>u8 _ e
    wp_walk using aa7 n,X5 a
    exact⟨_,rfl,p⟩
  |false =>
   have n:L5.IsList (an5 ⟨f,g,d,i,os⟩) l xs:=u;cases c with
   |true =>
    have a:at8 (an5 ⟨f.push { cls:=.type "list_iterator",data:=.fields #[.ref l,.int 0 0] },g,d,i,os⟩) m j:=fo.go (b:=true) q fun o e=>u8 _ e
    wp_walk using X5 n,aa7 a
    exact⟨_,rfl,p⟩
   |false =>
    have a:L5.IsList (an5 ⟨f.push { cls:=.type "list_iterator",data:=.fields #[.ref l,.int 0 0] },g,d,i,os⟩) m j:=fo.go (b:=false) q fun o e=>u8 _ e
    wp_walk using X5 n,X5 a
    exact⟨_,rfl,p⟩
theorem yA{prog:M9}{w:P5}{A:O9}{E:J3->J5->Prop}{s:J5}{b c:Bool}{l m:K1}{xs n:Array J3}{Q:J3->J5->Prop}(C:fo b s.heap l xs) (z:fo c s.heap m n)
  (q:∀ h',av2 h' (s.heap.objs.size + 4) (s.heap.objs.size + 2) (s.heap.objs.size + 3) .none → al1 h' (s.heap.objs.size + 2) (.ref s.heap.objs.size) (.ref (s.heap.objs.size + 1)) →
   al1 h' (s.heap.objs.size+3) .none .none->eN b h' s.heap.objs.size l 0->eN c h' (s.heap.objs.size+1) m 0->h'.objs.size=s.heap.objs.size+5 ->
   (∀d o,s.heap.get? d=some o->h'.get? d=some o)->Q (.ref (s.heap.objs.size+4)) { s with heap:=h' }) :
  K5 (N3 prog w) A (aw9 (.type "zip") [.ref l,.ref m]) Q E s:=by
 refine callType_new F.called_zip (by decide) (F.typeCall_zip_2 _ _) (F.newCall_zip_2 _ _) (fun G=>F.args_object_init_3 G _ _) F.entry_zip_new (vV b c l m xs n) ⟨C,z,?_⟩;have e:(zp1 s.heap b l).objs.size=s.heap.objs.size+1:=R6 ..;have g:(zp2 s.heap b c l m).objs.size=s.heap.objs.size+2:=by rw[R6,e]
 have a:(zp3 s.heap b c l m).objs.size=s.heap.objs.size+3:=by rw[R6,g]
 have f:(zp4 s.heap b c l m).objs.size=s.heap.objs.size+4:=by rw[R6,a]
 have B:(zp5 s.heap b c l m).objs.size=s.heap.objs.size+5:=by rw[R6,f]
 have h:(zp5 s.heap b c l m).get? (zp4 s.heap b c l m).objs.size=some _:=J8 _ rfl;have u:(zp5 s.heap b c l m).get? (zp3 s.heap b c l m).objs.size=some _:=u8 _ (J8 _ rfl);have j:(zp5 s.heap b c l m).get? (zp2 s.heap b c l m).objs.size=some _:=u8 _ (u8 _ (J8 _ rfl));have i:(zp5 s.heap b c l m).get? (zp1 s.heap b l).objs.size=some _:=u8 _ (u8 _ (u8 _ (J8 _ rfl)));have x:(zp5 s.heap b c l m).get? s.heap.objs.size=some _:=u8 _ (u8 _ (u8 _ (u8 _ (J8 _ rfl))));show _/\_;rw[g,a,f]at h;rw[e,g]at j;rw[a]at u;rw[e]at i;rw[f];exact⟨⟨_,h,rfl⟩,q _ h j u ⟨_,x,rfl,rfl⟩ ⟨_,i,rfl,rfl⟩ B fun d o p=>u8 _ (u8 _ (u8 _ (u8 _ (u8 _ p))))⟩
section
variable{X:Cx}{y:List (K1×Obj)}{σ:St}{H:Hp}{s:J5}{h':L5}
theorem Inv.turnedF{t':Nat}{fp:List K1}(I:Inv X y σ H s) (k:∀b o,b∉fp->s.heap.get? b=some o->h'.get? b=some o) (f:∀b∈fp,dP X y H b):Inv X y σ H { s with heap:=h',toks:=t' }:=by
 have e:∀b u,H b=some u->b∉fp:=fun b u q z=>by rw[(f b z).1]at q;cases q
 refine I.step (g':=s.gens) (d':=s.drawn) (ch:=fp) (fun b x=>?_) (fun b o _ _ a q _=>k b o a q) (fun b o _ _ a q _=>⟨o.slots,k b o a q⟩) (fun _ _ _ _ n=>n)
  (fun b o a q=>⟨o,k b o a q⟩) (fun _ _ q=>q) (fun _ _ _ q=>q) (fun b G q=>⟨#[],by rw[q];simp⟩) (fun m j=>?_) (fun b u q=>?_) I.bare
 ·obtain⟨E,p,C,w,h,l⟩:=f b x;exact⟨w,p,h,l⟩
 ·obtain⟨o,i,B,A,r⟩:=j;exact⟨o,i,B,k _ o (fun z=>(f _ z).2.1 rfl) A,r⟩
 ·refine(I.hok b u q).stay (fun c v a g=>?_) (fun _ q=>q) fun _ _ q=>q;rcases a with z|z
  ·rw[z]at g ⊢;exact k _ _ (e b u q) g
  ·exact k c v (e c _ z) g
end
def SqB(b:Bool) (K:J4) (H:Hp) (a:K1) (xs:List V):Prop:=match b with
 |true=>SqT K H a xs
 |false=>SqL K H a xs
theorem Inv.sqB{X:Cx}{c:List (K1×Obj)}{σ:St}{H:Hp}{s:J5}{b:Bool}{a:K1}{xs:List V}(I:Inv X c σ H s) (h:SqB b X.K H a xs):∃its:List J3,ax xs its/\fo b s.heap a its.toArray:=by
 cases b with
 |true=>obtain⟨its,r,p,_⟩:=I.tuple h;exact⟨its,r,p⟩
 |false=>obtain⟨its,r,p,_⟩:=I.list h;exact⟨its,r,p.isList⟩
theorem Inv.sqB_inj{X:Cx}{e:List (K1×Obj)}{σ:St}{H:Hp}{s:J5}{b:Bool}{a:K1}{xs c:List V}(I:Inv X e σ H s) (h:SqB b X.K H a xs) (h':SqB b X.K H a c):xs=c:=by
 cases b with
 |true=>exact I.tuple_inj h h'
 |false=>exact I.list_inj h h'
noncomputable def Itz(K:J4) (b c:Bool) (l m:K1) (n:Nat):It :=
  ⟨fun i H=>(∃e a,SqB b K H l e/\SqB c K H m a/\min e.length a.length=n)/\i<n,
   fun i H x f=>∃T u v,x=.ref T/\H T=none/\f=upd H T (.tup [u,v])/\(∀e,SqB b K H l e->e[i]?=some u)/\∀a,SqB c K H m a->a[i]?=some v,
   fun i H=>(∃e a,SqB b K H l e/\SqB c K H m a/\min e.length a.length=n)/\n<=i⟩
theorem Az{P:M9}{w:P5}{K:J4}{Q:List O4}{x1:Nat}{pt:Pos}(b c:Bool) (l m z T U g f:K1) (n:Nat):lZ P w K (.Tuple Q x1 pt) (Itz K b c l m n) [z,T,U,g,f] z
  (fun i h=>av2 h z T U .none/\al1 h T (.ref g) (.ref f)/\(∃u v,al1 h U u v)/\eN b h g l i/\eN c h f m i/\aw0 z T U g f l m/\i<=n) where
 mem:=by simp
 obj:=fun i h st d a=>by
  obtain⟨C,j,⟨u,v,L⟩,⟨o4,G,_,d4⟩,⟨o5,J,_,d5⟩,_⟩:=st;simp only[L1,R4,or_false]at a;rcases a with rfl|rfl|rfl|rfl|rfl
  ·exact⟨_,C,fun v y=>by cases y⟩
  ·exact⟨_,j,fun v y=>by cases y⟩
  ·exact⟨_,L,fun v y=>by cases y⟩
  ·exact⟨o4,G,fun v y=>by rw[d4]at y;cases y⟩
  ·exact⟨o5,J,fun v y=>by rw[d5]at y;cases y⟩
 keep:=fun i h h' st k=>by
  obtain⟨C,j,⟨u,v,L⟩,G,J,a6,a7⟩:=st;exact⟨k z (by simp) _ C,k T (by simp) _ j,⟨u,v,k U (by simp) _ L⟩,G.go fun o e=>k g (by simp) o e,J.go fun o e=>k f (by simp) o e,a6,a7⟩
 item:=by
  intro X hP hw hK hc i ae s σ H E I hf st hg;subst hP hw hK;obtain⟨⟨Z,R,hq,A,O⟩,Y⟩:=hg;obtain⟨C,j,⟨u0,v0,L⟩,G,J,D,le⟩:=st;obtain⟨its,rv,p⟩:=I.sqB hq;obtain⟨N,B,p2⟩:=I.sqB A;have l1:=rv.length;have l2:=B.length;have hx:Z[i]?=some (Z[i]'(by lia)):=by simp
  have hy:R[i]?=some (R[i]'(by lia)):=by simp
  generalize Z[i]'(by lia)=x at hx;generalize R[i]'(by lia)=y at hy;obtain⟨u,hu,ru⟩:=rv.get hx;obtain⟨v,hv,a0⟩:=B.get hy;refine rV D C j L G J p p2 (by simpa using hu) (by simpa using hv) fun h1 b1 b2 b3 b4 b5 b6 kp=>?_;refine⟨_,rfl,?_⟩;have In:H s.heap.objs.size=none:=I.hok.fresh (J7 _);have lt:∀{d o},s.heap.get? d=some o->d≠s.heap.objs.size:=fun e=>K9 (K6 e);have n1:=lt C;have n2:=lt j;have n3:=lt L;have n4:g≠s.heap.objs.size:=by obtain⟨o,e,_⟩:=G;exact lt e
  have n5:f≠s.heap.objs.size:=by obtain⟨o,e,_⟩:=J;exact lt e
  have ne:∀d∈[z,T,U,g,f],d≠s.heap.objs.size:=fun d a=>by
   simp only[L1,R4,or_false]at a;rcases a with rfl|rfl|rfl|rfl|rfl<;>assumption
  have I1:Inv X ae σ (upd H s.heap.objs.size (.tup [x,y])) { s with heap:=s.heap.push { cls:=.type "tuple",data:=.seq #[u,v] },toks:=s.toks } :=
   I.laid (fun b o q=>u8 _ q) (J7 _) ⟨by simp only[M8,ap6];rw[aa3];decide,[u,v],.cons ru (.cons a0 .nil),lq.new _ _⟩
  have f1:∀d∈[z,T,U,g,f],dP X ae (upd H s.heap.objs.size (.tup [x,y])) d:=fun d a=>(hf d a).upd (ne d a);have I2:Inv X ae σ (upd H s.heap.objs.size (.tup [x,y])) { s with heap:=h1,toks:=s.toks }:=I1.turnedF (t':=s.toks) (fun d o a q=>by
   simp only[L1,R4,or_false,not_or]at a
   by_cases hs:d=s.heap.objs.size
   ·subst hs;rw[J8 s.heap rfl]at q;cases q;exact b5
   ·refine kp d o a.1 a.2.2.1 a.2.2.2.1 a.2.2.2.2 ?_;rcases L5.get?_push_cases q with y|y
    ·exact absurd y.1 hs
    ·exact y) f1
  refine wpAny_letOwnedTupleGo_zip b1 fun h2 c1 S=>?_;have I3:=I2.turnedF (t':=s.toks) (h':=h2) (fp:=[z,T,U,g,f]) (fun d o a q=>(S.2 d (fun e=>a (by simp[e]))).trans q) f1;refine⟨.ref s.heap.objs.size,_,I3,rfl,⟨_,x,y,rfl,In,rfl,fun zs M=>by rw[I.sqB_inj M hq];exact hx,fun zs M=>by rw[I.sqB_inj M A];exact hy⟩,⟨c1,?_,⟨u,v,(S.2 U D.TOz).trans b2⟩,b3.go fun o e=>(S.2 g D.i1z).trans e,b4.go fun o e=>(S.2 f D.i2z).trans e,D,Y⟩,fun d a=>(f1 d a).1⟩;exact(S.2 T D.TIz).trans (kp T _ D.TIz D.TITO D.TIi1 D.TIi2 j)
 done:=by
  intro X hP hw hK hc i ae s σ H E I hf st hg;subst hP hw hK;obtain⟨⟨Z,R,hq,A,O⟩,Y⟩:=hg;obtain⟨C,j,⟨u0,v0,L⟩,G,J,D,le⟩:=st;obtain⟨its,rv,p⟩:=I.sqB hq;obtain⟨N,B,p2⟩:=I.sqB A;have l1:=rv.length;have l2:=B.length;refine tY (I.ok.hd hc) D C j L G J p p2 ?_ fun h' kp=>⟨rfl,I.turnedF (t':=s.toks) (fp:=[z,T,U,g,f]) (fun d o a q=>?_) hf⟩
  ·rcases Nat.le_total Z.length R.length with h|h
   ·left;simp;lia
   ·right;simp;lia
  ·simp only[L1,R4,or_false,not_or]at a;exact kp d o a.1 a.2.2.1 a.2.2.2.1 a.2.2.2.2 q
 self:=fun _ _ _ _ _ st h=>wpAny_pyIter_zip st.1 h
noncomputable def Av:D->Option (Bool×List D)
 |.tup a=>some (true,a)
 |.lst a=>some (false,a)
 |_=>none
noncomputable def lg:List D->List D->List D
 |a::c,b::bs=>.tup [a,b]::lg c bs
 |_,_=>[]
theorem uq:∀(c bs:List D) (i:Nat),(lg c bs)[i]?=match c[i]?,bs[i]? with|some a,some b=>some (.tup [a,b])|_,_=>none
 |[],bs,i=>by simp[lg]
 |a::c,[],i=>by
  simp only[lg,List.getElem?_nil];cases(a::c)[i]?<;>rfl
 |a::c,b::bs,0=>by simp[lg]
 |a::c,b::bs,i+1=>by simp only[lg,U4];exact uq c bs i
theorem sA:∀(c bs:List D),(lg c bs).length=min c.length bs.length
 |[],bs=>by simp[lg]
 |a::c,[]=>by simp[lg]
 |a::c,b::bs=>by simp only[lg,M8,sA c bs];lia
def Ea(e:TAd):TId:=fun g M R=>e g M fun f M1=>∃x y b c a fs,f=[x,y]/\Av x=some (b,a)/\Av y=some (c,fs)/\R (lg a fs) M1
theorem Bo:ac5 "zip"=some (.type "zip"):=by kernel_rfl
theorem sx{K:J4}{M:DH}{H:Hp}{x:D}{b:Bool}{j:List D}{v:V}(h:Av x=some (b,j)) (r:Rep K M H x v):∃a c,v=.ref a/\am K M H j c/\SqB b K H a c/\∀i f,Ext M H i f->SqB b K f a c/\am K i f j c:=by
 cases x with
 |tup l =>
  cases h;simp only[Rep]at r;obtain⟨a,c,rfl,t,g⟩:=r;exact⟨a,c,rfl,g,t.sq,fun i f e=>⟨(t.ext e).sq,g.ext e⟩⟩
 |lst l =>
  cases h;simp only[Rep]at r;obtain⟨a,c,rfl,t,g⟩:=r;exact⟨a,c,rfl,g,SqL.of t.1,fun i f e=>⟨SqL.of (t.ext e).1,g.ext e⟩⟩
 |_=>cases h
section
variable{X:Cx}{N B:O4}{t:TAd}{z:Pos}
theorem Gi{G:List O4}{x1:Nat}{pt p:Pos}(hg:Gl X "zip") (hm:X.mg "zip"=none) (ha:QAd X [N,B] t) (hs:autoParam (K8 [N,B] X.env=(false,af7 N X.env)::K8 [B] X.env) L2.zq0._auto_1) (hpl:autoParam ((aa2 z (K8 [B] X.env)).any (·.1)=false) L2.zq0._auto_1):QId X (.Tuple G x1 pt) (.Call (.Name "zip" p) [N,B] [] z) (Ea t):=by
 simp only[QAd.eq,QId.eq]at *
 intro ae s σ H R I hh;obtain⟨Δ,M,R',sr,hr,q,k⟩:=hh;refine Call_ (cO I hg hm Bo (S2 (thn (ha z ae s σ H (fun C j=>∃x y b c w fs M1,Av x=some (b,w)/\Av y=some (c,fs)/\am X.K M1 j [x,y] C/\R' (lg w fs) M1/\Ext M H M1 j/\HR X.K M1 j) I ⟨Δ,M,_,sr,hr,q,fun ds M1 C j z102z e1 E Z=>by obtain⟨x,y,b,c,w,fs,ed,ex,ey,q1⟩:=z102z;exact ⟨x,y,b,c,w,fs,M1,ex,ey,by rw[<-ed];exact Z,q1,e1,E⟩⟩) fun us n z103z=>?_) hs hpl));obtain⟨C,j,Q,J,x,y,b,c,w,fs,M1,ex,ey,Z,q1,e1,E⟩:=z103z;obtain⟨S,O,rfl,rx,ry⟩:∃S O,C=[S,O]/\Rep X.K M1 j x S/\Rep X.K M1 j y O:=by
  simp only[am]at Z;obtain⟨S,U,rfl,h1,O,a6,rfl,h2,rfl⟩:=Z;exact⟨S,O,rfl,h1,h2⟩
 obtain⟨l,C,rfl,rl,sl,kl⟩:=sx ex rx;obtain⟨m,U,rfl,rm,sm,Y⟩:=sx ey ry;obtain⟨u1,u2,rfl,w1,w2⟩:∃u1 u2,us=[u1,u2]/\aF (.ref l) u1/\aF (.ref m) u2:=by
  cases J with
  |cons p1 J =>
   cases J with
   |cons p2 J =>
    cases J;exact⟨_,_,rfl,p1,p2⟩
 cases w1;cases w2;obtain⟨its,a7,pl⟩:=Q.sqB sl;obtain⟨a4,a5,pm⟩:=Q.sqB sm;have ll:l<n.heap.objs.size:=by obtain⟨o,e,_⟩:=pl;exact K6 e
 have lm:m<n.heap.objs.size:=by obtain⟨o,e,_⟩:=pm;exact K6 e
 refine yA pl pm fun h' c1 c2 c3 c4 c5 c6 kp=>?_;refine wpAny_pyIter_zip c1 ?_;have DA:aw0 (n.heap.objs.size+4) (n.heap.objs.size+2) (n.heap.objs.size+3) n.heap.objs.size (n.heap.objs.size+1) l m:=zipApart_new ll lm;refine⟨_,[_,_,_,_,_],_,_,j,rfl,Q.kept (t':=n.toks) kp,Az b c l m _ _ _ _ _ (min w.length fs.length),⟨c1,c2,⟨_,_,c3⟩,c4,c5,DA,P1 _⟩,fun d g=>?_,?_⟩
 ·have L:n.heap.objs.size<=d:=by
   simp only[L1,R4,or_false]at g;rcases g with rfl|rfl|rfl|rfl|rfl
   ·exact af1 _ _
   ·exact af1 _ _
   ·exact af1 _ _
   ·exact J7 _
   ·exact af1 _ _
  exact Q.fpOk L (Q.hok.fresh L)
 ·have h1:=rl.length;have h2:=rm.length;refine k _ M1 _ j q1 e1 E fun M2 H2 A a i=>⟨fun d g=>?_,fun hl=>⟨⟨C,U,(kl _ _ A).1,(Y _ _ A).1,by lia⟩,by rw[sA]at hl;exact hl⟩⟩;rw[uq]at g;cases f:w[i]? with
  |none=>rw[f]at g;cases g
  |some d1 =>
   cases h:fs[i]? with
   |none=>rw[f,h]at g;cases g
   |some d2 =>
    rw[f,h]at g;have a3:D.tup [d1,d2]=d:=by simpa using g
    subst a3;have hi:i<w.length:=(L6.mp f).1;have a8:i<fs.length:=(L6.mp h).1;obtain⟨g1,gv,g2⟩:=(kl _ _ A).2.get f;obtain⟨g3,gw,g4⟩:=(Y _ _ A).2.get h;refine⟨⟨⟨C,U,(kl _ _ A).1,(Y _ _ A).1,by lia⟩,by lia⟩,fun x' H' z104z=>?_⟩;obtain⟨T,u,v,a2,P,eH,a0,a1⟩:=z104z;subst a2;subst eH;have z1:=a0 C (kl _ _ A).1;have z2:=a1 U (Y _ _ A).1;rw[gv]at z1;cases z1;rw[gw]at z2;cases z2;refine⟨Ext.new a P,a.new P,?_⟩;simp only[Rep];refine⟨T,[g1,g3],rfl,.inl ⟨.inl aK,a.fresh P⟩,?_⟩;exact am.cons (g2.ext (Ext.new a P)) (am.cons (g4.ext (Ext.new a P)) am.nil)
end
section
variable{X:Cx}{y:ai7}{B:List (Str×K1)}{aq:List Str}{H:O4}{z:Pos}
end
section
variable{K:J4}{M:DH}{H:Hp}
theorem AE{κ:Type}:∀{ks:List κ}{ds:List D}{a:List V},ks.length=a.length->am K M H ds a->KR K M H (ks.zip ds) (ks.zip a)
 |[],_,_,_,_=>by simp only[List.zip_nil_left];exact .nil
 |k::ks,ds,a,c,h=>by
  cases a with
  |nil=>cases c
  |cons v a =>
   cases ds with
   |nil=>have:=h.length;cases this
   |cons d ds =>
    simp only[am]at h;obtain⟨_,_,e,g,f⟩:=h;cases e;exact .cons ⟨rfl,g⟩ (AE (aq7 c) f)
noncomputable def asK(M:DH):D->Option (List (Key×D))
 |.ref a=>match M a with|some (.dK c)=>some c|_=>none
 |.box (.dk e) f=>some (e.zip f)
 |_=>none
theorem Cn{x:D}{v:V}{c:List (Key×D)}(hr:HR K M H) (h:Rep K M H x v) (e:asK M x=some c):∃a ks,v=.ref a/\Rd H a (.dK ks)/\KR K M H c ks:=by
 cases x with
 |ref a =>
  simp only[asK]at e;simp only[Rep]at h
  split at e
  ·rename_i q;cases e;obtain⟨ks,j,g⟩:=hr a _ q;exact⟨a,ks,h,.inl j,g⟩
  ·cases e
 |box t l =>
  cases t with
  |dk ks =>
   cases e;simp only[Rep,pZ]at h;obtain⟨a,m,e,⟨f,⟨o,r⟩,_⟩,i⟩:=h;exact⟨a,_,e,.inr ⟨o,r⟩,AE f i⟩
  |_=>cases e
 |_=>cases e
theorem v4{a:K1}{c:List (Key×D)}(h:M a=some (.dK c)):asK M (.ref a)=some c:=by simp only[asK,h]
end
section
variable{X:Cx}{e i o:O4}{I:List O4}{te z B:TEd}{t:TAd}{H:Pos}
def DU(B z:TEd):TEd:=fun c M Q=>B c M fun x M1=>z c M1 fun y M2=>∃a k d,asK M2 x=some a/\y=kD k/\cR a k=some d/\Q d M2
end
noncomputable def zO(f:Str) (d:D):List (Str×D)->List (Str×D)
 |[]=>[(f,d)]
 |(g,x)::r=>if g=f then(g,d)::r else(g,x)::zO f d r
section
variable{K:J4}{M:DH}{H:Hp}
theorem KR.putF{f:Str}{d:D}{v:V}(c:Rep K M H d v):∀{fs:List (Str×D)}{a:List (Str×V)},KR K M H fs a->KR K M H (zO f d fs) (L2.putF f v a):=by
 intro fs a h;unfold KR at h ⊢
 induction h with
 |nil=>exact .cons ⟨rfl,c⟩ .nil
 |@cons p q l i r t ih =>
  obtain⟨g,x⟩:=p;obtain⟨j,y⟩:=q;obtain⟨rfl,e⟩:=r;simp only[zO,L2.putF]
  split
  ·exact .cons ⟨rfl,c⟩ t
  ·exact .cons ⟨rfl,e⟩ ih
theorem KR.look{f:Str}{d:D}:∀{fs:List (Str×D)}{a:List (Str×V)},KR K M H fs a->fs.lookup f=some d->∃v,a.lookup f=some v/\Rep K M H d v:=by
 intro fs a h;unfold KR at h
 induction h with
 |nil=>intro e;cases e
 |@cons p q l j r t ih =>
  obtain⟨g,x⟩:=p;obtain⟨i,y⟩:=q;obtain⟨rfl,c⟩:=r;intro e;simp only[S6]at e ⊢
  split at e
  ·cases e;exact⟨y,rfl,c⟩
  ·exact ih e
end
section
variable{X:Cx}{e o:O4}{N:List O4}{te B:TEd}{t:TAd}{I p H:Pos}{f x:Str}{C:K1}
def Im(C:K1) (f:Str) (te:TEd):TEd:=fun c M Q=>te c M fun d M1=>∃a fs z,d=.ref a/\M1 a=some (.ins C fs)/\fs.lookup f=some z/\Q z M1
def DG(C:K1) (f:Str) (B te:TEd):TSd:=fun E c M=>te c M fun y M1=>B c M1 fun d M2=>∃a fs,d=.ref a/\M2 a=some (.ins C fs)/\fs.length<1000/\E.nx c (aN M2 a (.ins C (zO f y fs)))
structure MkD(P:M9) (w:P5) (K:J4) (mg:Str->Option J3) (base:L5) (x:Str) (C:K1) (k n:Nat) (S:SpD):Prop where
 ex:∃(f:K1) (fd:N2) (ps:List Str),Mk K C f/\aR P w K mg base CX0 k f fd ps (spD K n S)/\mg x=some (.ref C)/\dN K fd ps []
def DZ(C:K1) (n:Nat) (S:SpD) (t:TAd):TEd:=fun c M Q=>t c M fun a M1=>a.length+1=n/\∀x,M1 x=none->S (.ref x::a) (aN M1 x (.ins C [])) fun d M2=>d=.non/\Q (.ref x) M2
end
section
variable{X:Cx}{e:O4}{te:TEd}
theorem pV{κ a:Type}:∀l:List (κ×a),(l.map (·.1)).zip (l.map (·.2))=l
 |[]=>rfl
 |p::l=>by rw[L7,L7,List.zip_cons_cons,pV l]
noncomputable def JF(a:List (Key×D)):D:=.box (.dk (a.map (·.1))) (a.map (·.2))
theorem mX{M1:DH}{e:Hp}{a:K1}{u:HD}{o:HO}(f:M1 a=some u):Ext M1 e (jO M1 a) (upd e a o):=fun b w z n=>by
 have c:b≠a:=fun w=>by rw[w,f]at n;cases n
 rw[aO c,wV c];exact⟨z,n⟩
theorem FN{K:J4}{M1:DH}{e:Hp}{a:K1}{u:HD}{o:HO}(hr:HR K M1 e) (f:M1 a=some u):HR K (jO M1 a) (upd e a o):=fun b w z=>by
 have c:b≠a:=fun w=>by rw[w,iZ]at z;cases z
 rw[wV c]at z;exact(hr b w z).keep (mX f) (aO c)
end
section
variable{X:Cx}{e i o l:O4}{N:List O4}{te Y W:TEd}{t:TAd}{B p I e9 cg:Pos}{f x:Str}{C:K1}{Z:List O4}{x1:Nat}{pt:Pos}
theorem zF(G:X.A.units+1<Z4) (U:QEd X o W) (P:QEd X i Y) (hs:A3 i):QEd X (.Subscript o i B) (DU W Y):=by
 simp only[QEd.eq]at *
 exact PE.conv (CT G U P hs) fun σ H Q f=>f.el fun m M R n S q k=>⟨m,M,_,n,S,q,fun x M1 v H1 N l g Z=>⟨m,M1,_,n.ext l,g,N,fun y M2 u I z105z j c O=>by
   obtain⟨z,h,d,p,s,T,A⟩:=z105z
   subst s;obtain⟨a,C,rfl,J,E⟩:=Cn c (Z.ext j) p;obtain⟨w,L,e⟩:=(E.val h).1 d T;exact⟨a,w,rfl,.inl ⟨C,h,J,ma O,L.symm⟩,k d M2 w I A (l.trans j) c e⟩⟩⟩
theorem mm(c:Cls X.K C) (n:dU X.K C f) (he:QEd X e te) (G:autoParam (aj9 e f X.env (af7 e X.env)=af7 e X.env) L2.zq0._auto_1):QEd X (.Attribute e f B) (Im C f te):=by
 simp only[QEd.eq]at *
 exact PE.conv (FQ he G) fun O H Q i=>i.el fun I M R N A q k=>⟨I,M,_,N,A,q,fun d M1 v J z106z s g j=>by
   obtain⟨a,fs,z,E,L,el,x⟩:=z106z
   subst E;simp only[Rep]at j;subst j;obtain⟨l,⟨m,p⟩,o⟩:=g a _ L;obtain⟨w,u,h⟩:=o.look el;exact⟨a,C,m,l,w,rfl,p,c,n,u,k z M1 w J x s g h⟩⟩
theorem qP(c:Cls X.K C) (n:dU X.K C f) (Q:QEd X o W) (he:QEd X e te) (hs:autoParam (ak9 e (some (.Attribute o f I)) B.line X.env=ak7 false) L2.zq0._auto_1):QSd X (.Assign [.Attribute o f I] e B) (DG C f W te):=by
 simp only[QEd.eq,QSd.eq]at *
 exact PS.conv (FK Q he hs) fun D R H p=>p.el fun w M E l S q k=>⟨w,M,_,l,S,q,fun y M1 v Y O j s U=>⟨w,M1,_,l.ext j,s,O,fun d M2 u A z107z m g G=>by
   obtain⟨a,fs,T,J,P,L⟩:=z107z
   subst T;simp only[Rep]at G;subst G;obtain⟨x,⟨i,N⟩,z⟩:=g a _ J;have h:Ext M2 A (aN M2 a (.ins C (zO f y fs))) (upd A a (.ins C i (L2.putF f v x))):=Ext.write J;refine⟨a,C,i,x,rfl,N,c,n,by rw[<-z.length];exact P,?_⟩;exact k.nx w _ R _ L ((j.trans m).trans h) (g.put h ⟨_,⟨i,aK⟩,(KR.putF (U.ext m) z).ext h⟩) (((l.ext j).ext m).ext h)⟩⟩
theorem Fc{k n:Nat}{S:SpD}(F:MkD X.prog X.w X.K X.mg X.base x C k n S) (hr:cv (k+1) X.A) (hg:Gl X x) (ha:QAd X (e::N) t) (hdb:autoParam ((x==("__debug__":Str))=false) L2.zq1._auto_1)
  (he:autoParam (K8 (e::N) X.env=(false,af7 e X.env)::K8 N X.env) L2.zq0._auto_1) (hpl:autoParam ((aa2 B (K8 N X.env)).any (·.1)=false) L2.zq0._auto_1):QEd X (.Call (.Name x p) (e::N) [] B) (DZ C n S t):=by
 simp only[QEd.eq,QAd.eq]at *
 obtain⟨f,fd,ps,P,O,G,Z⟩:=F.ex;refine PE.conv (BO P O hr hg G Z .nil yV ha hdb he hpl) fun σ H Q m=>m.el fun Δ M R sr hr q k=>⟨Δ,M,_,sr,hr,q,fun ds M1 vs i z108z T c rv=>?_⟩;obtain⟨Y,U⟩:=z108z;intro a g A j s;rw[ag7];have l:upd i g (.own a) a=none:=by rw[aO (ab6 s)];exact A
 have z:Ext M1 i M1 (upd i g (.own a)):=Ext.new c j;have ra:=c.new (o:=.own a) j;have u:Ext M1 (upd i g (.own a)) (aN M1 a (.ins C [])) (upd (upd i g (.own a)) a (.ins C g [])):=Ext.own l;have rb:=ra.put u ⟨[],⟨g,aK⟩,.nil⟩;refine⟨.ref a::ds,_,_,by rw[M8];exact Y,am.cons (by simp only[Rep]) ((rv.ext z).ext u),rb,U a (c.fresh A),fun d L v J ⟨ed,I⟩ E w h=>?_⟩;subst ed;simp only[Rep]at h;exact⟨h,k _ L _ J I (((T.trans z).trans u).trans E) w (by simp only[Rep])⟩
end
section
variable{X:Cx}{a b c e o i:O4}{B:List O4}{te H I N W:TEd}{t:TAd}{z:Pos}{Y y:O4}
end
noncomputable def HV:D->Option D
 |.box (.dk a) _=>some (.lst (a.map kD))
 |_=>none
theorem CG{a:List (Key×D)}:HV (JF a)=some (.lst (a.map fun p=>kD p.1)):=by
 show some (D.lst ((a.map (·.1)).map kD))=_;rw[M0];rfl
noncomputable def G6(s:ae4) (i:Nat):ae4:=match s with
 |.ClassDef _ _ _ b _ _ _ _ _ _ _=>b.getD i (.Pass ⟨0,0,0,0⟩)
 |_=>.Pass ⟨0,0,0,0⟩
noncomputable def Hh:D->Option D
 |.int i=>some (.int i)
 |.bl k=>some (.int (if k then 1 else 0))
 |_=>none
theorem F8{k:Bool}:Hh (.bl k)=some (.int (if k then 1 else 0)):=rfl
theorem Ih{X:Cx}:bD X (.type "int") (nW Hh):=bD.of xH fun H M g j h Q c f e q=>by
 obtain⟨d,rfl,a⟩:=cw e;clear e;obtain⟨v,rfl,r⟩:=kW f;cases d with
 |int i=>cases a;rw[fX r];exact .inl ⟨i,rfl,q _ H (Ext.refl _ _) c (by simp[Rep])⟩
 |bl k=>cases a;rw[rBl r];exact .inr ⟨k,rfl,q _ H (Ext.refl _ _) c (by simp[Rep])⟩
 |_=>cases a
section
variable{X:Cx}
end
section
variable{X:Cx}{e:O4}{t:TEd}
end
section
variable{P:M9}{w:P5}{K:J4}{h base:L5}{H:Str->Option J3}{x y:Str}{st:ae4}{f:K1}{z:N2}{k:Nat}{S:SpD}
structure bf(K:J4) (x:Str) (st:ae4) (f:K1) (z:N2):Prop where
 a:O3 K L9 x=some (some (.ref f))
 F:Fun K x x st f z
theorem Ip{m:J3}{n j:Option K1}{h:Array (Option J3)}{kV g i e ct:J3}(a:O3 K L9 x=some (some (.ref f))) (l:K.lookup f=some ⟨m,n,.func (ah3 x x (gp st) (dE st) (ai st) .none kV g i j e ct),h⟩)
  (c:al0 K e x=true) (k:ab9 K (.ref f)=true):bf K x st f (ah3 x x (gp st) (dE st) (ai st) .none kV g i j e ct):=⟨a,zg l c k⟩
theorem usS{p:List J3->Prop}{n:Nat}(h:∀a us,us.length=n->p (a::us)):∀us:List J3,us.length=n+1->p us:=by
 intro us e;cases us with
 |nil=>cases e
 |cons a us=>exact h a us (aq7 e)
theorem us0{p:List J3->Prop}(h:p []):∀us:List J3,us.length=0->p us:=by
 intro us e;cases us with
 |nil=>exact h
 |cons a us=>cases e
def Bd(x y:Str) (st:ae4) (ps:List Str) (us:List J3):Prop:=∀(kV c f:J3) (g:Option K1) (a e:J3),bindArgs (ah3 x y (gp st) (dE st) (ai st) .none kV c f g a e) ⟨us,[]⟩=ak7 (ps.zip us)
theorem xw{ps:List Str}(F:Fun K x y st f z) (b:∀us:List J3,us.length=ps.length->Bd x y st ps us):dN K z ps []:=F.binds fun kV c h i a e us g=>b us g kV c h i a e
variable{B I N W Y:Str}
theorem bd1(F:Fun K x y st f z) (b:∀a,Bd x y st [B] [a]):dN K z [B] []:=xw F (usS fun a=>us0 (b a))
theorem bd2(F:Fun K x y st f z) (b:∀a c,Bd x y st [B,I] [a,c]):dN K z [B,I] []:=xw F (usS fun a=>usS fun c=>us0 (b a c))
theorem bd3(F:Fun K x y st f z) (b:∀a c d,Bd x y st [B,I,N] [a,c,d]):dN K z [B,I,N] []:=xw F (usS fun a=>usS fun c=>usS fun d=>us0 (b a c d))
theorem bd4(F:Fun K x y st f z) (b:∀a c d e,Bd x y st [B,I,N,W] [a,c,d,e]):dN K z [B,I,N,W] []:=xw F (usS fun a=>usS fun c=>usS fun d=>usS fun e=>us0 (b a c d e))
theorem fg{ps:List Str}{n:Nat}(X:K.In h) (G:h.Ns L9 H) (i:bf K x st f z) (o:aR P w K H base CX0 k f z ps (spD K n S)) (b:dN K z ps []):FnD P w K H base x k n S:=⟨_,_,_,o,U9 X G i.a,i.F.kp,b⟩
theorem Fx{l:K1}{sp:Sp}{m:M9}(X:K.In h) (G:h.Ns L9 H) (g:H "law"=some (.ref l)) (i:bf K "law" st f z) (b:∀a,Bd "law" "law" st [B] [a]) (o:∀base:L5,aR m w K H base CX0 k f z [B] sp) :
  ∃z:N2,(∀(s:J5) (v:J3),aw1 s z ⟨[v],[]⟩ [(B,v)])/\∀base:L5,K.In base->base.Ns L9 H->aR m w K H base CX0 k l z [B] sp:=by
 have e:=g.symm.trans (U9 X G i.a);cases e;refine⟨z,fun s v=>?_,fun base _ _=>o base⟩;obtain⟨A,C,kV,j,q,x,c,n,p,rfl,E,u⟩:=i.F.ex;exact .of_eq (b v kV j q x c n)
end
theorem qK:av7 table "dict.update.loop"=some L3.«dict.update.loop»:=entryFor_of_tree (by kernel_rfl)
theorem jb:plainId "dict.update.loop"=true:=by decide +kernel
section
variable{prog:M9}{w:P5}{A:O9}{E:J3->J5->Prop}{s:J5}
theorem vL{b:K1}{x y:J3}{Q:List J3->J5->Prop}(e:aj8 s.heap b #[x,y]) (h:Q [x,y] s):K5 (N3 prog w) A (L3.Dict.pairItems (.ref b)) Q E s:=by
 obtain⟨o,a,f,n,c⟩:=e;unfold L3.Dict.pairItems;refine o0 (ah4 (T:="tuple") ⟨o,a,f⟩ ?_);rw[if_pos (by decide)];refine o0 (ae3 a c ?_);exact J1 h
variable{K:Type} [DecidableEq K] {knd:KeyKind prog w K}{R:at6->J5->Prop}{I:K1}{fp z:List K1}{G:Array ar6->Array ar6->Prop}{n:Nat}{P:Nat->J3->Prop}{St:Nat->J5->Prop}
noncomputable def vg(its:Array J3) (i:Nat):K1:=match its[i]? with|some (.ref b)=>b|_=>0
end
theorem nbh{op:am8}{b:O4}(h:autoParam (op≠.In) L2.zq1._auto_1) (a:autoParam (op≠.NotIn) L2.zq1._auto_1):X1 op b=false:=AX b h a
theorem fsc{N P:List Str}{h:ai7}(a:autoParam (h.kind=.function) L2.zq5._auto_1) (b:autoParam (h.isCoroutine=false) L2.zq5._auto_1) (c:autoParam (h.isGenerator=false) L2.zq5._auto_1) (d:N.Nodup:=by decide +kernel) (e:autoParam (N.take P.length=P) L2.zq5._auto_1)
  (f:∀x∈P,h.names.lookup x=some .local∨h.names.lookup x=some .cell:=by decide +kernel) (g:∀y∈h.names,y.2≠.free:=by decide +kernel):au N P h:=⟨a,b,c,d,e,f,g⟩
section
variable{X:Cx}{e:O4}{y:List O4}{t:TAd}{z p:Pos}{x:Str}{j k n:Nat}{S:SpD}
theorem qd(F:FnD X.prog X.w X.K X.mg X.base x j n S) (hr:cv k X.A) (ha:QAd X (e::y) t) (h:autoParam (j<=k) L2.zq1._auto_1) (hg:autoParam (Gl X x) L2.zq5._auto_1) (hdb:autoParam ((x==("__debug__":Str))=false) L2.zq1._auto_1) (he:autoParam (K8 (e::y) X.env=(false,af7 e X.env)::K8 y X.env) L2.zq0._auto_1) (hpl:autoParam ((aa2 z (K8 y X.env)).any (·.1)=false) L2.zq0._auto_1) :
  QEd X (.Call (.Name x p) (e::y) [] z) (su n S t):=qc F (hr.mono h) hg ha hdb he hpl
end
section
variable{prog:M9}{w:P5}{A:O9}{E:J3->J5->Prop}{s:J5}
noncomputable def byT(w:P5):Bool:=w.params.followText "set-order"
end
section
variable{prog:M9}{w:P5}{A:O9}{E:J3->J5->Prop}{s:J5}
noncomputable abbrev gR(w:P5):Obj:={ cls:=.type "set",dict:=none,data:=.set #[] 0 (.fresh 0 0 (!byT w)) }
theorem tE(a:J3) {Q₁:J3->J5->Prop}(h:Q₁ (.ref s.heap.objs.size) { s with heap:=s.heap.push (gR w) }) :
  ak4 (N3 prog w) A (.call (.builtin "set.__new__") ⟨[.type "set",a],[]⟩) (wants Q₁ E) s:=by
 refine codeAny_of_tree ?_;show K5 _ A.in1 (do checkBuiltinCall "set.__new__" ⟨[.type "set",a],[]⟩;again (.builtin "set.__new__" ⟨[.type "set",a],[]⟩)) _ _ s;refine o0 (ad6 (PySem.F.newCall_set_1 a) (J1 ⟨ai2 PySem.F.plain_set_new _,Z1 PySem.F.entry_set_new ?_⟩));rw[W3 PySem.F.plain_set_new _];unfold L3.«set.__new__» L3.Frozenset.newClass;have c:=sub_set_self;obtain⟨e,g,d,f,os⟩:=s;dsimp only
 wp_walk
 refine wpAny_askSetting (J1 ?_);dsimp only;simp only[newObj];refine o0 (wpAny_alloc (J1 ?_));exact J1 h
end
theorem mF{c:Type}(f:Nat->Nat):∀(n k:Nat) (l:List c) (a:Array c),l.length=n->(aj7.go f n k l a).toList.Perm (a.toList++l)
 |0,k,l,a,h=>by
  have:l=[]:=ai1.mp h;subst this;simp[aj7.go]
 |n+1,k,l,a,h=>by
  have g:f k % l.length<l.length:=am1 _ (by lia);simp only[aj7.go,J6 g];refine(mF f n (k+1) _ _ (by rw[List.length_eraseIdx_of_lt g];lia)).trans ?_;rw[Array.toList_push,an2];refine ao4.append_left _ ?_;have z:l=l.take (f k % l.length)++l[f k % l.length]::l.drop (f k % l.length+1):=by rw[List.getElem_cons_drop];simp
  have e:l.eraseIdx (f k % l.length)=l.take (f k % l.length)++l.drop (f k % l.length+1):=List.eraseIdx_eq_take_drop_succ l _;rw[e];generalize l[f k % l.length]=x at z ⊢
  conv=>rhs;rw[z]
  rw[List.singleton_append];exact al4.symm
theorem lV{a:Type}(f:Nat->Nat) (xs:Array a):(aj7 f xs).toList.Perm xs.toList:=by
 have:=mF f xs.size 0 xs.toList #[] (by simp);simpa[aj7]using this
section
variable{prog:M9}{w:P5}{A:O9}{E:J3->J5->Prop}{s:J5}
theorem m8{Q:Bool->J5->Prop}(h:Q (byT w) s):K5 (N3 prog w) A setsByText Q E s:=by
 unfold setsByText;exact o0 (wpAny_askSetting (J1 h))
end
end L2
namespace L2
open PySem
noncomputable def f51(x:Nat):Nat:=5*x+1
noncomputable def mK:Nat->Nat->Nat
 |0,x=>x
 |n+1,x=>mK n (f51 x)
theorem ot(m n x:Nat):mK (m+n) x=mK n (mK m x):=by
 induction m generalizing x with
 |zero=>simp[mK]
 |succ m ih=>rw[Nat.succ_add];simp only[mK];exact ih _
theorem AV(k:Nat):∃a c,∀z,mK (2 ^ k) z=z+2 ^ (k+2)*a*z+2 ^ k+2 ^ (k+1)*c:=by
 induction k with
 |zero=>exact⟨1,0,fun z=>by simp[mK,f51];lia⟩
 |succ k ih =>
  obtain⟨a,c,h⟩:=ih;generalize e:2 ^ k=p at *
  have f:2 ^ (k+1)=2*p:=by rw[ao5,e,ao1]
  have g:2 ^ (k+2)=4*p:=by rw[av3,e];lia
  have j:2 ^ (k+1+2)=8*p:=by rw[show k+1+2=k+3 by lia,av3,e];lia
  have i:2 ^ (k+1+1)=4*p:=g;rw[f,j,i];rw[f,g]at h;refine⟨a+2*p*a*a,c+p*a+2*p*a*c,fun z=>?_⟩;rw[show 2*p=p+p by lia,ot,h,h]
  grind
theorem Ax(k:Nat):∀x j,j<2 ^ k->∃n,n<2 ^ k/\mK n x % 2 ^ k=j:=by
 induction k with
 |zero=>intro x j h;exact⟨0,by simp,by simp at h;simp[h,Nat.mod_one]⟩
 |succ k ih =>
  intro x j B;obtain⟨a,c,hs⟩:=AV k;have f:0<2 ^ k:=Nat.two_pow_pos k;have m:2 ^ (k+1)=2*2 ^ k:=by rw[ao5,ao1]
  have A:2 ^ (k+2)=2*(2*2 ^ k):=by rw[av3];lia
  obtain⟨n,L,z⟩:=ih x (j % 2 ^ k) (am1 _ f);generalize w:mK n x=y at z;generalize I:2 ^ k=p at *
  have e:y % (2*p)=j∨(y+p) % (2*p)=j:=by
   rw[m]at B;have E:=Nat.div_add_mod y (2*p);have H:=am1 y (show 0<2*p by lia);have:y % (2*p) % p=y % p:=Nat.mod_mul_left_mod y 2 p;rw[z]at this;generalize y % (2*p)=r at *
   have o:r=p*(r / p)+r % p:=(Nat.div_add_mod r p).symm;have s:j=p*(j / p)+j % p:=(Nat.div_add_mod j p).symm;have G:r / p<2:=Nat.div_lt_of_lt_mul (by lia);have C:j / p<2:=Nat.div_lt_of_lt_mul (by lia);rw[this]at o;have l:(y+p) % (2*p)=(r+p) % (2*p):=by
    rw[<-E,as6,Nat.mul_add_mod]
   rw[l];have J:j % p<p:=am1 _ f;generalize j % p=u at *
   have two:∀q,q<2->q=0∨q=1:=fun q h=>by lia
   have i:=two _ G;have g:=two _ C;rcases i with i|i<;>rcases g with g|g<;>rw[i]at o<;>rw[g]at s<;>simp only[Nat.mul_zero,Nat.mul_one,Nat.zero_add]at o s
   ·left;lia
   ·right;rw[Nat.mod_eq_of_lt (by lia)];lia
   ·right;rw[show r+p=u+1*(2*p)by lia,Nat.add_mul_mod_self_right,Nat.mod_eq_of_lt (by lia)];lia
   ·left;lia
  rcases e with e|e
  ·exact⟨n,by lia,by rw[m,w];exact e⟩
  ·refine⟨n+p,by lia,?_⟩;rw[ot,w,hs y,m,A];have:y+2*(2*p)*a*y+p+2*p*c=(y+p)+(2*a*y+c)*(2*p):=by grind
   rw[this,Nat.add_mul_mod_self_right];exact e
end L2
namespace L2
open PySem PySem.SetTable
noncomputable def pS(mask:Nat) (h:Int):Probe:={ j:=bits h % (mask+1),more:=runEnd mask (bits h % (mask+1))-bits h % (mask+1),i:=bits h % (mask+1),perturb:=bits h,dummy:=none }
noncomputable def pA(mask:Nat) (p:Probe):Probe :=
 if p.more > 0 then { p with j:=p.j+1,more:=p.more-1 }
 else { p with j:=(leap mask p.i p.perturb).1,more:=runEnd mask (leap mask p.i p.perturb).1-(leap mask p.i p.perturb).1,i:=(leap mask p.i p.perturb).1,perturb:=(leap mask p.i p.perturb).2 }
noncomputable def pth(mask:Nat) (h:Int):Nat->Probe
 |0=>pS mask h
 |n+1=>pA mask (pth mask h n)
noncomputable def rs(mask:Nat) (h:Int):Nat->Nat×Nat
 |0=>(bits h % (mask+1),bits h)
 |n+1=>leap mask (rs mask h n).1 (rs mask h n).2
noncomputable def atR(mask:Nat) (r:Nat×Nat):Probe:={ j:=r.1,more:=runEnd mask r.1-r.1,i:=r.1,perturb:=r.2,dummy:=none }
variable{mask:Nat}{h:Int}
theorem EZ(i:Nat):runEnd mask i-i<=9:=by unfold runEnd;split<;>lia
theorem rW{n:Nat}{r:Nat×Nat}(e:pth mask h n=atR mask r):∀q,q<=runEnd mask r.1-r.1->pth mask h (n+q)={ atR mask r with j:=r.1+q,more:=runEnd mask r.1-r.1-q }
 |0,_=>by rw[Nat.add_zero,e];rfl
 |q+1,a=>by
  rw[<-as6];show pA mask (pth mask h (n+q))=_;rw[rW e q (by exact V4 (by assumption))];unfold pA;rw[if_pos (show runEnd mask r.1-r.1-q > 0 by lia)];rfl
theorem zl:∀m,∃n,n<=10*m/\pth mask h n=atR mask (rs mask h m)
 |0=>⟨0,by decide,rfl⟩
 |m+1=>by
  obtain⟨n,c,e⟩:=zl m;have a:=EZ (mask:=mask) (rs mask h m).1;refine⟨n+(runEnd mask (rs mask h m).1-(rs mask h m).1)+1,by lia,?_⟩;show pA mask (pth mask h (n+_))=_;rw[rW e _ (J7 _)];unfold pA;rw[if_neg (by simp)];rfl
theorem C9:bits h<2 ^ 64:=by
 unfold bits;have:=ad5 h (show(0:Int)<2 ^ 64 by decide);have:=ac9 h (show(2 ^ 64:Int)≠0 by decide)
 lia
theorem Ar:∀m,(rs mask h m).2=bits h / 32 ^ m
 |0=>by simp[rs]
 |m+1=>by
  show(rs mask h m).2 / 32=_;rw[Ar m,Nat.div_div_eq_div_mul,ao5]
theorem Jn(m:Nat):(rs mask h (13+m)).2=0:=by
 rw[Ar];refine Nat.div_eq_of_lt (K7 C9 ?_);rw[av3];exact K4 (by decide) (Nat.le_mul_of_pos_right (32 ^ 13) (Nat.pow_pos (by decide)))
theorem D2:∀m,(rs mask h (13+m)).1 % (mask+1)=mK m (rs mask h 13).1 % (mask+1)
 |0=>rfl
 |m+1=>by
  show(leap mask (rs mask h (13+m)).1 (rs mask h (13+m)).2).1 % _=_;unfold leap;rw[Jn,ot m 1];show((rs mask h (13+m)).1*5+1+0 / 32) % (mask+1) % (mask+1)=(5*mK m (rs mask h 13).1+1) % (mask+1);rw[Nat.mod_mod,Nat.zero_div,Nat.add_zero,Nat.add_mod,Nat.mul_mod,D2 m,<-Nat.mul_mod,<-Nat.add_mod,ao1]
theorem Ec(m:Nat):(rs mask h m).1<mask+1:=by
 cases m with
 |zero=>exact am1 _ (au0 _)
 |succ m=>exact am1 _ (au0 _)
theorem wG{k:Nat}(f:mask+1=2 ^ k) {j:Nat}(l:j<=mask):∃m n,m<=mask+13/\n<=10*m/\(rs mask h m).1=j/\(pth mask h n).j=j:=by
 obtain⟨m,i,e⟩:=Ax k (rs mask h 13).1 j (by lia);rw[<-f]at i e;have a:=D2 (mask:=mask) (h:=h) m;rw[e,Nat.mod_eq_of_lt (Ec _)]at a;obtain⟨n,g,c⟩:=zl (mask:=mask) (h:=h) (13+m);exact⟨13+m,n,by lia,g,a,by rw[c];exact a⟩
theorem vA(n:Nat):(pth mask h n).j<=mask:=by
 have a:∀n,(pth mask h n).j+(pth mask h n).more<=mask/\(pth mask h n).dummy=none:=fun n=>by
  have st:∀i,i<mask+1->i+(runEnd mask i-i)<=mask:=fun i c=>by unfold runEnd;split<;>lia
  induction n with
  |zero=>exact⟨st _ (am1 _ (au0 _)),rfl⟩
  |succ n ih =>
   show(pA mask (pth mask h n)).j+(pA mask (pth mask h n)).more<=mask/\(pA mask (pth mask h n)).dummy=none;unfold pA
   split
   ·exact⟨by have:=ih.1;dsimp only;lia,ih.2⟩
   ·exact⟨st _ (am1 _ (au0 _)),ih.2⟩
 have:=(a n).1
 lia
theorem EI(n:Nat):(pth mask h n).dummy=none:=by
 induction n with
 |zero=>rfl
 |succ n ih =>
  show(pA mask (pth mask h n)).dummy=none;unfold pA
  split<;>exact ih
theorem GB{P:Nat->Prop}{n:Nat}(h:P n):∃m,m<=n/\P m/\∀l,l<m->¬ P l:=by
 induction n using Nat.strongRecOn with
 |_ n ih =>
  by_cases c:∃l,l<n/\P l
  ·obtain⟨l,f,e⟩:=c;obtain⟨m,g,a,b⟩:=ih l f e;exact⟨m,by lia,a,b⟩
  ·exact⟨n,J7 _,h,fun l f e=>c ⟨l,f,e⟩⟩
def Ri(xs:Array Nat):Prop:=∀i j,i<j->j<xs.size->xs.getD i 0<xs.getD j 0
theorem AB{xs:Array Nat}{i:Nat}(h:i<xs.size) (a b:Nat):xs.getD i a=xs.getD i b:=by simp[X7,h]
theorem oy{xs:Array Nat}(up:Ri xs) (j:Nat):∀f lo e,e-lo<=f->lo<=e->e<=xs.size->(∀i,i<lo->xs.getD i 0<j)->(∀i,e<=i->i<xs.size->j<=xs.getD i 0) ->
  below.go xs j f lo e<=xs.size/\(∀i,i<below.go xs j f lo e->xs.getD i 0<j)/\∀i,below.go xs j f lo e<=i->i<xs.size->j<=xs.getD i 0
 |0,lo,e,n,m,g,a,b=>by
  obtain rfl:lo=e:=by lia
  exact⟨g,a,b⟩
 |f+1,lo,e,n,m,g,a,b=>by
  unfold below.go
  by_cases c:lo<e
  ·rw[if_pos c];dsimp only
   by_cases d:xs.getD ((lo+e) / 2) j<j
   ·rw[if_pos d];rw[AB (by lia) j 0]at d;refine oy up j f _ _ (by lia) (by lia) g (fun i l=>?_) b;rcases S3 i ((lo+e) / 2)with q|q
    ·exact ao3 (up i _ q (by lia)) d
    ·obtain rfl:i=(lo+e) / 2:=by lia
     exact d
   ·rw[if_neg d];rw[AB (by lia) j 0]at d;refine oy up j f _ _ (by lia) (by lia) (by lia) a (fun i o h=>?_);rcases S3 ((lo+e) / 2) i with q|q
    ·have:=up _ i q h;lia
    ·obtain rfl:i=(lo+e) / 2:=by lia
     lia
  ·rw[if_neg c];obtain rfl:lo=e:=by lia
   exact⟨g,a,b⟩
theorem nB{xs:Array Nat}(up:Ri xs) (j:Nat):below xs j<=xs.size/\(∀i,i<below xs j->xs.getD i 0<j)/\∀i,below xs j<=i->i<xs.size->j<=xs.getD i 0 :=
 oy up j _ _ _ (by exact J7 _) (P1 _) (J7 _) (fun i h=>by lia) (fun i c a=>by lia)
def Occ(xs:Array Nat) (j:Nat):Prop:=∃i,i<xs.size/\xs.getD i 0=j
theorem pO{t:S0}(up:Ri t.place) {i j:Nat}(c:i<t.place.size) (e:t.place.getD i 0=j):t.slot j=.live i:=by
 obtain⟨l,h,f⟩:=nB up j;have:below t.place j=i:=by
  rcases an6 (below t.place j) i with q|q|q
  ·have a:=f _ (J7 _) (by lia);have b:=up _ i q c
   lia
  ·exact q
  ·have:=h i q;lia
 unfold slot;rw[this];have g:t.place[i]?=some j:=by rw[N4 c,<-e];simp[X7,c]
 simp[g]
theorem uK{t:S0}(c:t.dummies=#[]) {j:Nat}(n:¬ Occ t.place j):t.slot j=.empty:=by
 unfold slot;have g:(t.place[below t.place j]?==some j)=false:=by
  cases q:t.place[below t.place j]? with
  |none=>rfl
  |some x =>
   obtain⟨a,e⟩:=X8.mp q;simp only[beq_eq_false_iff_ne,ne_eq,ab8];intro z;exact n ⟨_,a,by simp[X7,a,e,z]⟩
 rw[if_neg (by rw[g];decide),c];rfl
theorem yt{xs:Array Nat}(up:Ri xs) {mask:Nat}(o:xs.size<=mask):∃j,j<=mask/\¬ Occ xs j:=by
 refine Z3 fun c=>?_;have all:∀j,j<=mask->Occ xs j:=fun j m=>Z3 fun d=>c ⟨j,m,d⟩;have g:∀j,j<=mask+1->j<=xs.size/\∀i,i<j->xs.getD i 0=i:=fun j=>by
  induction j with
  |zero=>exact fun _=>⟨P1 _,fun i h=>by lia⟩
  |succ j ih =>
   intro m;obtain⟨u,f⟩:=ih (by exact V4 (by assumption));obtain⟨i,n,e⟩:=all j (by exact K4 (by assumption) (by assumption));have a:¬ i<j:=fun q=>by have:=f i q;lia
   have b:i=j:=by
    rcases S3 j i with q|q
    ·have p:=up j i q n;rw[e]at p;cases j with
     |zero=>lia
     |succ j =>
      have s:=up j (j+1) (by exact J7 _) (by lia);have w:=f j (by exact J7 _)
      lia
    ·lia
   subst b;refine⟨n,fun l x=>?_⟩;rcases S3 l i with q|q
   ·exact f l q
   ·obtain rfl:l=i:=by lia
    exact e
 have:=(g (mask+1) (J7 _)).1
 lia
structure TB(t:S0) (hs:List Int):Prop where
 sz:t.place.size=hs.length
 up:Ri t.place
 le:∀i,i<t.place.size->t.place.getD i 0<=t.mask
 dm:t.dummies=#[]
 pw:∃k,3<=k/\t.mask+1=2 ^ k
 few:t.place.size<=t.mask
 pr:∀i h,hs[i]?=some h->∃n,(pth t.mask h n).j=t.place.getD i 0/\∀m,m<n->Occ t.place (pth t.mask h m).j
theorem TB.free{t:S0}{hs:List Int}(T:TB t hs) (h:Int):∃n,n<=10*(t.mask+13)/\¬ Occ t.place (pth t.mask h n).j/\∀m,m<n->Occ t.place (pth t.mask h m).j:=by
 obtain⟨j,f,o⟩:=yt T.up T.few;obtain⟨k,_,l⟩:=T.pw;obtain⟨m,n,a,q,_,e⟩:=wG (mask:=t.mask) (h:=h) l f;obtain⟨i,p,g,c⟩:=GB (P:=fun n=>¬ Occ t.place (pth t.mask h n).j) (n:=n) (by rw[e];exact o);exact⟨i,by lia,g,fun m a=>Z3 fun d=>c m a d⟩
theorem sH{t:S0}{hs:List Int}(T:TB t hs) {h:Int}{n0:Nat}(p:¬ Occ t.place (pth t.mask h n0).j) (j:∀m,m<n0->Occ t.place (pth t.mask h m).j) {ha:Nat->Int}:∀F n,n<=n0->n0-n<F ->
    ∃ m,n ≤ m ∧ m ≤ n0 ∧ (∀ l,n ≤ l → l < m → ∃ i,i < t.place.size ∧ t.place.getD i 0 = (pth t.mask h l).j ∧ ha i ≠ h) ∧
      ((m = n0 ∧ probe.go t ha h F (pth t.mask h n) = some (.empty (pth t.mask h n0).j none)) ∨
       (m<n0/\∃i,i<t.place.size/\t.place.getD i 0=(pth t.mask h m).j/\ha i=h/\probe.go t ha h F (pth t.mask h n)=some (.candidate (pth t.mask h m).j i (pth t.mask h (m+1)))))
  |0,n,o,u=>by lia
  | F + 1,n,o,u => by
    rcases S3 n n0 with q|q
    · obtain ⟨i,f,e⟩:=j n q;have g:=pO T.up f e
      by_cases c:ha i=h
      · refine ⟨n,J7 _,o,fun l a b => by lia,.inr ⟨q,i,f,e,c,?_⟩⟩;unfold probe.go;rw[g];dsimp only;rw[if_pos (by simpa using c)];rfl
      · obtain ⟨m,z,x,s,w⟩:=sH T p j (ha:=ha) F (n + 1) (by assumption) (by lia);have eq:probe.go t ha h (F+1) (pth t.mask h n)=probe.go t ha h F (pth t.mask h (n+1)):=by
          rw[probe.go,g];dsimp only;rw[if_neg (by simpa using c)];rfl
        rw[eq];refine⟨m,by exact V4 (by assumption),x,fun l a b=>?_,w⟩;rcases S3 n l with d|d
        · exact s l d b
        · obtain rfl:l = n:=by lia
          exact⟨i,f,e,c⟩
    · obtain rfl:n = n0:=by lia
      refine⟨n,J7 _,J7 _,fun l a b=>by lia,.inl ⟨rfl,?_⟩⟩;unfold probe.go;rw[uK T.dm p];dsimp only;rw[EI]
end L2
namespace L2
open PySem PySem.Spec PyProof.Rows
theorem aT:Slot "set_iterator" "__next__" "set_iterator.__next__" :=
 .of (owner:="set_iterator") (n:="__next__") (by rw[ag9,aa0];kernel_rfl) (by decide +kernel) (by decide +kernel) (by decide +kernel)
  (by first|exact .inl (by decide +kernel)|exact .inr (by decide +kernel)) (by rw[ag0];kernel_rfl)
theorem cW:av7 table "set_iterator.__next__"=some L3.«set_iterator.__next__»:=entryFor_of_tree (by kernel_rfl)
theorem dF(a:J3):ax9 "set_iterator.__next__" ⟨[a],[]⟩:=by unfold ax9;kernel_rfl
noncomputable abbrev kA(f:J3) (i:Nat) (a:K1) (n ep:Nat):Obj:={ cls:=.type "set_iterator",data:=.fields #[f,W5 i,.ref a,W5 n,W5 ep] }
structure fh(w:P5) (h:L5) (a:K1) (o:Obj) (es:Array (Int×J3)) (ep:Nat) (t:S0):Prop where
 get:h.get? a=some o
 ex:o.ExactSet
 data:o.data=.set es ep t
 room:es.size<ay0
 fit:t.fits es.size=true
 led:t.led=!byT w
 go:(es.size≠0->t.plain=false)∨Ri t.place
theorem fh.kept{w:P5}{h h':L5}{a:K1}{o:Obj}{c:Array (Int×J3)}{ep:Nat}{t:S0}(p:fh w h a o c ep t) (k:h'.get? a=some o):fh w h' a o c ep t:=⟨k,p.ex,p.data,p.room,p.fit,p.led,p.go⟩
theorem fh.typeIs{w:P5}{s:J5}{a:K1}{o:Obj}{c:Array (Int×J3)}{ep:Nat}{t:S0}(p:fh w s.heap a o c ep t):s.TypeIs (.ref a) "set":=⟨o,p.get,p.ex.1⟩
section
variable{prog:M9}{w:P5}{A:O9}{E:J3->J5->Prop}{s:J5}
theorem fh.state{a:K1}{o:Obj}{c:Array (Int×J3)}{ep:Nat}{t:S0}{Q:Array (Int×J3)×Nat×S0->J5->Prop}(p:fh w s.heap a o c ep t) (h:Q (c,ep,t) s):K5 (N3 prog w) A (setState a) Q E s:=ah1 p.get p.data p.fit h
theorem zd{a:K1}{o:Obj}{c:Array (Int×J3)}{ep:Nat}{t:S0}{Q:Nat->J5->Prop}(p:fh w s.heap a o c ep t) (h:Q ep s):K5 (N3 prog w) A (setEpoch a) Q E s :=
 wpAny_setEpoch_of p.get p.data p.fit h
theorem DY{I a:K1}{k i n:Nat}{o:Obj}{e:Array (Int×J3)}{ep:Nat}{t:S0}{x:J3}{nx:Nat}{Q:Option J3->J5->Prop}(c:s.heap.get? I=some (kA (W5 k) i a n ep)) (p:fh w s.heap a o e ep t) (hn:e.size=n)
  (q:∀(j:Option (J3×Nat)->J5->Prop) E',j (some (x,nx)) s->K5 (N3 prog w) A.in1 (ay1 a k i ep) j E' s)
  (h:∀h',h'.get? I=some (kA (W5 nx) (i+1) a n ep)->O6 I s.heap h'->Q (some x) { s with heap:=h' }):K5 (N3 prog w) A (ag3 (.ref I)) Q E s:=by
 have g:s.TypeIs (.ref I) "set_iterator":=⟨_,c,rfl⟩;unfold ag3;refine o0 (ac3 (P2 (name:=N1 "__next__") g aT
  (O7 aT g cW ?_ (dF _))))
 unfold L3.«set_iterator.__next__»;refine o0 (m:=slotArgs "__next__" 0 ⟨[.ref I],[]⟩) (J1 ?_);refine o0 (al2 c rfl ?_);dsimp only;simp only[W5,V8];refine o0 (ai3 p.get p.data p.fit ?_);rw[if_neg (by rw[hn];simp)];refine o0 (q _ _ ?_);dsimp only;refine o0 (W9 c rfl (by simp) ?_);have f:(s.heap.update I (ai0 (·.setIfInBounds 0 (W5 nx)))).get? I=some (kA (W5 nx) i a n ep):=T5 _ c rfl;refine o0 (W9 f rfl (by simp) ?_);have l:((s.heap.update I (ai0 (·.setIfInBounds 0 (W5 nx)))).update I (ai0 (·.setIfInBounds 1 (W5 ((i:Int)+1))))).get? I=some (kA (W5 nx) (i+1) a n ep):=T5 _ f rfl;exact J1 ⟨_,rfl,J1 (h _ l ((Q7 ..).trans (Q7 ..)))⟩
theorem G1{I a:K1}{k i n:Nat}{o:Obj}{f:Array (Int×J3)}{ep:Nat}{t:S0}{Q:Option J3->J5->Prop}(j:A.handled=none) (c:s.heap.get? I=some (kA (W5 k) i a n ep)) (p:fh w s.heap a o f ep t) (hn:f.size=n)
  (l:∀(g:Option (J3×Nat)->J5->Prop) E',g none s->K5 (N3 prog w) A.in1 (ay1 a k i ep) g E' s)
  (h:∀h',an3 I s.heap h'->Q none { s with heap:=h' }):K5 (N3 prog w) A (ag3 (.ref I)) Q E s:=by
 have e:s.TypeIs (.ref I) "set_iterator":=⟨_,c,rfl⟩;unfold ag3;refine o0 (ac3 (P2 (name:=N1 "__next__") e aT
  (O7 aT e cW ?_ (dF _))))
 unfold L3.«set_iterator.__next__»;refine o0 (m:=slotArgs "__next__" 0 ⟨[.ref I],[]⟩) (J1 ?_);refine o0 (al2 c rfl ?_);dsimp only;simp only[W5,V8];refine o0 (ai3 p.get p.data p.fit ?_);rw[if_neg (by rw[hn];simp)];refine o0 (l _ _ ?_);dsimp only;refine o0 (W9 c rfl (by simp) ?_);refine o0 ?_;simp only[aw8,av8];refine o0 (N0 ?_ (by size_fits));refine o0 (m:=ac4 _ _) (ad6 (a:=T9) (by first|rfl|(simp only[ac4];rfl)) ?_);refine N0 ?_ (by size_fits);simp -iota only[av9];refine o0 (ap0 ?_);rw[show A.in1.handled=none from j];refine o0 (J1 (as1 ?_));refine o0 (ab1 (T:="StopIteration") (b:=true) ⟨_,J8 _ rfl,rfl⟩ an9 ?_);exact J1 (h _ (((Q7 ..).extBut.push _).push _))
end
section
variable{prog:M9}{w:P5}{A:O9}{E:J3->J5->Prop}{s:J5}
noncomputable abbrev tpO(ps:List Nat):Obj:={ cls:=.type "tuple",data:=.seq (ps.map fun(i:Nat)=>W5 i).toArray }
theorem Hu{a:K1}{ps:List Nat}{Q:Option (Array J3)->J5->Prop}(c:s.heap.get? a=some (tpO ps)) (h:Q (some (ps.map fun(i:Nat)=>W5 i).toArray) s):K5 (N3 prog w) A (at9 (.ref a)) Q E s:=by
 unfold at9;exact o0 (ar3 c (J1 h))
theorem G0{I a c:K1}{i n j:Nat}{ps:List Nat}{o:Obj}{g:Array (Int×J3)}{ep:Nat}{t:S0}{e:Int×J3}{Q:Option J3->J5->Prop}(f:s.heap.get? I=some (kA (.ref c) i a n ep)) (u:s.heap.get? c=some (tpO ps)) (p:fh w s.heap a o g ep t) (hn:g.size=n)
  (z:ps[i]?=some j) (he:g[j]?=some e)
  (h:∀h',h'.get? I=some (kA (.ref c) (i+1) a n ep)->O6 I s.heap h'->Q (some e.2) { s with heap:=h' }):K5 (N3 prog w) A (ag3 (.ref I)) Q E s:=by
 have q:s.TypeIs (.ref I) "set_iterator":=⟨_,f,rfl⟩;unfold ag3;refine o0 (ac3 (P2 (name:=N1 "__next__") q aT
  (O7 aT q cW ?_ (dF _))))
 unfold L3.«set_iterator.__next__»;refine o0 (m:=slotArgs "__next__" 0 ⟨[.ref I],[]⟩) (J1 ?_);refine o0 (al2 f rfl ?_);dsimp only;simp only[W5,V8];refine o0 (ai3 p.get p.data p.fit ?_);rw[if_neg (by rw[hn];simp)];refine o0 (Hu u ?_);have l:(ps.map fun(i:Nat)=>W5 i).toArray[i]?=some (.int j 0):=by simp[z,W5]
 dsimp only;rw[l];dsimp only;refine o0 ?_;unfold setNextDrawn;refine o0 (p.state ?_);dsimp only;rw[if_neg (by simp),V8,he];refine J1 ?_;refine o0 (W9 f rfl (by simp) ?_);have x:(s.heap.update I (ai0 (·.setIfInBounds 1 (W5 ((i:Int)+1))))).get? I=some (kA (.ref c) (i+1) a n ep):=T5 _ f rfl;exact J1 ⟨_,rfl,J1 (h _ x (Q7 ..))⟩
theorem IY{I a g:K1}{i n:Nat}{ps:List Nat}{o:Obj}{f:Array (Int×J3)}{ep:Nat}{t:S0}{Q:Option J3->J5->Prop}(u:A.handled=none) (c:s.heap.get? I=some (kA (.ref g) i a n ep)) (x:s.heap.get? g=some (tpO ps)) (p:fh w s.heap a o f ep t) (hn:f.size=n)
  (l:ps[i]?=none)
  (h:∀h',an3 I s.heap h'->Q none { s with heap:=h' }):K5 (N3 prog w) A (ag3 (.ref I)) Q E s:=by
 have j:s.TypeIs (.ref I) "set_iterator":=⟨_,c,rfl⟩;unfold ag3;refine o0 (ac3 (P2 (name:=N1 "__next__") j aT
  (O7 aT j cW ?_ (dF _))))
 unfold L3.«set_iterator.__next__»;refine o0 (m:=slotArgs "__next__" 0 ⟨[.ref I],[]⟩) (J1 ?_);refine o0 (al2 c rfl ?_);dsimp only;simp only[W5,V8];refine o0 (ai3 p.get p.data p.fit ?_);rw[if_neg (by rw[hn];simp)];refine o0 (Hu x ?_);have e:(ps.map fun(i:Nat)=>W5 i).toArray[i]?=none:=by simp[l]
 dsimp only;rw[e];dsimp only;refine o0 (W9 c rfl (by simp) ?_);have q:(s.heap.update I (ai0 (·.setIfInBounds 0 (W5 0)))).get? I=some (kA (W5 0) i a n ep):=T5 _ c rfl;refine o0 (W9 q rfl (by simp) ?_);refine o0 ?_;simp only[aw8,av8];refine o0 (N0 ?_ (by size_fits));refine o0 (m:=ac4 _ _) (ad6 (a:=T9) (by first|rfl|(simp only[ac4];rfl)) ?_);refine N0 ?_ (by size_fits);simp -iota only[av9];refine o0 (ap0 ?_);rw[show A.in1.handled=none from u];refine o0 (J1 (as1 ?_));refine o0 (ab1 (T:="StopIteration") (b:=true) ⟨_,J8 _ rfl,rfl⟩ an9 ?_);exact J1 (h _ (((((Q7 ..).trans (Q7 ..)).extBut).push _).push _))
theorem zc{a:K1}{k i:Nat}{o:Obj}{c:Array (Int×J3)}{ep:Nat}{t:S0}{Q:Option (J3×Nat)->J5->Prop}(p:fh w s.heap a o c ep t) (f:byT w=true)
  (h:Q (((aj7 (w.params.setOrder a ep) c)[i]?).map fun e=>(e.2,k)) s):K5 (N3 prog w) A (ay1 a k i ep) Q E s:=by
 unfold ay1;refine o0 (p.state ?_);dsimp only;refine o0 (m8 ?_);rw[f];simp only[if_true];rw[if_neg (by simp)];refine o0 ?_;unfold setWalk;refine o0 (p.state ?_);dsimp only;refine o0 (m8 ?_);rw[f];simp only[if_true];exact o0 (wpAny_askSetting (J1 (J1 h)))
theorem Bc{a:K1}{k i:Nat}{o:Obj}{c:Array (Int×J3)}{ep:Nat}{t:S0}{Q:Option (J3×Nat)->J5->Prop}(p:fh w s.heap a o c ep t) (e:byT w=false) (f:(!t.plain&&decide (c.size > 1))=false)
  (h:Q (match c[ar1 t.place k]?,t.place[ar1 t.place k]? with|some (_,x),some j=>some (x,j+1)|_,_=>none) s):K5 (N3 prog w) A (ay1 a k i ep) Q E s:=by
 unfold ay1;refine o0 (p.state ?_);dsimp only;refine o0 (m8 ?_);rw[e];simp only[J9,if_false];show K5 _ _ (if(!t.plain&&decide (c.size > 1))=true then _ else _) _ _ _;rw[if_neg (by rw[f];simp)];refine o0 ?_;show K5 _ _ (if(!t.led&&!c.isEmpty)=true then _ else _) _ _ _;rw[if_neg (by rw[p.led,e];simp)];exact J1 (J1 h)
end
section
variable{prog:M9}{w:P5}{A:O9}{E:J3->J5->Prop}{s:J5}
theorem B6{a:Source}{n:Nat}{Q:Nat->J5->Prop}(hn:n≠0) (h:∀i d,i<n->Q i { s with drawn:=d }):K5 (N3 prog w) A (choose a n) Q E s :=
 fun c p hc=>⟨hn,h _ _ (am1 _ (Nat.pos_of_ne_zero hn))⟩
theorem Hl{f:Type}(n:Nat):∀(xs:List f) (s:J5) (Q:List f->J5->Prop),xs.length=n->(∀c d,c.Perm xs->Q c { s with drawn:=d })->K5 (N3 prog w) A (drawOrder n xs) Q E s:=by
 induction n with
 |zero =>
  intro xs s Q a h;have:xs=[]:=ai1.mp a;subst this;have e:s={ s with drawn:=s.drawn }:=by cases s;rfl
  rw[e];exact J1 (h [] s.drawn (.refl _))
 |succ n ih =>
  intro xs s Q a h;cases xs with
  |nil=>simp at a
  |cons x xs =>
   unfold drawOrder;refine o0 (B6 (by simp) fun i d g=>?_);rw[J6 g];dsimp only;refine o0 (ih ((x::xs).eraseIdx i) _ _ (by rw[List.length_eraseIdx_of_lt g];simp at a ⊢;assumption) fun c l j=>?_);refine J1 (h _ l ?_);have z:(x::xs)=(x::xs).take i++(x::xs)[i]::(x::xs).drop (i+1):=by rw[List.getElem_cons_drop];simp
   have e:(x::xs).eraseIdx i=(x::xs).take i++(x::xs).drop (i+1):=List.eraseIdx_eq_take_drop_succ _ _;rw[e]at j;refine(j.cons _).trans ?_;generalize (x::xs)[i]=u at z ⊢
   conv=>rhs;rw[z]
   exact al4.symm
theorem jv:Slot "set_iterator" "__iter__" "set_iterator.__iter__" :=
 .of (owner:="set_iterator") (n:="__iter__") (by rw[ag9,aa0];kernel_rfl) (by decide +kernel) (by decide +kernel) (by decide +kernel)
  (by first|exact .inl (by decide +kernel)|exact .inr (by decide +kernel)) (by rw[ag0];kernel_rfl)
theorem nc:av7 table "set_iterator.__iter__"=some L3.«dict_keyiterator.__iter__» :=
 entryFor_alias (id':="dict_keyiterator.__iter__") (by kernel_rfl) rfl (by decide +kernel) (by kernel_rfl)
theorem pB(a:J3):ax9 "set_iterator.__iter__" ⟨[a],[]⟩:=by unfold ax9;kernel_rfl
theorem Bl{I a:K1}{f:J3}{i n ep:Nat}{Q:J3->J5->Prop}(e:s.heap.get? I=some (kA f i a n ep)) (h:Q (.ref I) s):K5 (N3 prog w) A (au4 (.ref I)) Q E s:=by
 have c:s.TypeIs (.ref I) "set_iterator":=⟨_,e,rfl⟩;refine an4 c jv (O7 jv c nc ?_ (pB _));show K5 _ _ (ret (.ref I)) _ _ s;exact J1 ⟨_,rfl,"set_iterator",_,c,aT.lookup,h⟩
end
noncomputable def kI(xs:Array Nat) (i:Nat):Nat:=if i=0 then 0 else xs.getD (i-1) 0+1
theorem sL{xs:Array Nat}(up:Ri xs) {i:Nat}(g:i<=xs.size):ar1 xs (kI xs i)=i:=by
 obtain⟨h,f,e⟩:=nB up (kI xs i);rcases an6 (ar1 xs (kI xs i)) i with q|q|q
 ·have a:=e (i-1) (by lia) (by lia);unfold kI at a;rw[if_neg (by lia)]at a;lia
 ·exact q
 ·have a:=f i q;unfold kI at a
  by_cases c:i=0
  ·rw[if_pos c]at a;lia
  ·rw[if_neg c]at a;have b:=up (i-1) i (by lia) (by exact K7 (by assumption) (by assumption))
   lia
section
variable{prog:M9}{w:P5}{A:O9}{E:J3->J5->Prop}{s:J5}
abbrev PSe(a:Array (Int×J3)):Nat->J3->Prop:=fun i v=>∃e,a[i]?=some e/\v=e.2
theorem E5(C:A.handled=none) {I a:K1}(n:a≠I) {o:Obj}{c:Array (Int×J3)}{ep:Nat}{t:S0}(f:byT w=true) :
  av4 prog w A I [I,a] [I] c.size (PSe (aj7 (w.params.setOrder a ep) c)) (fun i h=>(∃k:Nat,h.get? I=some (kA (W5 k) i a c.size ep))/\fh w h a o c ep t) where
 sub:=fun b f=>by simp at f;simp[f]
 frame:=fun _ _ _ st z=>⟨let⟨k,g⟩:=st.1;⟨k,z I (by simp) _ g⟩,st.2.kept (z a (by simp) _ st.2.get)⟩
 item:=fun i s Q E J st j=>by
  obtain⟨⟨k,g⟩,p⟩:=st;have sz:(aj7 (w.params.setOrder a ep) c).size=c.size:=by
   have:=(lV (w.params.setOrder a ep) c).length_eq;simpa using this
  have l:(aj7 (w.params.setOrder a ep) c)[i]?=some ((aj7 (w.params.setOrder a ep) c)[i]'(by lia)):=N4 _;refine DY g p rfl (fun H G q=>zc p f (by rw[l];exact q)) fun m B x=>?_;exact j _ m s.toks ⟨_,l,rfl⟩ ⟨⟨_,B⟩,p.kept (by rw[x.2 a n];exact p.get)⟩ fun b o f e=>by rw[x.2 b (fun h=>f (by simp[h]))];exact e
 done:=fun s Q E st j=>by
  obtain⟨⟨k,g⟩,p⟩:=st;have sz:(aj7 (w.params.setOrder a ep) c).size=c.size:=by
   have:=(lV (w.params.setOrder a ep) c).length_eq;simpa using this
  have l:(aj7 (w.params.setOrder a ep) c)[c.size]?=none:=Array.getElem?_eq_none (by lia);exact G1 C g p rfl (fun H G q=>zc p f (by rw[l];exact q)) fun m u=>j m s.toks fun b o f e=>u b o (fun h=>f (by simp[h])) e
 self:=fun _ _ _ _ st j=>let⟨⟨_,g⟩,_⟩:=st;Bl g j
theorem EA(J:A.handled=none) {I a:K1}(n:a≠I) {o:Obj}{c:Array (Int×J3)}{ep:Nat}{t:S0}(f:byT w=false) (C:(!t.plain&&decide (c.size > 1))=false) (up:Ri t.place) (P:t.place.size=c.size) :
  av4 prog w A I [I,a] [I] c.size (PSe c) (fun i h=>i<=c.size/\h.get? I=some (kA (W5 (kI t.place i)) i a c.size ep)/\fh w h a o c ep t) where
 sub:=fun b f=>by simp at f;simp[f]
 frame:=fun _ _ _ st G=>⟨st.1,G I (by simp) _ st.2.1,st.2.2.kept (G a (by simp) _ st.2.2.get)⟩
 item:=fun i s Q E l st j=>by
  obtain⟨_,g,p⟩:=st;have B:c[i]?=some (c[i]'l):=N4 _;have M:t.place[i]?=some (t.place.getD i 0):=by rw[N4 (by lia)];simp[X7,show i<t.place.size by lia]
  refine DY (x:=(c[i]'l).2) (nx:=t.place.getD i 0+1) g p rfl (fun O N q=>Bc p f C (by rw[sL up (by lia),B,M];exact q)) fun m H z=>?_;refine j _ m s.toks ⟨_,B,rfl⟩ ⟨l,?_,p.kept (by rw[z.2 a n];exact p.get)⟩ fun b o f e=>by rw[z.2 b (fun h=>f (by simp[h]))];exact e
  rw[H];rfl
 done:=fun s Q E st j=>by
  obtain⟨_,g,p⟩:=st;have L:c[c.size]?=none:=Array.getElem?_eq_none (J7 _);exact G1 J g p rfl (fun O N q=>Bc p f C (by rw[sL up (by lia),L];exact q)) fun m u=>j m s.toks fun b o f e=>u b o (fun h=>f (by simp[h])) e
 self:=fun _ _ _ _ st j=>Bl st.2.1 j
theorem Fz(N:A.handled=none) {I a f:K1}(B:a≠I) (H:f≠I) {o:Obj}{c:Array (Int×J3)}{ep:Nat}{t:S0}{ps:List Nat}(x:ps.Perm (N5 c.size)) :
  av4 prog w A I [I,a,f] [I] c.size (PSe (ps.map fun j=>c.getD j av1).toArray) (fun i h=>h.get? I=some (kA (.ref f) i a c.size ep)/\h.get? f=some (tpO ps)/\fh w h a o c ep t) where
 sub:=fun b l=>by simp at l;simp[l]
 frame:=fun _ _ _ st G=>⟨G I (by simp) _ st.1,G f (by simp) _ st.2.1,st.2.2.kept (G a (by simp) _ st.2.2.get)⟩
 item:=fun i s Q E P st n=>by
  obtain⟨g,q,p⟩:=st;have sz:ps.length=c.size:=by rw[x.length_eq,V2]
  have m:i<ps.length:=by lia
  have L:ps[i]?=some ps[i]:=J6 m;have J:ps[i]<c.size:=P6.mp (x.mem_iff.mp (V6 m));have O:c[ps[i]]?=some c[ps[i]]:=N4 J;refine G0 g q p rfl L O fun z M u=>?_;refine n _ z s.toks ⟨c[ps[i]],?_,rfl⟩ ⟨M,by rw[u.2 f H];exact q,p.kept (by rw[u.2 a B];exact p.get)⟩ fun b o l e=>by rw[u.2 b (fun h=>l (by simp[h]))];exact e
  simp[L,X7,J]
 done:=fun s Q E st n=>by
  obtain⟨g,q,p⟩:=st;have sz:ps.length=c.size:=by rw[x.length_eq,V2]
  exact IY N g q p rfl (Q5 (by lia)) fun z C=>n z s.toks fun b o l e=>C b o (fun h=>l (by simp[h])) e
 self:=fun _ _ _ _ st n=>Bl st.1 n
end
theorem oP:av7 table "set.__iter__"=some L3.«frozenset.__iter__» :=
 entryFor_alias (id':="frozenset.__iter__") (by kernel_rfl) rfl (by decide +kernel) (by kernel_rfl)
section
variable{prog:M9}{w:P5}{A:O9}{E:J3->J5->Prop}{s:J5}
theorem yZ(a:Array (Int×J3)):(N5 a.size).map (fun j=>a.getD j av1)=a.toList:=by
 apply List.ext_getElem (by simp);intro i c e;simp at c;simp[X7,c]
theorem ID{a:K1}{o:Obj}{c:Array (Int×J3)}{ep:Nat}{t:S0}{Q:J3->J5->Prop}(C:A.handled=none) (p:fh w s.heap a o c ep t)
  (h:∀ (I:K1) (h':L5) d' (q:Array (Int × J3)) (fp:List K1) (St:Nat → L5 → Prop),q.toList.Perm c.toList → (∀ b o,s.heap.get? b = some o → h'.get? b = some o) → av4 prog w A I fp [I] c.size (PSe q) St → St 0 h' → s.heap.objs.size ≤ I →
   (∀b∈fp,b=a∨s.heap.objs.size<=b)->Q (.ref I) { s with heap:=h',drawn:=d' }):K5 (N3 prog w) A (au4 (.ref a)) Q E s:=by
 have B:a<s.heap.objs.size:=K6 p.get;refine an4 p.typeIs PySem.F.slot_set_iter (O7 PySem.F.slot_set_iter p.typeIs oP ?_ (PySem.F.args_set_iter_1 _));unfold L3.«frozenset.__iter__»;refine o0 (m:=L3.Frozenset.slot0 "__iter__" ⟨[.ref a],[]⟩) (J1 ?_);unfold L3.Frozenset.sizeOf;refine o0 (o0 (ai3 p.get p.data p.fit (J1 ?_)));refine o0 ?_;unfold setDrawn;refine o0 (p.state ?_);dsimp only;refine o0 (m8 (J1 ?_));show K5 _ _ (if(!byT w&&(!t.plain&&decide (c.size > 1)))=true then _ else _) _ _ _
 split
 ·rename_i x;refine o0 (Hl c.size (N5 c.size) s _ (by simp) fun g d G=>?_);have O:g.length=c.size:=by rw[G.length_eq,V2]
  have N:=an7 p.room;refine o0 ?_;simp only[av8];refine N0 ?_ (by show(g.map _).toArray.size<=K0;simp;lia);have M:(s.heap.push (tpO g)).get? s.heap.objs.size=some (tpO g):=J8 _ rfl;have n:fh w (s.heap.push (tpO g)) a o c ep t:=p.kept (u8 _ p.get);refine o0 (zd (s:={ s with heap:=s.heap.push (tpO g),drawn:=d }) n ?_);refine o0 ?_;unfold newFields;refine N0 ?_;refine J1 ⟨_,rfl,"set_iterator",_,⟨_,J8 _ rfl,rfl⟩,aT.lookup,?_⟩;refine h _ _ d (g.map fun j=>c.getD j av1).toArray [(s.heap.push (tpO g)).objs.size,a,s.heap.objs.size] _ ?_ (fun b o e=>u8 _ (u8 _ e))
   (Fz C (o:=o) (t:=t) (ep:=ep) (ps:=g) (by rw[R6];exact K9 (V1 B)) (by rw[R6];exact K9 (W8 _)) G) ⟨J8 _ rfl,u8 _ M,n.kept (u8 _ n.get)⟩ (by rw[R6];lia) fun b f=>?_
  ·have:=G.map fun j=>c.getD j av1;rw[yZ]at this;simpa using this
  ·rw[R6]at f;simp only[L1,R4,or_false]at f;rcases f with rfl|rfl|rfl
   ·exact .inr (ap3 _)
   ·exact .inl rfl
   ·exact .inr (J7 _)
 ·rename_i x;refine o0 (J1 ?_);refine o0 (zd p ?_);refine o0 ?_;unfold newFields;refine N0 ?_;refine J1 ⟨_,rfl,"set_iterator",_,⟨_,J8 _ rfl,rfl⟩,aT.lookup,?_⟩;have n:∀H,fh w (s.heap.push H) a o c ep t:=fun H=>p.kept (u8 _ p.get);have l:∀b∈[s.heap.objs.size,a],b=a∨s.heap.objs.size<=b:=fun b f=>by
   simp only[L1,R4,or_false]at f;rcases f with rfl|rfl
   ·exact .inr (J7 _)
   ·exact .inl rfl
  cases f:byT w with
  |true =>
   exact h _ _ s.drawn _ [s.heap.objs.size,a] _ (lV (w.params.setOrder a ep) c) (fun b o e=>u8 _ e) (E5 C (o:=o) (t:=t) (ep:=ep) (K9 B) f) ⟨⟨0,J8 _ rfl⟩,n _⟩ (J7 _) l
  |false =>
   have u:(!t.plain&&decide (c.size > 1))=false:=by
    rw[f]at x;simpa using x
   have J:t.place.size=c.size:=by
    have:=p.fit;simp[S0.fits]at this;lia
   have up:Ri t.place:=by
    rcases p.go with z|z
    ·intro i j L P;have:=z (by lia);rw[this]at u;simp at u
     lia
    ·exact z
   exact h _ _ s.drawn c [s.heap.objs.size,a] _ (.refl _) (fun b o e=>u8 _ e) (EA C (o:=o) (t:=t) (ep:=ep) (K9 B) f u up J) ⟨P1 _,J8 _ rfl,n _⟩ (J7 _) l
end
section
variable{prog:M9}{w:P5}{A:O9}{E:J3->J5->Prop}{s:J5}
theorem GL{r:K1}{Q:Bool->J5->Prop}(e:s.TypeIs (.ref r) "set") (h:Q false s):K5 (N3 prog w) A (L3.List.listLengthHint (.ref r)) Q E s:=by
 unfold L3.List.listLengthHint;refine o0 (ac8 e PySem.F.slot_set_len.lookup ?_);generalize c:("set.__len__":String)=f
 wp_delta
 rw[show splitId f=some ("set","__len__")from by subst c;decide +kernel];subst c;refine o0 (ab1 (T:="set") (b:=true) e (by rw[ag0];kernel_rfl) ?_);refine wpAny_ite_split (fun a=>absurd a (by decide)) (fun _=>?_);refine wpAny_ite_split (fun _=>?_) (fun a=>absurd (by decide +kernel) a);refine o0 (ah4 e ?_);exact J1 h
noncomputable abbrev Ah(a:Array J3) (c:Nat):Obj:={ cls:=.type "list",data:=.seq a c }
theorem sk{a:K1}{o:Obj}{B:Array (Int×J3)}{ep:Nat}{t:S0}{Q:List J3->J5->Prop}(hh:A.handled=none) (p:fh w s.heap a o B ep t)
  (h:∀s' (g:Array (Int×J3)),g.toList.Perm B.toList->(∀b o,s.heap.get? b=some o->s'.heap.get? b=some o)->s'.gens=s.gens->s'.os=s.os->Q (g.toList.map (·.2)) s') :
  K5 (N3 prog w) A (collect (.ref a)) Q E s:=by
 have al:a<s.heap.objs.size:=K6 p.get;have hn:=an7 p.room;unfold collect;refine o0 (ar2 (Z1 PySem.F.entry_proto_collect ?_));rw[W3 PySem.F.plain_proto_collect _];show K5 _ A.in1 (newList [] >>= fun l=>again (.builtin "list.__iadd__" ⟨[l,.ref a],[]⟩)) _ _ s;refine o0 (N0 ?_);refine J1 ⟨ai2 ai4 _,Z1 PySem.F.entry_list_iadd ?_⟩;rw[W3 ai4 _];generalize L:s.heap.push { cls:=.type "list",data:=.seq ([]:List J3).toArray }=x;have k1:∀b o,s.heap.get? b=some o->x.get? b=some o:=fun b o e=>by rw[<-L];exact u8 _ e
 have hS:x.get? s.heap.objs.size=some (Ah #[] 0):=by rw[<-L];exact J8 _ rfl
 have a3:x.objs.size=s.heap.objs.size+1:=by rw[<-L];exact R6 _ _
 have Z:fh w x a o B ep t:=p.kept (k1 _ _ p.get);show K5 _ A.in1 (L3.List.listExtendWith (.ref s.heap.objs.size) (.ref a) (.ref s.heap.objs.size)) _ _ { s with heap:=x };unfold L3.List.listExtendWith;refine o0 (ah4 (T:="set") (Z.typeIs (s:={ s with heap:=x })) ?_);have S:s.heap.objs.size≠a:=ac6 al;have h1:L3.List.listSameRef (.ref s.heap.objs.size) (.ref a)=false:=by simp[L3.List.listSameRef,S]
 have H:(af0 "set"==af0 "list")=false:=by decide
 have h3:(af0 "set"==af0 "tuple")=false:=by decide
 simp only[h1,H,h3,Bool.or_false,J9,if_false];have a0:A.in1.handled=none:=hh;refine o0 (ID (s:={ s with heap:=x }) a0 Z fun I u N g fp St hp k2 W st hI a2=>?_);have P:s.heap.objs.size∉fp:=fun m=>by
  rcases a2 _ m with e|e
  ·exact S e
  ·have e':x.objs.size<=s.heap.objs.size:=e
   lia
 have a5:g.size=B.size:=by have:=hp.length_eq;simpa using this
 have T2:J5.TypeIs { s with heap:=u,drawn:=N } (.ref a) "set":=(Z.kept (k2 _ _ Z.get)).typeIs (s:={ s with heap:=u,drawn:=N });refine o0 (U8 (GL T2 ?_));have C:∀s' (f:Array J3) M,Moved (s.heap.objs.size::[I]) (fun a b=>b=a) { s with heap:=u,drawn:=N } s'->s'.heap.get? s.heap.objs.size=some (Ah f M)->ItemsOf (PSe g) f B.size ->
   K5 (N3 prog w) A (do match (<-load s.heap.objs.size).data with|.seq xs _=>ak7 xs.toList|_=>as2 "internal:collect") Q E s':=by
  intro s' f M m J j;refine o0 (ar3 J (J1 ?_));have O:f.toList=g.toList.map (·.2):=by
   apply Z9;intro i;rcases S3 i B.size with hi|hi
   ·have:f[i]?=some (f[i]'(by rw[j.1];exact hi)):=N4 _;obtain⟨e,e1,e2⟩:=j.2 i _ this;rw[R1,this,e2,N9,R1,e1];rfl
   ·rw[Q5 (by simp[j.1];exact hi),Q5 (by simp;lia)]
  rw[O];refine h s' g hp (fun b o e=>m.heap b o ?_ (k2 b o (k1 b o e))) m.gens m.os;have n:=K6 e;have Y:x.objs.size<=I:=hI;rw[a3]at Y;simp only[L1,R4,or_false,not_or];exact⟨K9 n,K9 (K7 (V1 n) Y)⟩
 have U:∀(R:at6->J5->Prop) (H:L5) (c:Nat),St 0 H->(∀b o,b≠s.heap.objs.size->u.get? b=some o->H.get? b=some o)->H.get? s.heap.objs.size=some (Ah #[] c) ->
   (∀s' (f:Array J3) M,Moved (s.heap.objs.size::[I]) (fun a b=>b=a) { s with heap:=u,drawn:=N } s'->s'.heap.get? s.heap.objs.size=some (Ah f M)->ItemsOf (PSe g) f B.size->R (.ok (.ret (.ref s.heap.objs.size))) s') ->
   ak4 (N3 prog w) A (.builtin "list.extend.loop" ⟨[.ref s.heap.objs.size,.ref I,.ref s.heap.objs.size],[]⟩) R { s with heap:=H,drawn:=N }:=by
  intro R H c a4 k3 z hR;refine codeAny_extend_loopS W.toS hn _ P _ B.size 0 _ #[] c rfl (P1 _) a4 z (ItemsOf.nil _) fun s' f M m J j=>hR s' f M ⟨fun b o n e=>m.heap b o n (k3 b o (fun q=>n (by simp[q])) e),m.gens,m.drawn,m.os,m.toks⟩ J j
 have G:=k2 _ _ hS;refine wpAny_ite_split (fun _=>?_) (fun _=>J1 ⟨ai2 PySem.F.plain_extend_loop _,?_⟩)
 ·refine o0 (ak0 ?_);refine o0 ?_;show K5 _ _ (updateSeq s.heap.objs.size (·.push .none) >>= fun _=>updateSeq s.heap.objs.size (·.pop)) _ _ _;refine o0 (wpAny_updateSeq G rfl ?_);have z:=T5 (am0 (·.push T9)) G rfl;refine wpAny_updateSeq z rfl ?_;have a1:=T5 (am0 (·.pop)) z rfl;have X:∀b o,b≠s.heap.objs.size->u.get? b=some o->((u.update s.heap.objs.size (am0 (·.push T9))).update s.heap.objs.size (am0 (·.pop))).get? b=some o :=
   fun b o n e=>(L5.get?_update_other _ _ (ab6 n)).trans ((L5.get?_update_other _ _ (ab6 n)).trans e)
  refine J1 ⟨ai2 PySem.F.plain_extend_loop _,?_⟩;exact U _ _ _ (W.frame 0 u _ st fun b n o e=>X b o (fun q=>P (q▸n)) e) X a1 C
 ·exact U _ u 0 st (fun b o _ e=>e) G C
end
end L2
namespace L2
open PySem PySem.Spec PyProof.Rows PySem.Calls
section
variable{X:Cx}{y:List (K1×Obj)}{s:J5}{σ:St}{H:Hp}{M:DH}
theorem Inv.with{s':J5}(I:Inv X y σ H s) (k:∀b u,s.heap.get? b=some u->s'.heap.get? b=some u) (g:s'.gens=s.gens) (o:s'.os=s.os):Inv X y σ H s':=by
 have a:Inv X y σ H { s with heap:=s'.heap,toks:=s'.toks }:=I.kept k;exact⟨a.ok,o.trans a.os,by rw[g];exact a.bare,a.base,a.loc,a.cell,a.free,a.freeC,a.pin,a.hok,a.len⟩
end
end L2
namespace L2
open PySem PySem.Spec PyProof.Rows
section
variable{X:Cx}{o i:O4}{z B:TEd}{y:Pos}
end
section
variable{P:M9}{w:P5}{K:J4}{z:Str->Option J3}{base:L5}{f:K1}{y:N2}
theorem Fun.okR{x c:Str}{st:ae4}{f:K1}{y:N2}{N ps:List Str}{k n:Nat}{S:SpD}(F:Fun K x c st f y) (hn:ps.length=n) (h:au N ps (ai st))
  (g:∀ (e:J3) (A:O9) (a:List Env) (s:J5) (H:Hp) (E:XK),cv k (A.deeper (au5 c (ai st) s.heap.objs.size f e)) →
   ∃t:TSd,QSs (sP CX0 P w K z base N c (ai st) f e A a s H E).nox (dE st) t/\∀ds M R (G:Prop),S ds M R->(t { nx:=fun _ i=>R .non i,rt:=R } (jE N ds) M->G)->G):aR P w K z base CX0 (k+1) f y ps (spD K n S):=by
 refine F.okD hn h fun e A a s H E m=>?_;obtain⟨t,l,j⟩:=g e A a s H E m;exact⟨t,CI l,fun ds M R _ o=>j ds M R _ o id⟩
theorem shr{p:Prop}(h:∀q:Prop,(p->q)->q):p:=h p id
end
end L2
namespace L2
open PySem PyProof.Rows
section
variable{prog:M9}{w:P5}{A:O9}{E:J3->J5->Prop}{s:J5}{O:af4}{key:Keyed->O.α}{y:List Keyed}{κ:ax2}
structure SB(y:List Keyed) (κ:ax2) (st:SortSt):Prop where
 perm:(arrOf st).toList.Perm y
 kind:aq3 st=κ
 fail:failedOf st=none
theorem SB.size{st:SortSt}(h:SB y κ st):(arrOf st).size=y.length:=by rw[<-L8];exact h.perm.length_eq
end
section
variable{prog:M9}{w:P5}{A:O9}{E:J3->J5->Prop}{s:J5}{O:af4}{key:Keyed->O.α}{B:List Keyed}{κ:ax2}
def kl(key:Keyed->O.α) (x y:Keyed):Prop:=O.kle (key x) (key y)
variable{a b z:Array Keyed}{H I k:Nat}
end
end L2
namespace L2
open PySem PySem.SetTable
theorem k4{a:Type}(xs:Array a) (p:Nat) (x:a):(insertAt xs p x).toList=xs.toList.take p++x::xs.toList.drop p:=by
 unfold insertAt;rw[Array.toList_append,Array.toList_push,Array.toList_extract,Array.toList_extract,List.extract_eq_take_drop,List.extract_eq_take_drop];rw[List.drop_zero,Nat.sub_zero,Z0 (l:=xs.toList.drop p) (by simp)];simp
theorem iV{xs:Array Nat}{i d:Nat}:xs.getD i d=xs.toList[i]?.getD d:=by
 rw[R1]
 by_cases h:i<xs.size
 ·simp[X7,h]
 ·simp[X7,h]
theorem sZ{xs:Array Nat}{p x:Nat}(f:p<=xs.size) (i:Nat):(insertAt xs p x).getD i 0=if i<p then xs.getD i 0 else if i=p then x else xs.getD (i-1) 0:=by
 have c:(xs.toList.take p).length=p:=by simp;lia
 rw[iV,k4,ak6,c]
 by_cases a:i<p
 ·rw[if_pos a,if_pos a,ad4 a,iV]
 ·rw[if_neg a,if_neg a]
  by_cases b:i=p
  ·rw[if_pos b,b];simp
  ·rw[if_neg b];obtain⟨m,e⟩:∃m,i-p=m+1:=⟨i-p-1,by lia⟩;rw[e,U4,List.getElem?_drop,iV];congr 2;lia
theorem iO{a:Type}(xs:Array a) (p:Nat) (x:a) (c:p<=xs.size):(insertAt xs p x).size=xs.size+1:=by
 rw[<-L8,k4];simp;lia
theorem wY{xs:Array Nat}{p x:Nat}(c:p<=xs.size) {j:Nat}(h:Occ xs j):Occ (insertAt xs p x) j:=by
 obtain⟨i,f,e⟩:=h
 by_cases a:i<p
 ·exact⟨i,by rw[iO _ _ _ c];exact P9 (by assumption),by rw[sZ c,if_pos a];exact e⟩
 ·exact⟨i+1,by rw[iO _ _ _ c];lia,by rw[sZ c,if_neg (by lia),if_neg (by lia)];exact e⟩
theorem TB.put{t:S0}{hs:List Int}(T:TB t hs) {h:Int}{n:Nat}(Q:¬ Occ t.place (pth t.mask h n).j) (J:∀m,m<n->Occ t.place (pth t.mask h m).j) (A:t.place.size+1<=t.mask) :
  ∃p,p<=hs.length/\(t.put (pth t.mask h n).j).2=p/\TB (t.put (pth t.mask h n).j).1 (hs.take p++h::hs.drop p)/\(t.put (pth t.mask h n).j).1.led=t.led/\(t.put (pth t.mask h n).j).1.plain=t.plain/\(t.put (pth t.mask h n).j).1.mask=t.mask/\(t.put (pth t.mask h n).j).1.place.size=t.place.size+1:=by
 generalize H:(pth t.mask h n).j=j at *
 have C:j<=t.mask:=by rw[<-H];exact vA n
 obtain⟨o,M,N⟩:=nB T.up j;have sz:=T.sz;have I:has t.dummies j=false:=by rw[T.dm];rfl
 have e:t.put j=({ t with place:=insertAt t.place (below t.place j) j,dummies:=t.dummies },below t.place j):=by unfold S0.put;rw[I];rfl
 rw[e];dsimp only;generalize U:below t.place j=p at *
 have E:∀i,p<=i->i<t.place.size->j<t.place.getD i 0:=fun i B z=>by
  have:=N i B z;rcases S3 j (t.place.getD i 0)with q|q
  ·exact q
  ·exact absurd ⟨i,z,by lia⟩ Q
 have l:=iO t.place p j o;refine⟨p,by lia,rfl,⟨?_,?_,?_,T.dm,T.pw,by rw[l];exact A,?_⟩,rfl,rfl,rfl,l⟩
 ·show(insertAt t.place p j).size=_;rw[l,N7,R3,M8,V5];lia
 ·intro i k hik hk;have S:k<t.place.size+1:=by rw[<-l];exact hk
  show(insertAt t.place p j).getD i 0<(insertAt t.place p j).getD k 0;rw[sZ o,sZ o]
  by_cases c:i<p
  ·rw[if_pos c]
   by_cases G:k<p
   ·rw[if_pos G];exact T.up i k hik (by exact K7 (by assumption) (by assumption))
   ·rw[if_neg G]
    by_cases f:k=p
    ·rw[if_pos f];exact M i c
    ·rw[if_neg f];exact T.up i (k-1) (by lia) (by lia)
  ·rw[if_neg c,if_neg (show ¬ k<p by lia),if_neg (show ¬ k=p by lia)]
   by_cases f:i=p
   ·rw[if_pos f];exact E _ (by lia) (by lia)
   ·rw[if_neg f];exact T.up (i-1) (k-1) (by lia) (by lia)
 ·intro i P;have L:i<t.place.size+1:=by rw[<-l];exact P
  show(insertAt t.place p j).getD i 0<=t.mask;rw[sZ o]
  by_cases c:i<p
  ·rw[if_pos c];exact T.le i (by exact K7 (by assumption) (by assumption))
  ·rw[if_neg c]
   by_cases f:i=p
   ·rw[if_pos f];exact C
   ·rw[if_neg f];exact T.le _ (by lia)
 ·intro i g s;have O:(hs.take p).length=p:=by simp;lia
  have w:∀x,hs[x]?=some g->(insertAt t.place p j).getD i 0=t.place.getD x 0->∃n,(pth t.mask g n).j=(insertAt t.place p j).getD i 0/\∀m,m<n->Occ (insertAt t.place p j) (pth t.mask g m).j:=fun x B z=>by
   obtain⟨R,a,b⟩:=T.pr x g B;exact⟨R,by rw[a,z],fun m u=>wY o (b m u)⟩
  rw[ak6,O]at s
  by_cases c:i<p
  ·rw[if_pos c,ad4 c]at s;exact w i s (by rw[sZ o,if_pos c])
  ·rw[if_neg c]at s
   by_cases f:i=p
   ·rw[f,au1,aa8]at s;cases s;exact⟨n,by show _=(insertAt t.place p j).getD i 0;rw[sZ o,if_neg c,if_pos f];exact H,fun m u=>wY o (J m u)⟩
   ·obtain⟨m,u⟩:∃m,i-p=m+1:=⟨i-p-1,by lia⟩;rw[u,U4,List.getElem?_drop]at s;exact w _ s (by rw[sZ o,if_neg c,if_neg f];congr 1;lia)
variable{mask:Nat}{h:Int}
abbrev Ow:=Array (Option Nat)
def ocO(ow:Ow) (j:Nat):Prop:=ow.getD j (some 0)≠none
theorem wU{ow:Ow}(hs:ow.size=mask+1) {M:Nat}(u:ow.getD (rs mask h M).1 (some 0)=none):∀F m n,m<=M->M-m<F->pth mask h n=atR mask (rs mask h m)->(∀l,l<n->ocO ow (pth mask h l).j) ->
  ∃i,layClean.free mask ow F (rs mask h m).1 (rs mask h m).2=some (pth mask h i).j/\ow.getD (pth mask h i).j (some 0)=none/\∀l,l<i->ocO ow (pth mask h l).j
 |0,m,n,A,x,_,_=>by lia
 |F+1,m,n,A,x,e,o=>by
  have lt:=Ec (mask:=mask) (h:=h) m;have len:runEnd mask (rs mask h m).1+1-(rs mask h m).1=runEnd mask (rs mask h m).1-(rs mask h m).1+1:=by
   have:(rs mask h m).1<=runEnd mask (rs mask h m).1:=by unfold runEnd;split<;>lia
   lia
  have j:∀q,q<=runEnd mask (rs mask h m).1-(rs mask h m).1->(pth mask h (n+q)).j=(rs mask h m).1+q:=fun q g=>by rw[rW e q g]
  unfold layClean.free;rw[len];cases c:(N5 (runEnd mask (rs mask h m).1-(rs mask h m).1+1)).find? fun k=>(ow.getD ((rs mask h m).1+k) (some 0)).isNone with
  |some k =>
   dsimp only;have G:=P6.mp (List.mem_of_find?_eq_some c);have C:=List.find?_some c;refine⟨n+k,by rw[j k (by lia)],by rw[j k (by lia)];simpa using C,fun l B=>?_⟩;rcases S3 l n with a|a
   ·exact o l a
   ·obtain⟨q,rfl⟩:∃q,l=n+q:=⟨l-n,by lia⟩;unfold ocO;rw[j q (by lia)];intro z;obtain⟨p,bs,s,w⟩:=(List.find?_eq_some_iff_append.mp c).2;have:q∈p:=by
     have g:q∈N5 (runEnd mask (rs mask h m).1-(rs mask h m).1+1):=P6.mpr (by lia);have f:(p++k::bs).Pairwise (·<·):=by rw[<-s];exact List.pairwise_lt_range
     rw[s]at g;rcases L4.mp g with r|r
     ·exact r
     ·rw[List.pairwise_append]at f;rcases L1.mp r with r|r
      ·lia
      ·have:=(aj0.mp f.2.1).1 q r;lia
    have:=w q this;rw[z]at this;simp at this
  |none =>
   dsimp only;have all:=List.find?_eq_none.mp c;have E:m≠M:=fun z=>by
    subst z;have:=all 0 (P6.mpr (by lia));rw[Nat.add_zero,u]at this;simp at this
   show ∃i,layClean.free mask ow F (rs mask h (m+1)).1 (rs mask h (m+1)).2=_/\_;refine wU hs u F (m+1) (n+(runEnd mask (rs mask h m).1-(rs mask h m).1)+1) (by lia) (by lia) ?_ fun l B=>?_
   ·show pA mask (pth mask h (n+_))=_;rw[rW e _ (J7 _)];unfold pA;rw[if_neg (by simp)];rfl
   ·rcases S3 l n with a|a
    ·exact o l a
    ·obtain⟨q,rfl⟩:∃q,l=n+q:=⟨l-n,by lia⟩;unfold ocO;rw[j q (by lia)];intro z;have:=all q (P6.mpr (by lia));rw[z]at this;simp at this
noncomputable def lv(mask:Nat) (ow:Ow):List (Nat×Nat):=(N5 (mask+1)).filterMap fun j=>(ow.getD j none).map (j,·)
theorem uY{ow:Ow}{j:Nat}(c:j<ow.size) (a b:Option Nat):ow.getD j a=ow.getD j b:=by simp[X7,c]
theorem ES{ow:Ow}(hs:ow.size=mask+1) {s k:Nat}(a:s<=mask) (hn:ow.getD s none=none):(lv mask (ow.setIfInBounds s (some k))).Perm ((s,k)::lv mask ow):=by
 unfold lv;have c:N5 (mask+1)=N5 s++s::(List.range' (s+1) (mask-s)):=by
  rw[List.range_eq_range',List.range_eq_range',show mask+1=s+(1+(mask-s))by lia,<-List.range'_append_1,<-List.range'_append_1];simp[Nat.add_comm]
 have same:∀l:List Nat,s∉l->(l.filterMap fun j=>((ow.setIfInBounds s (some k)).getD j none).map (j,·))=l.filterMap fun j=>(ow.getD j none).map (j,·):=fun l a=>by
  induction l with
  |nil=>rfl
  |cons j l ih =>
   have this:s≠j:=fun z=>a (z▸.head _);rw[T6,T6,ih fun z=>a (.tail _ z)];simp only[V3,ae1,if_neg this]
 rw[c,aj4,aj4,T6,T6,hn,same _ (by simp),same _ (fun z=>by obtain⟨x,_,z⟩:=List.mem_range'.mp z;lia)];have:(ow.setIfInBounds s (some k)).getD s none=some k:=by simp[V3,show s<ow.size by lia]
 rw[this];simp only[aq0,Option.map_none];exact al4
structure LC(mask:Nat) (hs:List Int) (ow:Ow) (k:Nat):Prop where
 sz:ow.size=mask+1
 perm:((lv mask ow).map (·.2)).Perm (N5 k)
 pr:∀j i h,ow.getD j none=some i->hs[i]?=some h->∃n,(pth mask h n).j=j/\∀m,m<n->ocO ow (pth mask h m).j
theorem EJ{ow:Ow}(hs:ow.size=mask+1) {j i:Nat}(e:ow.getD j none=some i):(j,i)∈lv mask ow:=by
 have a:j<ow.size:=by
  rcases S3 j ow.size with q|q
  ·exact q
  ·simp[X7,show ¬ j<ow.size by lia]at e
 exact af3.mpr ⟨j,P6.mpr (by lia),by rw[e];rfl⟩
theorem BE{ow:Ow}(hs:ow.size=mask+1) (a:(lv mask ow).length<=mask):∃j,j<=mask/\ow.getD j none=none:=by
 refine Z3 fun c=>?_;have all:∀j∈N5 (mask+1),∃i,ow.getD j none=some i:=fun j g=>by
  cases q:ow.getD j none with
  |none=>exact absurd ⟨j,by have:=P6.mp g;lia,q⟩ c
  |some i=>exact⟨i,rfl⟩
 have:∀l:List Nat,(∀j∈l,∃i,ow.getD j none=some i)->(l.filterMap fun j=>(ow.getD j none).map (j,·)).length=l.length:=fun l=>by
  induction l with
  |nil=>exact fun _=>rfl
  |cons j l ih =>
   intro f;obtain⟨i,e⟩:=f j (.head _);rw[T6,e];simp only[aq0,M8];rw[ih fun x h=>f x (.tail _ h)]
 have q:=this _ all;rw[V2]at q;unfold lv at a
 lia
noncomputable abbrev lcF(mask:Nat) (a:Option (Ow×Nat)) (h:Int):Option (Ow×Nat):=do
 let(owner,k) <-a
 let j <-layClean.free mask owner (turns mask) (bits h % (mask+1)) (bits h)
 ak7 (owner.setIfInBounds j (some k),k+1)
theorem D0{e:Nat}(I:mask+1=2 ^ e) {hs:List Int}(B:hs.length<=mask):∀(f done:List Int) (ow:Ow),hs=done++f->LC mask hs ow done.length->∃x,f.foldl (lcF mask) (some (ow,done.length))=some (x,hs.length)/\LC mask hs x hs.length
 |[],done,ow,p,L=>⟨ow,by rw[p];simp,by rw[p];simpa[p]using L⟩
 |h::f,done,ow,p,L=>by
  have T:(lv mask ow).length=done.length:=by have:=L.perm.length_eq;simpa using this
  have lt:done.length<hs.length:=by rw[p];simp
  obtain⟨j,s,R⟩:=BE L.sz (by lia);obtain⟨m,_,A,_,O,_⟩:=wG (mask:=mask) (h:=h) I s;obtain⟨w,N,P,Q⟩:=wU (mask:=mask) (h:=h) (ow:=ow) L.sz (M:=m) (by rw[O,uY (by rw[L.sz];lia) (some 0) none];exact R) (turns mask) 0 0 (P1 _) (by unfold turns;lia) rfl (fun l S=>by lia);have J:=vA (mask:=mask) (h:=h) w;have st:lcF mask (some (ow,done.length)) h=some (ow.setIfInBounds (pth mask h w).j (some done.length),done.length+1):=by
   show(layClean.free mask ow (turns mask) (bits h % (mask+1)) (bits h) >>= fun j=>ak7 (ow.setIfInBounds j (some done.length),done.length+1))=_;have:layClean.free mask ow (turns mask) (bits h % (mask+1)) (bits h)=some (pth mask h w).j:=N;rw[this];rfl
  rw[am3,st];generalize H:(pth mask h w).j=o at *
  have C:ow.getD o none=none:=by rw[<-P];exact uY (by rw[L.sz];lia) _ _
  have u:∀j,ocO ow j->ocO (ow.setIfInBounds o (some done.length)) j:=fun j s z=>by
   unfold ocO at s;simp only[V3,ae1]at z s
   split at z
   ·split at z<;>simp at z
   ·exact s z
  have:=D0 I B f (done++[h]) (ow.setIfInBounds o (some done.length)) (by rw[p];simp) ⟨by rw[Array.size_setIfInBounds];exact L.sz,?_,?_⟩
  ·rw[N7,List.length_singleton]at this;exact this
  ·rw[N7,List.length_singleton,am6];refine((ES L.sz J C).map _).trans ?_;rw[L7];exact(ao4.cons _ L.perm).trans (List.perm_append_singleton _ _).symm
  ·intro j i g q E
   by_cases c:o=j
   ·have:i=done.length:=by
     simp only[V3,ae1,if_pos c]at q
     split at q
     ·simpa using q.symm
     ·simp at q
    subst this;have:g=h:=by rw[p,ab2 (J7 _),au1,aa8]at E;exact(V0 E).symm
    subst this;exact⟨w,by rw[H];exact c,fun m A=>u _ (Q m A)⟩
   ·have G:ow.getD j none=some i:=by
     simp only[V3,ae1,if_neg c]at q ⊢;exact q
    obtain⟨n,a,b⟩:=L.pr j i g G E;exact⟨n,a,fun m A=>u _ (b m A)⟩
theorem tD(n:Nat):∀F k,n<2 ^ (k+F)->∃e,k<=e/\sizeAbove.go n F (2 ^ k)=2 ^ e/\n<2 ^ e/\(e=k∨2 ^ e<=2*n)
 |0,k,h=>⟨k,J7 _,rfl,h,.inl rfl⟩
 |F+1,k,h=>by
  unfold sizeAbove.go
  by_cases c:2 ^ k<=n
  ·rw[if_pos c,show 2 ^ k*2=2 ^ (k+1)from(ao5 ..).symm];obtain⟨e,i,g,f,a⟩:=tD n F (k+1) (by rw[show k+1+F=k+(F+1)by lia];exact h);refine⟨e,by exact V4 (by assumption),g,f,.inr ?_⟩;rcases a with a|a
   ·rw[a,ao5];lia
   ·exact a
  ·rw[if_neg c];exact⟨k,J7 _,rfl,by lia,.inl rfl⟩
theorem sC{n:Nat}(h:n<2 ^ 60):∃e,3<=e/\sizeAbove n=2 ^ e/\n<2 ^ e/\(2 ^ e<=8∨2 ^ e<=2*n):=by
 obtain⟨e,g,f,a,c⟩:=tD n 64 3 (ao3 h (by decide));exact⟨e,g,f,a,c.imp (fun z=>by rw[z];decide) id⟩
variable{mask:Nat}
theorem HB(ow:Ow):((lv mask ow).map (·.1)).Pairwise (·<·):=by
 unfold lv;rw[List.map_filterMap,List.pairwise_filterMap];refine List.pairwise_lt_range.imp fun {a b} f x e y c=>?_;cases h:ow.getD a none with
 |none=>rw[h]at e;cases e
 |some i =>
  cases g:ow.getD b none with
  |none=>rw[g]at c;cases c
  |some k =>
   rw[h]at e;rw[g]at c;cases e;cases c;exact f
theorem DI{ow:Ow}{j i:Nat}(h:(j,i)∈lv mask ow):j<=mask/\ow.getD j none=some i:=by
 obtain⟨a,c,e⟩:=af3.mp h;have:=P6.mp c;cases q:ow.getD a none with
 |none=>rw[q]at e;cases e
 |some k=>rw[q]at e;cases e;exact⟨by lia,q⟩
theorem C1{t:S0}{hs:List Int}{wanted:Nat}(U:hs.length<=wanted) (M:wanted<2 ^ 60) (S:0<wanted):∃t' o,t.relaid hs.toArray wanted=some (t',o)/\t'.led=t.led/\t'.plain=t.plain/\t'.mask+1=sizeAbove wanted/\o.toList.Perm (N5 hs.length)/\t'.place.size=hs.length/\TB t' (o.toList.map fun k=>hs.getD k 0):=by
 obtain⟨e,Q,T,el,_⟩:=sC M;have R:0<2 ^ e:=Nat.two_pow_pos e;generalize C:sizeAbove wanted-1=mask;have I:mask+1=2 ^ e:=by lia
 have N:LC mask hs (aq1 (mask+1) none) 0:=by
  have z:∀j,(aq1 (mask+1) (none:Option Nat)).getD j none=none:=fun j=>by
   rw[V3,Array.getElem?_replicate];split<;>rfl
  refine⟨by simp,?_,fun j i h q _=>by rw[z]at q;cases q⟩;have:lv mask (aq1 (mask+1) none)=[]:=by
   unfold lv;rw[List.filterMap_eq_nil_iff];intro j _;rw[z];rfl
  rw[this];exact .refl _
 obtain⟨g,f,L⟩:=D0 I (hs:=hs) (by lia) hs [] _ rfl N;have A:layClean mask hs.toArray=some g:=by
  unfold layClean;rw[<-Array.foldl_toList];show(hs.foldl (lcF mask) (some (aq1 (mask+1) none,0))).map (·.1)=_;rw[show(0:Nat)=([]:List Int).length from rfl,f];rfl
 have P:t.relaid hs.toArray wanted=some ({ mask,place:=((lv mask g).map (·.1)).toArray,dummies:=#[],finger:=t.finger,led:=t.led,moves:=t.movedTo mask,plain:=t.plain },((lv mask g).map (·.2)).toArray):=by
  unfold relaid laid;rw[C,A];rfl
 have H:(lv mask g).length=hs.length:=by have:=L.perm.length_eq;simpa using this
 have u:∀i,((lv mask g).map (·.1)).toArray.getD i 0=((lv mask g)[i]?.map (·.1)).getD 0:=fun i=>by rw[iV];simp
 have p:((lv mask g).map (·.1)).toArray.size=hs.length:=by simp[H]
 have B:∀j,j<=mask->ocO g j->Occ ((lv mask g).map (·.1)).toArray j:=fun j G q=>by
  cases c:g.getD j none with
  |none=>exact absurd (by rw[uY (by rw[L.sz];lia) (some 0) none];exact c) q
  |some i =>
   obtain⟨l,A⟩:=T4.mp (EJ L.sz c);exact⟨l,by rw[p,<-H];exact(L6.mp A).1,by rw[u,A];rfl⟩
 refine⟨_,_,P,rfl,rfl,by show mask+1=_;lia,by simpa using L.perm,p,⟨by simp,?_,?_,rfl,⟨e,Q,I⟩,by show((lv mask g).map (·.1)).toArray.size<=mask;lia,?_⟩⟩
 ·intro i j E G;rw[p]at G;have:=ag1.mp (HB (mask:=mask) g) i j (by simp;lia) (by simp;lia) E;show((lv mask g).map (·.1)).toArray.getD i 0<((lv mask g).map (·.1)).toArray.getD j 0;rw[u,u,J6 (by lia),J6 (by lia)];simpa using this
 ·intro i s;rw[p]at s;show((lv mask g).map (·.1)).toArray.getD i 0<=mask;rw[u,J6 (by lia)];exact(DI (V6 (by lia))).1
 ·intro i h s;show ∃n,(pth mask h n).j=((lv mask g).map (·.1)).toArray.getD i 0/\∀m,m<n->Occ ((lv mask g).map (·.1)).toArray (pth mask h m).j;simp only[N9]at s;cases c:(lv mask g)[i]? with
  |none=>rw[c]at s;cases s
  |some J =>
   obtain⟨j,k⟩:=J;rw[c]at s;have w:=O5 c;have x:k<hs.length:=P6.mp (L.perm.mem_iff.mp (M7.mpr ⟨_,w,rfl⟩));have O:hs[k]?=some h:=by
    have:hs.getD k 0=h:=by simpa using s
    rw[J6 x,<-this];simp[x]
   obtain⟨n,a,b⟩:=L.pr j k h (DI w).2 O;exact⟨n,by rw[u,c];exact a,fun m C=>B _ (vA m) (b m C)⟩
end L2
namespace L2
open PySem PySem.SetTable PySem.SeqAt
set_option genInjectivity false in
structure TK(prog:M9) (w:P5) (B:Type) where
 is:L5->B->J3->Prop
 hash:B->Int
 room:O9->Prop
 pyHash:∀{A:O9} {E:J3->J5->Prop} {s:J5} {x:B} {v:J3} {Q:Int->J5->Prop},room A->is s.heap x v->(∀t,s.toks<=t->Q (hash x) { s with toks:=t })->K5 (N3 prog w) A (PySem.pyHash v) Q E s
 eqB:∀{A:O9} {s:J5} {x y:B} {v u:J3},room A->is s.heap x v->is s.heap y u->∃b:Bool,(b=true↔x=y)/\EqAt A s v u b
 quiet:∀{A:O9} {E:J3->J5->Prop} {s:J5} {x:B} {v:J3} {Q:Bool->J5->Prop},room A->is s.heap x v->Q true s->K5 (N3 prog w) A (eqIsQuiet 8 v) Q E s
 noCls:∀{A:O9} {E:J3->J5->Prop} {s:J5} {x:B} {v:J3} {Q:Bool->J5->Prop},room A->is s.heap x v->Q false s->K5 (N3 prog w) A (ofAClassStatement 8 v) Q E s
 byV:∀{A:O9} {E:J3->J5->Prop} {s:J5} {x:B} {v:J3} {Q:Bool->J5->Prop},room A->is s.heap x v->(∀b,Q b s)->K5 (N3 prog w) A (hashByValue 8 v) Q E s
 ref:∀{h:L5} {x:B} {v:J3},is h x v->∃a,v=.ref a
variable{prog:M9}{w:P5}{B:Type}{κ:TK prog w B}{A:O9}{E:J3->J5->Prop}{s:J5}
structure Els(κ:TK prog w B) (h:L5) (es:Array (Int×J3)) (zs:List B):Prop where
 len:es.size=zs.length
 at_:∀(i:Nat) z,zs[i]?=some z->∃v,es[i]?=some (κ.hash z,v)/\κ.is h z v
noncomputable def dS(a:Array (Int×J3)):List Int:=a.toList.map (·.1)
theorem Els.of{h:L5}{f:Array (Int×J3)}{a:List B}(L:Els κ h f a) {i:Nat}{e:Int×J3}(g:f[i]?=some e):∃z,a[i]?=some z/\e.1=κ.hash z/\κ.is h z e.2:=by
 have c:i<a.length:=by rw[<-L.len];exact(X8.mp g).1
 obtain⟨v,j,q⟩:=L.at_ i a[i] (J6 c);rw[g]at j;cases j;exact⟨_,J6 c,rfl,q⟩
theorem GN{x:B}{v:J3}(hr:κ.room A) (j:κ.is s.heap x v) {Q:Bool->J5->Prop}(h:Q false s):∀(l:List J3),(∀u∈l,∃y,κ.is s.heap y u)->K5 (N3 prog w) A (searchCouldBeSeen v l) Q E s:=by
 intro l m;unfold searchCouldBeSeen;refine o0 ?_;refine al5 _ (fun rest b g=>g=s/\b=(none,())/\∀u∈rest,∃y,κ.is s.heap y u) _ ?_ ?_ _ _ ⟨rfl,rfl,m⟩
 ·rintro u rest b g ⟨rfl,rfl,f⟩;obtain⟨y,i⟩:=f u (.head _);obtain⟨a,rfl⟩:=κ.ref j;obtain⟨c,rfl⟩:=κ.ref i;have e:∀u∈rest,∃y,κ.is g.heap y u:=fun u n=>f u (.tail _ n);dsimp only
  split
  ·exact J1 ⟨rfl,rfl,e⟩
  ·refine o0 (κ.quiet hr j ?_);simp only[aa9,J9,if_false];refine o0 (κ.quiet hr i ?_);simp only[aa9,J9,if_false];refine o0 (κ.noCls hr j ?_);simp only[J9,if_false];refine o0 (κ.noCls hr i ?_);simp only[J9,if_false];exact J1 ⟨rfl,rfl,e⟩
 ·rintro b g ⟨rfl,rfl,_⟩;exact J1 h
theorem FS{a:K1}{o:Obj}{H:Array (Int×J3)}{ep:Nat}{t:S0}{C:List B}{x:B}{v:J3}{n0:Nat}(hr:κ.room A) (hx:κ.is s.heap x v) (ho:s.heap.get? a=some o) (hd:o.data=.set H ep t) (L:Els κ s.heap H C) (T:TB t (dS H))
  (f0:¬ Occ t.place (pth t.mask (κ.hash x) n0).j) (f1:∀m,m<n0->Occ t.place (pth t.mask (κ.hash x) m).j) {Q:SetFound->J5->Prop} (hy:x∈C->∀i,Q (.there i) s) (hn:x∉C->Q (.free (pth t.mask (κ.hash x) n0).j false) s) :
  ∀F n h,h.getD (t.probeStart (κ.hash x))=pth t.mask (κ.hash x) n->n<=n0->n0-n<F->n0<10*turns t.mask->(∀l,l<n->∀i,i<t.place.size->t.place.getD i 0=(pth t.mask (κ.hash x) l).j->C[i]?≠some x)->K5 (N3 prog w) A (as7 a v (κ.hash x) true F h) Q E s:=by
 have j:(dS H).length=H.size:=by simp[dS]
 have fit:t.fits H.size=true:=by
  unfold S0.fits fill;rw[T.dm,T.sz,j];have:=T.few;rw[T.sz,j]at this;simpa using this
 have gw:t.gaveWay=false:=by
  obtain⟨k,k3,U⟩:=T.pw;unfold gaveWay;obtain⟨m,rfl⟩:∃m,k=m+1:=⟨k-1,by lia⟩;rw[ao5]at U;have:t.mask % 2=1:=by lia
  rw[this];rfl
 have I:∀{i k},i<t.place.size->k<t.place.size->t.place.getD i 0=t.place.getD k 0->i=k:=fun {i k} J U e=>by
  rcases an6 i k with q|q|q
  ·have:=T.up i k q U;lia
  ·exact q
  ·have:=T.up k i q J;lia
 intro F
 induction F with
 |zero=>intro n h _ _ h3;lia
 |succ F ih =>
  intro n h e h2 h3 h4 h5;unfold as7;refine o0 (ah1 ho hd fit ?_);dsimp only;rw[gw];simp only[J9,if_false];unfold S0.probe;rw[e];obtain⟨G,O⟩:∃G:Nat->Int,G=fun i=>(H[i]?.map (·.1)).getD 0:=⟨_,rfl⟩;obtain⟨m,m1,m2,m3,m4⟩:=sH T f0 f1 (ha:=G) (10*turns t.mask) n h2 (by lia);have a0:∀(i:Nat) z,C[i]?=some z->G i=κ.hash z:=fun i z R=>by
   obtain⟨u,g,_⟩:=L.at_ i z R;rw[O];simp[g]
  have skip:∀l,l<m->∀i,i<t.place.size->t.place.getD i 0=(pth t.mask (κ.hash x) l).j->C[i]?≠some x:=fun l hl i J he R=>by
   rcases S3 l n with q|q
   ·exact h5 l q i J he R
   ·obtain⟨k,k1,X,k3⟩:=m3 l q hl;obtain rfl:=I J k1 (he.trans X.symm);exact k3 (a0 _ _ R)
  rcases m4 with⟨rfl,em⟩|⟨a3,i,i1,i2,i3,em⟩
  ·have N:∀f:Nat->Int,f=G->probe.go t f (κ.hash x) (10*turns t.mask) (pth t.mask (κ.hash x) n)=probe.go t G (κ.hash x) (10*turns t.mask) (pth t.mask (κ.hash x) n):=fun f hf=>by rw[hf]
   rw[N _ ?_,em]
   rotate_left
   ·rw[O];rfl
   dsimp only;refine J1 (hn fun R=>?_);obtain⟨i,J⟩:=T4.mp R;have S:i<t.place.size:=by rw[T.sz,j,L.len];exact(L6.mp J).1
   obtain⟨u,g,_⟩:=L.at_ i x J;obtain⟨nn,a1,a2⟩:=T.pr i (κ.hash x) (by rw[dS,N9,R1,g];rfl);have lt:nn<m:=by
    rcases an6 nn m with q|q|q
    ·exact q
    ·subst q;exact absurd ⟨i,S,a1.symm⟩ f0
    ·exact absurd (a2 m q) f0
   exact skip nn lt i S a1.symm J
  ·have N:∀f:Nat->Int,f=G->probe.go t f (κ.hash x) (10*turns t.mask) (pth t.mask (κ.hash x) n)=probe.go t G (κ.hash x) (10*turns t.mask) (pth t.mask (κ.hash x) n):=fun f hf=>by rw[hf]
   rw[N _ ?_,em]
   rotate_left
   ·rw[O];rfl
   dsimp only;have iz:i<C.length:=by rw[<-L.len,<-j,<-T.sz];exact i1
   obtain⟨u,gu,Z⟩:=L.at_ i C[i] (J6 iz);have M:K5 (N3 prog w) A (do
     let some (_,y):=H[i]?|as2 "internal:set-entry"
     let p <-ax4 [y] (eqBool y v)
     let(es',_,t') <-setState a
     if true&&p then return .there none
     let some same:=t'.sameMemory t.moves t.mask|as2 "set.changed-during-lookup:is-the-new-block-at-the-old-address"
     let P <-match (if same then t'.slot (pth t.mask (κ.hash x) m).j else .empty)with
      |.live Y=>match es'[Y]? with
       |some (_,y')=>do ak7 (if <-isSame y' y then some Y else none)
       |none=>ak7 none
      |_=>ak7 none
     match P with
     |none=>rule "set.search.anew";as7 a v (κ.hash x) true F none
     |some Y=>if p then return .there (some Y)else as7 a v (κ.hash x) true F (some (pth t.mask (κ.hash x) (m+1)))) Q E s:=by
    rw[gu];dsimp only;obtain⟨b,hb,eq⟩:=κ.eqB hr Z hx;refine o0 (U8 (eq prog w _ _ ?_));refine o0 (ah1 ho hd fit ?_);dsimp only;cases b with
    |true =>
     have:C[i]=x:=hb.mp rfl;exact J1 (hy (this▸V6 iz) _)
    |false =>
     have ne:C[i]≠x:=fun z=>by have:=hb.mpr z;cases this
     simp only[ak8,J9,if_false];rw[show t.sameMemory t.moves t.mask=some true by simp[sameMemory]];dsimp only;rw[pO T.up i1 i2];simp only[if_true];rw[gu];dsimp only;obtain⟨c,rfl⟩:=κ.ref Z;refine o0 (wpAny_isSame_ref_self (o0 (J1 ?_)));simp only[if_true];refine ih (m+1) _ rfl a3 (by lia) h4 fun l hl k k1 X=>?_;rcases S3 l m with q|q
     ·exact skip l q k k1 X
     ·obtain rfl:l=m:=by lia
      obtain rfl:=I k1 i1 (X.trans i2.symm);rw[J6 iz];intro z;exact ne (V0 z)
   by_cases led:t.led=true
   ·rw[led];simp only[aa9,J9,if_false];exact M
   ·rw[show t.led=false by simpa using led];simp only[ag2,if_true];refine o0 (GN hr hx ?_ _ fun u Z=>?_)
    ·simp only[J9,if_false];exact M
    ·obtain⟨e,he,rfl⟩:=M7.mp Z;have a4:e∈H:=(Array.mem_filter.mp (Array.mem_def.mpr he)).1;obtain⟨k,U,ek⟩:=Array.mem_iff_getElem.mp a4;obtain⟨z,_,_,q⟩:=L.of (i:=k) (e:=e) (by rw[N4 U,ek]);exact⟨z,q⟩
variable{prog:M9}{w:P5}{B:Type}{κ:TK prog w B}{A:O9}{E:J3->J5->Prop}{s:J5}
structure F0(κ:TK prog w B) (h:L5) (a:K1) (o:Obj) (es:Array (Int×J3)) (ep:Nat) (t:S0) (zs:List B):Prop where
 get:h.get? a=some o
 ex:o.ExactSet
 data:o.data=.set es ep t
 el:Els κ h es zs
 nd:zs.Nodup
 tb:TB t (dS es)
 led:t.led=!w.params.followText "set-order"
 roomy:es.size*5<t.mask*3
 small:t.mask<=7∨t.mask<=8*es.size
def jX(κ:TK prog w B) (h:L5) (a:K1) (xs:List B):Prop:=∃o f e t c,F0 κ h a o f e t c/\c.Perm xs
theorem Els.keep{h h':L5}{c:Array (Int×J3)}{a:List B}(L:Els κ h c a) (k:∀z v,κ.is h z v->κ.is h' z v):Els κ h' c a:=⟨L.len,fun i z e=>by obtain⟨v,g,q⟩:=L.at_ i z e;exact⟨v,g,k z v q⟩⟩
theorem jX.mono{h h':L5}{a:K1}{xs:List B}(S:jX κ h a xs) (k:∀o,h.get? a=some o->h'.get? a=some o) (g:∀z v,κ.is h z v->κ.is h' z v):jX κ h' a xs:=by
 obtain⟨o,e,f,t,c,q,p⟩:=S;exact⟨o,e,f,t,c,⟨k _ q.get,q.ex,q.data,q.el.keep g,q.nd,q.tb,q.led,q.roomy,q.small⟩,p⟩
theorem xr{h:L5}{c:Array (Int×J3)}{e:List B}{x:B}{v:J3}{p:Nat}(L:Els κ h c e) (q:κ.is h x v) (l:p<=e.length):Els κ h (insertAt c p (κ.hash x,v)) (e.take p++x::e.drop p):=by
 have lt:(c.toList.take p).length=p:=by rw[R3,L8,L.len];lia
 have g:(e.take p).length=p:=by rw[R3];lia
 refine⟨by rw[iO _ _ _ (by rw[L.len];exact l),N7,M8,g,V5,L.len];lia,fun i z a=>?_⟩;have n:(insertAt c p (κ.hash x,v))[i]?=(c.toList.take p++(κ.hash x,v)::c.toList.drop p)[i]?:=by rw[<-k4,R1]
 rw[n];rw[ak6,g]at a;rw[ak6,lt]
 by_cases f:i<p
 ·rw[if_pos f,ad4 f]at a;rw[if_pos f,ad4 f,R1];exact L.at_ i z a
 ·rw[if_neg f]at a ⊢
  by_cases j:i=p
  ·rw[j,au1,aa8]at a ⊢;cases a;exact⟨v,rfl,q⟩
  ·obtain⟨m,o⟩:∃m,i-p=m+1:=⟨i-p-1,by lia⟩;rw[o,U4,List.getElem?_drop]at a ⊢;rw[R1];exact L.at_ _ z a
theorem TB.plain{t:S0}{hs:List Int}(T:TB t hs) (b:Bool):TB { t with plain:=b } hs:=⟨T.sz,T.up,T.le,T.dm,T.pw,T.few,T.pr⟩
theorem TB.fit{t:S0}{c:Array (Int×J3)}(T:TB t (dS c)):t.fits c.size=true:=by
 have a:(dS c).length=c.size:=by simp[dS]
 unfold S0.fits fill;rw[T.dm,T.sz,a];have:=T.few;rw[T.sz,a]at this;simpa using this
theorem xq{h:L5}{a:K1}{o:Obj}{f:Array (Int×J3)}{ep:Nat}{t:S0}(g:h.get? a=some o) (e:o.data=.set f ep t) (c:Array (Int×J3)) (t':S0) :
  (h.update a (aw7 c t')).get? a=some { o with data:=.set c (ep+1) t' }:=by
 have:=T5 (aw7 c t') g (by rw[putSet_of c t' e];rfl);rw[putSet_of c t' e]at this;exact this
theorem so{a:Array (Int×J3)}:∀{l:List Nat},(∀k∈l,k<a.size)->(l.filterMap fun k=>a[k]?)=l.map fun k=>a.getD k (0,.none)
 |[],_=>rfl
 |k::l,h=>by
  have c:=h k (.head _);rw[T6,N4 c,L7,so fun j e=>h j (.tail _ e)];simp[X7,c]
theorem rD{l:List B}{k:Nat}(h:k<l.length) (d:B):l[k]?=some (l.getD k d):=by rw[Q3,J6 h];rfl
theorem nP(l:List B) (d:B):(N5 l.length).map (fun k=>l.getD k d)=l:=by
 refine Z9 fun i=>?_;rw[N9];rcases S3 i l.length with q|q
 ·rw[List.getElem?_range q,rD q d];rfl
 ·rw[Q5 (by rw[V2];exact q),Q5 q];rfl
theorem Jo{a:K1}{xs:List B}{x:B}{v:J3}{Q:Bool->J5->Prop}(hr:κ.room A) (Y:κ.is s.heap x v) (hS:jX κ s.heap a xs) (a7:xs.length<1000) (kp:∀h' z v,O6 a s.heap h'->κ.is s.heap z v->κ.is h' z v)
  (h:∀b h',O6 a s.heap h'->(x∈xs->jX κ h' a xs)->(x∉xs->jX κ h' a (xs++[x]))->Q b { s with heap:=h' }):K5 (N3 prog w) A (setAddHashed a v (κ.hash x)) Q E s:=by
 obtain⟨o,f,ep,t,m,q,T⟩:=hS;have N:(dS f).length=f.size:=by simp[dS]
 have lz:f.size=xs.length:=by rw[q.el.len,T.length_eq]
 obtain⟨n0,n1,f0,f1⟩:=q.tb.free (κ.hash x);have hm:t.mask<=8000:=by have:=q.small;lia
 obtain⟨r,rfl⟩:=κ.ref Y;have a2:s={ s with heap:=s.heap }:=by cases s;rfl
 unfold setAddHashed setAddHashedIn;refine U8 (o0 (ah1 q.get q.data q.tb.fit ?_));dsimp only;rw[show byScan (.ref r) f=false by unfold byScan;rfl];simp only[J9,if_false];unfold setSearch;refine o0 (FS hr Y q.get q.data q.el q.tb f0 f1 (fun P i=>?_) (fun P=>?_) 100000 0 none rfl (P1 _) (by lia) (by unfold turns;lia) (fun l hl=>by lia))
 ·refine J1 ?_;rw[a2];exact h _ s.heap (O6.refl a s.heap) (fun _=>⟨o,f,ep,t,m,q,T⟩) fun hn=>absurd (T.mem_iff.mp P) hn
 ·have hn:x∉xs:=fun z=>P (T.mem_iff.mpr z);have fl:t.place.size+1<=t.mask:=by
   have:=q.roomy;have:=q.tb.sz;obtain⟨k,k3,M⟩:=q.tb.pw;have:2 ^ 3<=2 ^ k:=Nat.pow_le_pow_right (by decide) k3
   lia
  obtain⟨p,hp,e2,R,l1,_,m1,z1⟩:=q.tb.put f0 f1 fl;rw[N]at hp;dsimp only;refine o0 (ah1 q.get q.data q.tb.fit ?_);dsimp only;generalize ht:t.put (pth t.mask (κ.hash x) n0).j=tp at *
  obtain⟨t1,j⟩:=tp;dsimp only at e2 R l1 m1 z1 ⊢;subst e2;have pz:j<=m.length:=by rw[<-q.el.len];exact hp
  have a6:dS (insertAt f j (κ.hash x,.ref r))=(dS f).take j++κ.hash x::(dS f).drop j:=by unfold dS;rw[k4];simp[as8,ap1]
  have L:(insertAt f j (κ.hash x,.ref r)).size=f.size+1:=iO _ _ _ hp;have Z:(m.take j++x::m.drop j).Nodup:=by
   rw[al4.nodup_iff,List.take_append_drop,aa4];exact⟨P,q.nd⟩
  have U:(m.take j++x::m.drop j).Perm (xs++[x]):=by
   refine al4.trans ?_;rw[List.take_append_drop];exact(ao4.cons _ T).trans (List.perm_append_singleton _ _).symm
  have go:∀C:S0,TB C (dS (insertAt f j (κ.hash x,.ref r)))->C.led=t.led->C.mask=t.mask->C.place.size=t.place.size+1->K5 (N3 prog w) A (do
     storeSet a (insertAt f j (κ.hash x,.ref r)) C
     if !false&&C.tooFull then setRelay a (grown (f.size+1))
     return true) Q E s:=by
   intro C T2 ld mk a5;refine o0 (wpAny_storeSet_of q.get q.data ?_ (an7 (by unfold ay0;lia)));have H:=xq q.get q.data (insertAt f j (κ.hash x,.ref r)) C;have J:=Q7 s.heap a (aw7 (insertAt f j (κ.hash x,.ref r)) C);generalize a8:s.heap.update a (aw7 (insertAt f j (κ.hash x,.ref r)) C)=h1 at *
   have G:Els κ h1 (insertAt f j (κ.hash x,.ref r)) (m.take j++x::m.drop j):=(xr q.el Y pz).keep fun z v P=>kp _ z v J P;have tf:C.tooFull=decide ((f.size+1)*5>=t.mask*3):=by
    unfold tooFull fill;rw[T2.dm,a5,q.tb.sz,N,mk];simp
   by_cases c:(f.size+1)*5>=t.mask*3
   ·rw[tf,decide_eq_true c];simp only[ag2,ai5,if_true];refine o0 ?_;unfold setRelay;refine o0 (ah1 (s:={ s with heap:=h1 }) H rfl T2.fit ?_);dsimp only;have gr:grown (f.size+1)=(f.size+1)*4:=by unfold grown;rw[if_neg (by lia)]
    rw[gr];obtain⟨e,e3,ee,el,eb⟩:=sC (n:=(f.size+1)*4) (by lia);obtain⟨t3,g,er,a4,_,S,O,sz3,T3⟩:=C1 (t:=C) (hs:=dS (insertAt f j (κ.hash x,.ref r))) (wanted:=(f.size+1)*4) (by simp only[dS,J0,L8];rw[L];lia) (by lia) (by lia);have ls:(dS (insertAt f j (κ.hash x,.ref r))).length=f.size+1:=by simp[dS,L]
    rw[ls]at O sz3;rw[if_neg (by rw[ee,aa3];lia)];have ea:(insertAt f j (κ.hash x,.ref r)).map (·.1)=(dS (insertAt f j (κ.hash x,.ref r))).toArray:=by apply Array.toList_inj.mp;simp[dS]
    rw[ea,er];have inr:∀k∈g.toList,k<(insertAt f j (κ.hash x,.ref r)).size:=fun k M=>by rw[L];exact P6.mp (O.mem_iff.mp M)
    have eo:(g.filterMap fun k=>(insertAt f j (κ.hash x,.ref r))[k]?).toList=g.toList.map fun k=>(insertAt f j (κ.hash x,.ref r)).getD k (0,.none):=by
     rw[Array.toList_filterMap,so inr]
    generalize a3:(g.filterMap fun k=>(insertAt f j (κ.hash x,.ref r))[k]?)=I at *
    have z2:I.size=f.size+1:=by rw[<-L8,eo,J0,O.length_eq,V2]
    refine o0 ?_;show K5 _ _ (do
     let X:=g.filterMap fun k=>(insertAt f j (κ.hash x,.ref r))[k]?
     if X.size != (insertAt f j (κ.hash x,.ref r)).size then as2 "internal:set-table-lost-an-element"
     ak7 (X,t3)) _ _ _
    dsimp only;rw[a3,if_neg (by rw[z2,L];simp)];refine J1 ?_;dsimp only;refine wpAny_storeSet_of H rfl ?_ (an7 (by unfold ay0;lia));have a1:=xq (h:=h1) H rfl I t3;refine J1 (h _ _ (J.trans (Q7 _ a _)) (fun z=>absurd z hn) fun _=>⟨_,I,_,t3,g.toList.map fun k=>(m.take j++x::m.drop j).getD k x,⟨a1,q.ex,rfl,?_,?_,?_,?_,?_,?_⟩,?_⟩)
    ·refine⟨by rw[z2,J0,O.length_eq,V2],fun i z u=>?_⟩;rw[N9]at u;cases c2:g.toList[i]? with
     |none=>rw[c2]at u;cases u
     |some k =>
      rw[c2]at u;have M:=inr k (O5 c2);have a0:k<(m.take j++x::m.drop j).length:=by rw[<-G.len];exact M
      obtain⟨v2,g2,q2⟩:=G.at_ k z (by rw[rD a0 x];exact u);refine⟨v2,?_,kp _ z v2 (J.trans (Q7 _ a _)) ?_⟩
      ·rw[<-R1,eo,N9,c2];simp[V3,g2]
      ·obtain⟨v3,g3,q3⟩:=(xr q.el Y pz).at_ k z (by rw[rD a0 x];exact u);rw[g2]at g3;cases g3;exact q3
    ·refine((O.map fun k=>(m.take j++x::m.drop j).getD k x).nodup_iff).mpr ?_;rw[<-L,G.len,nP];exact Z
    ·have:dS I=g.toList.map fun k=>(dS (insertAt f j (κ.hash x,.ref r))).getD k 0:=by
      unfold dS;rw[eo,M0];refine S7 fun k M=>?_;have M:=inr k M;simp[X7,M,List.getD]
     rw[this];exact T3
    ·rw[a4,ld];exact q.led
    ·have:=S;rw[ee]at this;rw[z2];lia
    ·right;have:=S;rw[ee]at this;rw[z2];rcases eb with eb|eb<;>lia
    ·refine(O.map _).trans ?_;rw[<-L,G.len,nP];exact U
   ·rw[tf,decide_eq_false c];simp only[ag2,ak8,J9,if_false];refine J1 (h _ _ J (fun z=>absurd z hn) fun _=>⟨_,_,_,C,_,⟨H,q.ex,rfl,G,Z,T2,by rw[ld];exact q.led,by rw[L,mk];lia,?_⟩,U⟩);rw[mk,L];have:=q.small;lia
  rw[<-a6]at R
  by_cases pl:t1.plain=true
  ·rw[if_pos pl];refine o0 (κ.byV hr Y fun b=>?_);cases b with
   |true=>simp only[if_true];exact go t1 R l1 m1 z1
   |false=>simp only[J9,if_false];exact go _ (R.plain false) l1 m1 z1
  ·rw[if_neg pl];refine o0 (J1 ?_);simp only[if_true];exact go t1 R l1 m1 z1
end L2
namespace L2
open PySem PySem.Spec PyProof.Rows PySem.SeqAt
inductive KD where
 |int (i:Int)|str (x:Str)|tup (ks:List KD)
 deriving Inhabited
def KAt(h:L5):Nat->KD->J3->Prop
 |_,.int i,v=>∃t,v=.int i t
 |_,.str x,v=>∃t,v=.str x t
 |0,.tup _,_=>False
 |n+1,.tup c,v=>∃(a:K1) (its:Array J3),v=.ref a/\aj8 h a its/\its.size=c.length/\∀(i:Nat) d u,c[i]?=some d->its[i]?=some u->KAt h n d u
noncomputable def hK(w:P5):Nat->KD->Int
 |_,.int i=>hashInt i
 |_,.str x=>hashStr w x
 |0,.tup _=>0
 |n+1,.tup a=>reduceHash (W0 (a.map (hK w n)))
theorem xv{h:L5}{n:Nat}{i:Int}{v:J3}:KAt h n (.int i) v↔∃t,v=.int i t:=by cases n<;>exact .rfl
theorem wu{h:L5}{n:Nat}{i:Str}{v:J3}:KAt h n (.str i) v↔∃t,v=.str i t:=by cases n<;>exact .rfl
theorem yS{h h':L5}{a:K1}{its:Array J3}(t:aj8 h a its) (k:∀o,o.cls=.type "tuple"->h.get? a=some o->h'.get? a=some o):aj8 h' a its :=
 let⟨o,f,c,e⟩:=t
 ⟨o,k _ c f,c,e⟩
theorem KAt.upT{h h':L5}(k:∀b xs,aj8 h b xs->aj8 h' b xs):∀{n:Nat}{d:KD}{v:J3},KAt h n d v->KAt h' n d v:=by
 intro n
 induction n with
 |zero=>intro d v q;cases d<;>exact q
 |succ n ih =>
  intro d v q;cases d with
  |int _=>exact q
  |str _=>exact q
  |tup g =>
   obtain⟨a,its,e,t,z,r⟩:=q;exact⟨a,its,e,k a _ t,z,fun i d u f c=>ih (r i d u f c)⟩
theorem KAt.up{h h':L5}(k:∀b o,o.cls=.type "tuple"->h.get? b=some o->h'.get? b=some o) {n:Nat} {d:KD} {v:J3} (q:KAt h n d v):KAt h' n d v:=q.upT fun b a t=>yS t (k b)
theorem KAt.same{h:L5}:∀(n:Nat) {d e:KD}{v:J3},KAt h n d v->KAt h n e v->d=e:=by
 intro n
 induction n with
 |zero =>
  intro d e v h1 h2;cases d with
  |int i=>cases e with
   |int j=>obtain⟨_,rfl⟩:=h1;obtain⟨_,z⟩:=h2;cases z;rfl
   |str j=>obtain⟨_,rfl⟩:=h1;obtain⟨_,z⟩:=h2;cases z
   |tup _=>exact h2.elim
  |str i=>cases e with
   |int j=>obtain⟨_,rfl⟩:=h1;obtain⟨_,z⟩:=h2;cases z
   |str j=>obtain⟨_,rfl⟩:=h1;obtain⟨_,z⟩:=h2;cases z;rfl
   |tup _=>exact h2.elim
  |tup _=>exact h1.elim
 |succ n ih =>
  intro d e v h1 h2;cases d with
  |int i=>cases e with
   |int j=>obtain⟨_,rfl⟩:=h1;obtain⟨_,z⟩:=h2;cases z;rfl
   |str j=>obtain⟨_,rfl⟩:=h1;obtain⟨_,z⟩:=h2;cases z
   |tup _=>obtain⟨_,rfl⟩:=h1;obtain⟨_,_,z,_⟩:=h2;cases z
  |str i=>cases e with
   |int j=>obtain⟨_,rfl⟩:=h1;obtain⟨_,z⟩:=h2;cases z
   |str j=>obtain⟨_,rfl⟩:=h1;obtain⟨_,z⟩:=h2;cases z;rfl
   |tup _=>obtain⟨_,rfl⟩:=h1;obtain⟨_,_,z,_⟩:=h2;cases z
  |tup A=>cases e with
   |int j=>obtain⟨_,rfl⟩:=h2;obtain⟨_,_,z,_⟩:=h1;cases z
   |str j=>obtain⟨_,rfl⟩:=h2;obtain⟨_,_,z,_⟩:=h1;cases z
   |tup s =>
    obtain⟨I,its,w,⟨o,B,G,c,p⟩,z,r⟩:=h1;obtain⟨H,m,u,⟨J,f,x,E,a⟩,L,C⟩:=h2;subst w;cases u;rw[B]at f;cases f;rw[p]at a;cases a;congr 1;refine Z9 fun i=>?_;rcases S3 i A.length with q|q
    ·have l:i<s.length:=by lia
     rw[J6 q,J6 l];have g:i<its.size:=by lia
     exact congrArg some (ih (r i _ _ (J6 q) (N4 g)) (C i _ _ (J6 l) (N4 g)))
    ·rw[Q5 q,Q5 (by lia)]
noncomputable def drK:Nat->KD->Nat
 |_,.int _=>1
 |_,.str _=>1
 |0,.tup _=>0
 |n+1,.tup a=>(a.map (drK n)).sum+1
section
variable{prog:M9}{w:P5}{A:O9}{E:J3->J5->Prop}{s:J5}
theorem KAt.eq:∀(n:Nat) {A:O9}{d e:KD}{v u:J3},A.units+n<Z4->KAt s.heap n d v->KAt s.heap n e u->∃b:Bool,(b=true↔d=e)/\EqAt A s v u b:=by
 intro n
 induction n with
 |zero =>
  intro A d e v u hu q1 q2;cases d with
  |tup _=>exact q1.elim
  |int i=>obtain⟨t,rfl⟩:=q1;cases e with
   |tup _=>exact q2.elim
   |int j=>obtain⟨f,rfl⟩:=q2;exact⟨i==j,by simp,EqAt.int_int _ _ _ _⟩
   |str j=>obtain⟨f,rfl⟩:=q2;exact⟨false,by simp,EqAt.int_str _ _ _ _⟩
  |str i=>obtain⟨t,rfl⟩:=q1;cases e with
   |tup _=>exact q2.elim
   |int j=>obtain⟨f,rfl⟩:=q2;exact⟨false,by simp,EqAt.str_int _ _ _ _⟩
   |str j=>obtain⟨f,rfl⟩:=q2;exact⟨i==j,by simp,EqAt.str_str _ _ _ _⟩
 |succ n ih =>
  intro A d e v u hu q1 q2;cases d with
  |int i=>obtain⟨t,rfl⟩:=q1;cases e with
   |int j=>obtain⟨f,rfl⟩:=q2;exact⟨i==j,by simp,EqAt.int_int _ _ _ _⟩
   |str j=>obtain⟨f,rfl⟩:=q2;exact⟨false,by simp,EqAt.int_str _ _ _ _⟩
   |tup _=>obtain⟨a,its,rfl,t,_⟩:=q2;exact⟨false,by simp,EqAt.int_tuple _ _ t (by lia)⟩
  |str i=>obtain⟨t,rfl⟩:=q1;cases e with
   |int j=>obtain⟨f,rfl⟩:=q2;exact⟨false,by simp,EqAt.str_int _ _ _ _⟩
   |str j=>obtain⟨f,rfl⟩:=q2;exact⟨i==j,by simp,EqAt.str_str _ _ _ _⟩
   |tup _=>obtain⟨a,its,rfl,t,_⟩:=q2;exact⟨false,by simp,EqAt.str_tuple _ _ t (by lia)⟩
  |tup p =>
   obtain⟨a,its,rfl,m,J,E⟩:=id q1;cases e with
   |int j=>obtain⟨f,rfl⟩:=q2;exact⟨false,by simp,EqAt.tuple_int _ _ m (by lia)⟩
   |str j=>obtain⟨f,rfl⟩:=q2;exact⟨false,by simp,EqAt.tuple_str _ _ m (by lia)⟩
   |tup x =>
    obtain⟨b,c,rfl,C,L,I⟩:=id q2
    by_cases w:a=b
    ·subst w;exact⟨true,by simp[KAt.same (n+1) q1 q2],EqAt.same _⟩
    ·have item:∀j,∃b:Bool,∀(g:j<its.size) (l:j<c.size),(b=true↔p[j]?=x[j]?)/\EqAt A.in1 s its[j] c[j] b:=fun j=>by
      by_cases g:j<its.size
      ·by_cases l:j<c.size
       ·obtain⟨b,G,H⟩:=ih (A:=A.in1) (show A.units+1+n<Z4 by lia) (E j _ _ (J6 (by lia)) (N4 g)) (I j _ _ (J6 (by lia)) (N4 l));exact⟨b,fun _ _=>⟨by rw[J6 (by lia),J6 (by lia),G];simp,H⟩⟩
       ·exact⟨true,fun _ h=>absurd h l⟩
      ·exact⟨true,fun h=>absurd h g⟩
     have B:=RcAt.tuples (A:=A) (s:=s) (e:=fun j=>(item j).choose) m C (by lia) fun j g l=>((item j).choose_spec g l).2;refine⟨_,?_,EqAt.of_refs w B⟩;rw[O1,R8,beq_iff_eq];constructor
     ·rintro⟨g,l⟩;congr 1;refine Z9 fun i=>?_;rcases S3 i p.length with q|q
      ·exact((item i).choose_spec (by lia) (by lia)).1.mp (g i (P6.mpr (by lia)))
      ·rw[Q5 q,Q5 (by lia)]
     ·intro z;cases z;refine⟨fun i o=>?_,by lia⟩;have o:=P6.mp o;exact((item i).choose_spec (by lia) (by lia)).1.mpr rfl
theorem KAt.hash:∀(n:Nat) {A:O9}{s:J5}{E:J3->J5->Prop}{d:KD}{v:J3}{Q:Int->J5->Prop},A.units+n<Z4->KAt s.heap n d v->Q (hK w n d) { s with toks:=s.toks+drK n d }->K5 (N3 prog w) A (pyHash v) Q E s:=by
 intro n
 induction n with
 |zero =>
  intro A s E d v Q hu q h;cases d with
  |int i=>obtain⟨t,rfl⟩:=q;exact wpAny_pyHash_int h
  |str i=>obtain⟨t,rfl⟩:=q;exact wpAny_pyHash_str h
  |tup _=>exact q.elim
 |succ n ih =>
  intro A s E d v Q hu q h;cases d with
  |int i=>obtain⟨t,rfl⟩:=q;exact wpAny_pyHash_int h
  |str i=>obtain⟨t,rfl⟩:=q;exact wpAny_pyHash_str h
  |tup e =>
   obtain⟨a,its,rfl,L,z,r⟩:=q;obtain⟨o,G,H,c,I⟩:=L;have l:s.TypeIs (.ref a) "tuple":=⟨o,G,H⟩;have B:A.units<Z4:=by lia
   unfold pyHash pyHashByItsType;refine o0 (wpAny_cRoomFor_or (.inr B) ?_);refine o0 (ac8 l ak2.lookup ?_);show K5 _ _ (if(some (J3.builtin "tuple.__hash__")==some T9)=true then _ else _) Q E s;rw[if_neg (by rw[beq_builtin_none];exact P7)];refine o0 (ac8 l ak2.lookup ?_);show K5 _ _ (callSpecialIfBoundUnlessNone? (.ref a) "__hash__" _ >>= _) Q E s;refine o0 (wpAny_callSpecialIfBoundUnlessNone?_slot l ak2 (O7 ak2 l F.entry_tuple_hash ?_ (F.args_tuple_hash_1 _)));show K5 _ _ (ab3 (.ref a) >>= _) _ _ s;refine o0 (wpAny_tupleItemsOf G I ?_);refine o0 ?_;rw[<-am7];refine al5 _ (fun rest (b:Array Int) C=>∃m,m<=e.length/\rest=its.toList.drop m/\b.toList=(e.take m).map (hK w n)/\C={ s with toks:=s.toks+((e.take m).map (drK n)).sum }) _ ?_ ?_ _ _ ⟨0,P1 _,rfl,rfl,rfl⟩
   ·rintro x rest b C ⟨m,J,g,p,rfl⟩;have lt:m<its.size:=by
     rcases S3 m its.size with q|q
     ·exact q
     ·rw[ai8 (by rw[L8];exact q)]at g;cases g
    rw[ac2 (by rw[L8];exact lt)]at g;obtain⟨rfl,rfl⟩:=ab5.inj g;have u:e[m]?=some (e[m]'(by lia)):=J6 _;refine o0 (ih (show A.in1.units+n<Z4 by show A.units+1+n<Z4;lia) (r m _ _ u (by rw[N4 lt];simp)) ?_);refine J1 ⟨m+1,by lia,rfl,?_,?_⟩
    ·rw[Array.toList_push,p,X6,u,O2];rfl
    ·rw[X6,u,O2,List.sum_append,<-as6];simp
   ·rintro b C ⟨m,J,g,p,rfl⟩;have:m=e.length:=by
     rcases S3 m its.size with q|q
     ·rw[ac2 (by rw[L8];exact q)]at g;cases g
     ·lia
    subst this;rw[ad7]at p ⊢;show K5 _ _ (retInt (W0 b.toList)) _ _ _;rw[p];refine wpAny_ret_mkInt ?_;show K5 _ _ (if(decide (-(2:Int) ^ 63<=W0 (e.map (hK w n)))&&decide (W0 (e.map (hK w n))<2 ^ 63))=true then _ else _) Q E _;have j:Q (reduceHash (W0 (e.map (hK w n)))) { s with toks:=s.toks+((e.map (drK n)).sum+1) }:=h;rw[<-as6]at j;unfold reduceHash at j
    by_cases f:(decide (-(2:Int) ^ 63<=W0 (e.map (hK w n)))&&decide (W0 (e.map (hK w n))<2 ^ 63))=true
    ·rw[if_pos f];rw[if_pos f]at j;exact J1 j
    ·rw[if_neg f];rw[if_neg f]at j;exact o0 (ak0 (J1 j))
end
section
variable{prog:M9}{w:P5}{A:O9}{E:J3->J5->Prop}{s:J5}
theorem uZ{a:K1}{its:Array J3}{Q:Option (Array J3)->J5->Prop}(t:aj8 s.heap a its) (h:Q (some its) s):K5 (N3 prog w) A (at9 (.ref a)) Q E s:=by
 obtain⟨o,f,g,c,e⟩:=t;unfold at9;refine o0 (ar3 f ?_);rw[e];exact J1 h
theorem KAt.item{h:L5}{n:Nat}{ks:List KD}{its:Array J3}(z:its.size=ks.length) (r:∀(i:Nat) d u,ks[i]?=some d->its[i]?=some u->KAt h n d u) {x:J3}(c:x∈its.toList):∃k,KAt h n k x:=by
 obtain⟨i,a⟩:=T4.mp c;rw[R1]at a;have lt:=(X8.mp a).1;exact⟨_,r i _ _ (J6 (by lia)) a⟩
theorem KAt.quiet:∀(f n:Nat) {k:KD}{v:J3}{Q:Bool->J5->Prop},n<=f->KAt s.heap n k v->Q true s->K5 (N3 prog w) A (eqIsQuiet f v) Q E s:=by
 intro f
 induction f with
 |zero =>
  intro n k v Q hn q h;obtain rfl:n=0:=by lia
  cases k with
  |int i=>obtain⟨t,rfl⟩:=q;exact J1 h
  |str i=>obtain⟨t,rfl⟩:=q;exact J1 h
  |tup _=>exact q.elim
 |succ f ih =>
  intro n k v Q hn q h;cases k with
  |int i=>obtain⟨t,rfl⟩:=xv.mp q;exact J1 h
  |str i=>obtain⟨t,rfl⟩:=wu.mp q;exact J1 h
  |tup B =>
   cases n with
   |zero=>exact q.elim
   |succ n =>
    obtain⟨a,its,rfl,e,z,r⟩:=q;have g:s.TypeIs (.ref a) "tuple":=by obtain⟨o,p,l,_⟩:=e;exact⟨o,p,l⟩
    unfold eqIsQuiet;refine o0 (ac8 g F.slot_tuple_eq.lookup ?_);show K5 _ _ (isInstance (.ref a) (.type "tuple") >>= _) _ _ s;refine o0 (ab1 g isSubtype_tuple_tuple ?_);simp only[aa9,J9,if_false];refine o0 (uZ e ?_);refine o0 ?_;show K5 _ _ (forIn its _ _) _ _ s;rw[<-am7];refine al5 _ (fun rest b c=>c=s/\b=(none,())/\∀x∈rest,x∈its.toList) _ ?_ ?_ _ _ ⟨rfl,rfl,fun _ z=>z⟩
    ·rintro x rest b c ⟨rfl,rfl,j⟩;obtain⟨k,u⟩:=KAt.item z r (j x (.head _));refine o0 (ih n (by lia) u ?_);simp only[aa9,J9,if_false];exact J1 ⟨rfl,rfl,fun y m=>j y (.tail _ m)⟩
    ·rintro b c ⟨rfl,rfl,_⟩;exact J1 h
theorem KAt.noCls:∀(f n:Nat) {k:KD}{v:J3}{Q:Bool->J5->Prop},n<=f->KAt s.heap n k v->Q false s->K5 (N3 prog w) A (ofAClassStatement f v) Q E s:=by
 intro f
 induction f with
 |zero =>
  intro n k v Q hn q h;obtain rfl:n=0:=by lia
  cases k with
  |int i=>obtain⟨t,rfl⟩:=q;exact J1 h
  |str i=>obtain⟨t,rfl⟩:=q;exact J1 h
  |tup _=>exact q.elim
 |succ f ih =>
  intro n k v Q hn q h;cases k with
  |int i=>obtain⟨t,rfl⟩:=xv.mp q;exact J1 h
  |str i=>obtain⟨t,rfl⟩:=wu.mp q;exact J1 h
  |tup B =>
   cases n with
   |zero=>exact q.elim
   |succ n =>
    obtain⟨a,its,rfl,e,z,r⟩:=q;have m:s.TypeIs (.ref a) "tuple":=by obtain⟨o,p,j,_⟩:=e;exact⟨o,p,j⟩
    unfold ofAClassStatement;refine o0 (ah4 m ?_);dsimp only;rw[if_pos (by rfl)];refine o0 (J1 ?_);simp only[aa9,J9,if_false];refine o0 (uZ e ?_);dsimp only;refine o0 ?_;rw[<-am7];refine al5 _ (fun rest b c=>c=s/\b=(none,())/\∀x∈rest,x∈its.toList) _ ?_ ?_ _ _ ⟨rfl,rfl,fun _ z=>z⟩
    ·rintro x rest b c ⟨rfl,rfl,g⟩;obtain⟨k,u⟩:=KAt.item z r (g x (.head _));refine o0 (ih n (by lia) u ?_);simp only[J9,if_false];exact J1 ⟨rfl,rfl,fun y l=>g y (.tail _ l)⟩
    ·rintro b c ⟨rfl,rfl,_⟩;exact J1 h
theorem KAt.byV:∀(f n:Nat) {k:KD}{v:J3}{Q:Bool->J5->Prop},KAt s.heap n k v->(∀b,Q b s)->K5 (N3 prog w) A (hashByValue f v) Q E s:=by
 intro f
 induction f with
 |zero =>
  intro n k v Q q h;cases k with
  |int i=>obtain⟨t,rfl⟩:=xv.mp q;exact J1 (h _)
  |str i=>obtain⟨t,rfl⟩:=wu.mp q;exact J1 (h _)
  |tup _=>cases n with
   |zero=>exact q.elim
   |succ n=>obtain⟨a,its,rfl,_⟩:=q;exact J1 (h _)
 |succ f ih =>
  intro n k v Q q h;cases k with
  |int i=>obtain⟨t,rfl⟩:=xv.mp q;exact J1 (h _)
  |str i=>obtain⟨t,rfl⟩:=wu.mp q;exact J1 (h _)
  |tup B =>
   cases n with
   |zero=>exact q.elim
   |succ n =>
    obtain⟨a,its,rfl,e,z,r⟩:=q;have m:s.TypeIs (.ref a) "tuple":=by obtain⟨o,p,j,_⟩:=e;exact⟨o,p,j⟩
    unfold hashByValue;refine o0 (ac8 m ak2.lookup ?_);dsimp only;refine o0 (uZ e ?_);refine o0 ?_;show K5 _ _ (forIn its _ _) _ _ s;rw[<-am7];refine al5 _ (fun rest b c=>c=s/\b=(none,())/\∀x∈rest,x∈its.toList) _ ?_ ?_ _ _ ⟨rfl,rfl,fun _ z=>z⟩
    ·rintro x rest b c ⟨rfl,rfl,g⟩;obtain⟨k,u⟩:=KAt.item z r (g x (.head _));refine o0 (ih n u fun b=>?_);cases b with
     |true =>
      simp only[aa9,J9,if_false];exact J1 ⟨rfl,rfl,fun y l=>g y (.tail _ l)⟩
     |false =>
      simp only[ag2,if_true];exact J1 (J1 (h _))
    ·rintro b c ⟨rfl,rfl,_⟩;exact J1 (h _)
end
def nh(h0 h:L5):Prop:=∀b o,h0.get? b=some o->h.get? b=some o
theorem KAt.kept{h0 h:L5}{n:Nat}{d:KD}{v:J3}(q:KAt h0 n d v) (k:nh h0 h):KAt h n d v:=q.up fun b o _ e=>k b o e
noncomputable def tK(prog:M9) (w:P5) (n:Nat) (hn:n<=8) (h0:L5) (V:J3->Prop):TK prog w (List KD) where
 is h ks v:=nh h0 h/\KAt h0 n (.tup ks) v/\V v
 hash ks:=hK w n (.tup ks)
 room A:=A.units+n<Z4
 pyHash hr c h:=KAt.hash n hr (c.2.1.kept c.1) (h _ (af1 _ _))
 eqB hr c hy:=by
  obtain⟨b,g,f⟩:=KAt.eq n hr (c.2.1.kept c.1) (hy.2.1.kept hy.1);exact⟨b,by rw[g];simp,f⟩
 quiet _ c h:=KAt.quiet 8 n hn (c.2.1.kept c.1) h
 noCls _ c h:=KAt.noCls 8 n hn (c.2.1.kept c.1) h
 byV _ c h:=KAt.byV 8 n (c.2.1.kept c.1) h
 ref {h x v} c:=by
  obtain⟨_,c,_⟩:=c;cases n with
  |zero=>exact c.elim
  |succ n=>obtain⟨a,_,e,_⟩:=c;exact⟨a,e⟩
end L2
namespace L2
open PySem PySem.Spec PyProof.Rows
open Classical in
def aS{a:Type}(xs:List a) (x:a):List a:=if x∈xs then xs else xs++[x]
def fR{a:Type}(xs:List a):List a:=xs.foldl aS []
section
variable{z:Type}
theorem xG(xs:List z) (x:z):(aS xs x).length<=xs.length+1:=by unfold aS;split<;>simp
theorem yv(xs:List z) (x y:z):y∈aS xs x↔y∈xs∨y=x:=by
 unfold aS;split
 ·rename_i h;exact⟨.inl,fun q=>q.elim id fun e=>e▸h⟩
 ·simp
theorem qh:∀(xs a:List z),(xs.foldl aS a).length<=a.length+xs.length
 |[],_=>J7 _
 |x::xs,a=>by
  have:=qh xs (aS a x);have:=xG a x;simp only[am3,M8];lia
theorem lT:∀(xs a:List z) (y:z),y∈xs.foldl aS a↔y∈a∨y∈xs
 |[],_,_=>by simp
 |x::xs,a,y=>by
  rw[am3,lT xs,yv,L1,or_assoc]
theorem nX(xs:List z) (y:z):y∈fR xs↔y∈xs:=by rw[fR,lT];simp
theorem gc(xs:List z):(fR xs).length<=xs.length:=by have:=qh xs [];simpa[fR]using this
theorem yx(xs:List z) (i:Nat) (h:i<xs.length):fR (xs.take (i+1))=aS (fR (xs.take i)) xs[i]:=by
 rw[List.take_succ_eq_append_getElem h,fR,List.foldl_append];rfl
theorem tH{xs:List z}(h:xs.Nodup) (x:z):(aS xs x).Nodup:=by
 unfold aS;split
 ·exact h
 ·rename_i c;rw[ae5];exact⟨h,by simp,fun a f b e=>by rw[K2]at e;rintro rfl;exact c (e▸f)⟩
theorem kO:∀(xs a:List z),a.Nodup->(xs.foldl aS a).Nodup
 |[],_,h=>h
 |x::xs,a,h=>kO xs _ (tH h x)
end
section
variable{prog:M9}{w:P5}{A:O9}{R:at6->J5->Prop}{I:K1}{fp y:List K1}{G:Array ar6->Array ar6->Prop}{P:Nat->J3->Prop}{St:Nat->J5->Prop}
theorem GX{V:J3->Prop}{n:Nat}{hn:n<=8}{h0:L5}{xs:List (List KD)}(W:WalksS prog w A.in1 I fp y G xs.length P St) (S:K1) (H:S∉fp)
  (p:∀b∈S::y,h0.get? b=none) (hu:A.in1.units+n<Z4) (M:∀i v (h:i<xs.length),P i v->KAt h0 n (.tup xs[i]) v/\V v) (C:xs.length<1000) :
  ∀(k i:Nat) (s:J5),xs.length-i=k->i<=xs.length->St i s->nh h0 s.heap->jX (tK prog w n hn h0 V) s.heap S (fR (xs.take i)) ->
   (∀s',Moved (S::y) G s s'->nh h0 s'.heap->jX (tK prog w n hn h0 V) s'.heap S (fR xs)->R (.ok (.ret .none)) s') ->
   ak4 (N3 prog w) A (.builtin "set.update.loop" ⟨[.ref S,.ref I],[]⟩) R s:=by
 have E:S∉y:=fun h=>H (W.sub _ h);have f:∀b∈y,b∈S::y:=fun b C=>P4 _ C;intro k
 induction k with
 |zero =>
  intro i s hk hi m hK U Z;have X:i=xs.length:=by lia
  subst X;refine Z1 F.entry_set_update_loop ?_;rw[W3 F.plain_set_update_loop _];show K5 _ A.in1 (ag3 (.ref I) >>= _) _ _ s;refine o0 (W.done s _ _ m fun s' u=>?_);show K5 _ A.in1 (ret T9) _ _ s';rw[ad7]at U;have a:nh h0 s'.heap:=fun b o e=>u.heap b o (fun q=>by rw[p b (f b q)]at e;cases e) (hK b o e);exact J1 (Z s' (u.mono f) a (U.mono (fun o e=>u.heap S _ E e) fun z v q=>⟨a,q.2⟩))
 |succ k ih =>
  intro i s hk hi m hK U Z;have g:i<xs.length:=by lia
  refine Z1 F.entry_set_update_loop ?_;rw[W3 F.plain_set_update_loop _];show K5 _ A.in1 (ag3 (.ref I) >>= _) _ _ s;refine o0 (W.item i s _ _ g m fun v s' hP Q u=>?_);have hx:=M i v g hP;have a:nh h0 s'.heap:=fun b o e=>u.heap b o (fun q=>by rw[p b (f b q)]at e;cases e) (hK b o e);have a1:jX (tK prog w n hn h0 V) s'.heap S (fR (xs.take i)):=U.mono (fun o e=>u.heap S _ E e) fun z v q=>⟨a,q.2⟩;show K5 _ A.in1 (ax4 [v] (setAdd S v) >>= _) _ _ s';refine o0 (U8 ?_);unfold setAdd;refine U8 ?_;refine o0 ((tK prog w n hn h0 V).pyHash (x:=xs[i]) hu ⟨a,hx⟩ fun tk O=>?_);have B:(fR (xs.take i)).length<1000:=by have:=gc (xs.take i);rw[R3]at this;lia
  have J:∀j,O6 S s'.heap j->nh h0 j:=fun j sb b o e=>by
   rw[sb.2 b fun z=>by rw[z,p S (.head _)]at e;cases e];exact a b o e
  refine Jo (s:={ s' with toks:=tk }) (κ:=tK prog w n hn h0 V) hu ⟨a,hx⟩ a1 B (fun j z v sb q=>⟨J j sb,q.2⟩) fun b j l y1 y2=>?_;have a0:jX (tK prog w n hn h0 V) j S (fR (xs.take (i+1))):=by
   rw[yx xs i g];unfold aS
   split
   ·rename_i c;exact y1 c
   ·rename_i c;exact y2 c
  refine J1 ⟨ai2 F.plain_set_update_loop _,ih (i+1) _ (by lia) g (W.frame _ s' _ _ Q O fun b C o e=>?_) (J j l) a0 fun Y N L T=>?_⟩
  ·rw[l.2 b (fun h:b=S=>H (by rw[<-h];exact C))];exact e
  ·refine Z Y (Moved.trans W.gtrans ((u.mono f).then_heap O fun b o C e=>?_) N) L T;rw[l.2 b (fun h:b=S=>C (by rw[h];exact U1))];exact e
end
section
variable{prog:M9}{w:P5}{A:O9}{E:J3->J5->Prop}{s:J5}
theorem A9{V:J3->Prop}{n:Nat}{hn:n<=8}{h0 h:L5}{a:K1}(g:h.get? a=some (gR w)):jX (tK prog w n hn h0 V) h a [] :=
 ⟨_,#[],0,_,[],⟨g,⟨rfl,rfl,rfl⟩,rfl,⟨rfl,fun i z e=>by simp at e⟩,.nil,⟨rfl,fun i j _ f=>by simp[ao0]at f,fun i c=>by simp[ao0]at c,rfl,⟨3,by decide,rfl⟩,by simp[ao0],fun i h q=>by simp[dS]at q⟩,rfl,by simp[ao0],.inl (by simp[ao0])⟩,.refl _⟩
set_option maxHeartbeats 3200000 in
theorem xD{n:Nat}{hn8:n<=8}{l:K1}{a:Array J3}{xs:List (List KD)}{Q:J3->J5->Prop}
  (hh:A.handled=none) (hu:A.units+n+8<Z4) (hl:s.heap.IsList l a) (hn:a.size=xs.length) (hi:∀(i:Nat) k u,xs[i]?=some k->a[i]?=some u->KAt s.heap n (.tup k) u) (q:xs.length<1000)
  (h:∀(h':L5) (tk:Nat),jX (tK prog w n hn8 s.heap (·∈a)) h' s.heap.objs.size (fR xs)->nh s.heap h'->Q (.ref s.heap.objs.size) { s with heap:=h',toks:=tk }) :
  K5 (N3 prog w) A (aw9 (.type "set") [.ref l]) Q E s:=by
 obtain⟨c,tl,a7⟩:=R7.mro;have P:=R7.made;have a3:=R7.sub;refine aw2 (codeAny_of_tree ?_);show K5 _ _ (callAny (.type "set") _) _ _ _;refine J1 ⟨Code.quiet_builtin _ (by decide +kernel),Z1 PySem.F.entry_type_call ?_⟩;rw[O9.under_plain (weight_type_call_type "set" [.ref l] []) rfl];have h1:=R7.notType;have h2:=R7.canCreate;have b0:=PySem.F.typeCall_set_1 (.ref l)
 repeat (any_goals (first|assumption|wp_step))
 refine ah2 (tE (.ref l) (E:=E) (Q₁:=fun obj j=>obj=.ref s.heap.objs.size/\j={ s with heap:=s.heap.push (gR w) }) ⟨rfl,rfl⟩) fun r j U=>?_;cases r with
 |error e=>exact U
 |ok fl =>
  cases fl with
  |ret obj =>
   obtain⟨rfl,rfl⟩:=U;have hS:(s.heap.push (gR w)).get? s.heap.objs.size=some (gR w):=J8 _ rfl;have hT:J5.TypeIs { s with heap:=s.heap.push (gR w) } (.ref s.heap.objs.size) "set":=⟨_,hS,rfl⟩;have a':=R7.init.lookup;have a9:=R7.init.bind (.ref s.heap.objs.size)
   repeat (any_goals (first|assumption|wp_step))
   refine ah2 (codeAny_call_builtin (R:=wants (fun r m=>r=.none/\∃h' tk,m={ s with heap:=h',toks:=tk } /\
     jX (tK prog w n hn8 s.heap (·∈a)) h' s.heap.objs.size (fR xs)/\nh s.heap h') E) R7.init.plain PySem.F.entry_set_init (check_set_init_1 hT ?_)) fun G m f=>?_
   ·obtain⟨ol,I,H,nl,B⟩:=hl;obtain⟨a6,p,N,g⟩:=ol;simp only at H B;subst H;subst B;have M:(s.heap.push (gR w)).get? l=some { cls:=.type "list",dict:=p,data:=.seq a nl,slots:=g }:=u8 _ I;have a4:=PySem.F.sub_list_set;have a8:=PySem.F.sub_list_frozenset;have b1:(af0 "list"==af0 "dict")=false:=by decide
    have J:(s.heap.push (gR w)).IsList l a:=⟨_,M,rfl,nl,rfl⟩;unfold L3.«set.__init__» noKeywords L3.Frozenset.updateFrom;generalize T:au4=PI
    wp_walk
    subst T;refine X5 J ?_;refine o0 (ar2 ?_);have C:l<s.heap.objs.size:=K6 I;have a0:A.in1.in1.in1.handled=none:=by simp[hh]
    have L:l≠(s.heap.push (gR w)).objs.size:=by
     rw[R6];exact K9 (V1 C)
    have Z:s.heap.objs.size∉[(s.heap.push (gR w)).objs.size,l]:=by
     rw[R6];simp only[L1,K2,R4,or_false,not_or];exact⟨K9 (W8 _),ac6 C⟩
    have W:=(aw6 (prog:=prog) (w:=w) a0 _ l L a).toS;rw[hn]at W;have frs:∀b,s.heap.objs.size<=b->s.heap.get? b=none:=fun b q=>ad9 q;refine GX (V:=(·∈a)) (n:=n) (hn:=hn8) (h0:=s.heap) (xs:=xs) W s.heap.objs.size Z (fun b q=>?_) (show A.units+1+1+1+n<Z4 by lia) (fun i v X hv=>⟨hi i _ _ (J6 X) hv,Array.mem_of_getElem? hv⟩) q (xs.length-0) 0 _ (by lia) (P1 _) ?St0 ?hK0 ?hS0 ?hR
    case St0=>exact⟨⟨_,J8 _ rfl,rfl,rfl⟩,(J.push _)⟩
    ·rcases L1.mp q with rfl|q
     ·exact frs _ (J7 _)
     ·rw[K2.mp q,R6];exact frs _ (ap3 _)
    case hK0=>exact fun b o e=>u8 _ (u8 _ e)
    case hS0=>exact A9 (u8 _ hS)
    case hR =>
     intro s' S a2 x;obtain⟨h',g',d',a1,Y⟩:=s';have eg:g'=s.gens:=S.gens;have ed:d'=s.drawn:=S.drawn;have eo:Y=s.os:=S.os;subst eg;subst ed;subst eo;show K5 _ _ _ _ _ _;refine J1 ?_;show K5 _ _ (ret T9) _ _ _;exact J1 ⟨rfl,h',a1,rfl,x,a2⟩
   ·cases G with
    |error e=>exact f
    |ok z =>
     cases z with
     |ret r =>
      obtain⟨rfl,h',tk,rfl,x,O⟩:=f
      repeat (any_goals (first|assumption|wp_step))
      exact h _ _ x O
     |_=>exact f.elim
  |_=>exact U.elim
end
end L2
namespace L2
open PySem PySem.Spec PyProof.Rows PySem.SeqAt
end L2
namespace L2
open PySem PySem.W PySem.Calls PyProof.Rows PySem.SeqAt
end L2
namespace L2
open PySem PySem.Spec PyProof.Rows PySem.Calls PySem.SeqAt
mutual
noncomputable def kd:KD->D
 |.int i=>.int i
 |.str x=>.str x
 |.tup a=>.tup (kds a)
noncomputable def kds:List KD->List D
 |[]=>[]
 |k::a=>kd k::kds a
end
theorem rf:∀ks,kds ks=ks.map kd
 |[]=>by simp[kds]
 |k::ks=>by simp[kds,rf ks]
noncomputable def eM(ks:List KD):D:=.tup (kds ks)
def dpK:Nat->KD->Prop
 |_,.int _=>True
 |_,.str _=>True
 |0,.tup _=>False
 |n+1,.tup a=>∀k∈a,dpK n k
section
variable{X:Cx}{z:List (K1×Obj)}{s:J5}{σ:St}{H:Hp}{M:DH}{K:J4}
theorem m6(I:Inv X z σ H s):∀(n:Nat) {k:KD}{v:V}{u:J3},dpK n k->Rep X.K M H (kd k) v->aF v u->KAt s.heap n k u:=by
 intro n
 induction n with
 |zero =>
  intro k v u hd r q;cases k with
  |int i=>simp only[kd,Rep]at r;subst r;exact q
  |str i=>simp only[kd,Rep]at r;subst r;exact q
  |tup _=>exact hd.elim
 |succ n ih =>
  intro k v u hd r q;cases k with
  |int i=>simp only[kd,Rep]at r;subst r;exact q
  |str i=>simp only[kd,Rep]at r;subst r;exact q
  |tup o =>
   simp only[kd,Rep]at r;obtain⟨a,x,rfl,t,f⟩:=r;cases q;obtain⟨its,h,j,p⟩:=I.tuple t.sq;refine⟨a,its.toArray,rfl,j,?_,fun i d u e c=>?_⟩
   ·rw[K3,<-h.length,<-f.length,rf,J0]
   ·obtain⟨v,g,r⟩:=f.get (i:=i) (d:=kd d) (by rw[rf,N9,e];rfl);obtain⟨w,l,m⟩:=h.get g;rw[List.getElem?_toArray,l]at c;cases c;exact ih (hd d (O5 e)) r m
theorem fV(I:Inv X z σ H s) {n:Nat}{ks:List (List KD)}{e:List V}{its:List J3}(f:∀k∈ks,dpK n (.tup k)) (l:am X.K M H (ks.map eM) e) (m:ax e its) {i:Nat}{k:List KD}{u:J3}(c:ks[i]?=some k) (a:its[i]?=some u):KAt s.heap n (.tup k) u:=by
 obtain⟨v,g,r⟩:=l.get (i:=i) (d:=eM k) (by rw[N9,c];rfl);obtain⟨o,h,j⟩:=m.get g;rw[h]at a;cases a;exact m6 I n (k:=.tup k) (f k (O5 c)) (by simp only[kd];exact r) j
theorem tI{A:Type}{f:A->D}{its us:List J3}(p:its.Perm us):∀{m:List V}{ks:List A},ax m its->am K M H (ks.map f) m->∃(h:List V) (i:List A),ax h us/\am K M H (i.map f) h/\i.Perm ks:=by
 induction p with
 |nil=>intro m ks n g;exact⟨m,ks,n,g,.refl _⟩
 |cons x p ih =>
  intro m ks n g;cases n with
  |cons r t=>cases ks with
   |nil=>cases g
   |cons k ks =>
    simp only[L7,am]at g;obtain⟨v,B,e,q,o⟩:=g;cases e;obtain⟨h,i,a,b,c⟩:=ih t o;exact⟨_::h,k::i,.cons r a,am.cons q b,c.cons _⟩
 |swap x y l =>
  intro m ks n g;cases n with
  |cons r t=>cases t with
   |cons L t=>cases ks with
    |nil=>cases g
    |cons k ks=>cases ks with
     |nil=>simp only[L7,ao2,am]at g;obtain⟨v,B,e,q,o⟩:=g;cases e;cases o
     |cons j ks =>
      simp only[L7,am]at g;obtain⟨v,B,e,q,O,N,E,o,J⟩:=g;cases e;cases E;exact⟨_::_::_,j::k::ks,.cons L (.cons r t),am.cons o (am.cons q J),.swap _ _ _⟩
 |trans _ _ w s =>
  intro m ks n g;obtain⟨h,i,a,b,c⟩:=w n g;obtain⟨z,u,I,G,C⟩:=s a b;exact⟨z,u,I,G,C.trans c⟩
theorem evD{a:O4}{l:TEd}{i:DE}{R:D->DH->Prop}{Q:J3->J5->Prop}(ha:PEd X a l) (I:Inv X z σ H s) (o:SR X.K M H σ i) (hr:HR X.K M H) (q:l i M R)
  (k:∀u f v c x M1,Inv X z σ c f->aF v u->R x M1->HR X.K M1 c->Rep X.K M1 c x v->Ext M H M1 c->Q u f):K5 (N3 X.prog X.w) X.A (af7 a X.env) Q X.xe s :=
 thn (ha z s σ H (fun v c=>∃x M1,R x M1/\HR X.K M1 c/\Rep X.K M1 c x v/\Ext M H M1 c) I ⟨i,M,R,o,hr,q,fun x M1 v c h g e j=>⟨x,M1,h,e,j,g⟩⟩) fun u f z110z=>(by obtain⟨v,c,n,m,x,M1,h,e,j,g⟩:=z110z;exact k u f v c x M1 n m h e j g)
end
theorem F0.b{prog:M9}{w:P5}{f:Type}{κ:TK prog w f}{h:L5}{a:K1}{o:Obj}{e:Array (Int×J3)}{ep:Nat}{t:S0}{c:List f}(q:F0 κ h a o e ep t c) (g:c.length<1000):fh w h a o e ep t :=
 ⟨q.get,q.ex,q.data,by rw[q.el.len];unfold ay0;exact K4 (by assumption) (by decide),q.tb.fit,q.led,.inr q.tb.up⟩
section
variable{X:Cx}{y:List (K1×Obj)}{s:J5}{σ:St}{H:Hp}{M:DH}{K:J4}
theorem k6{h:L5}{n:Nat}{ks:List (List KD)}{C:List V}{its:List J3}(w:ax C its) (s:am K M H (ks.map eM) C) (E:∀(i:Nat) k u,ks[i]?=some k->its[i]?=some u->KAt h n (.tup k) u) :
  ∀(f:List (List KD)) (us:List J3),us.length=f.length->(∀(i:Nat) z u,f[i]?=some z->us[i]?=some u->u∈its/\KAt h n (.tup z) u)->∃c,ax c us/\am K M H (f.map eM) c
 |[],us,l,_=>by
  have:us=[]:=ai1.mp l;subst this;exact⟨[],.nil,rfl⟩
 |_::_,[],l,_=>by cases l
 |z::f,u::us,l,B=>by
  obtain⟨c,a,b⟩:=k6 w s E f us (aq7 l) fun i z u I G=>B (i+1) z u (by simpa using I) (by simpa using G);obtain⟨m,q⟩:=B 0 z u rfl rfl;obtain⟨j,p⟩:=T4.mp m;have o:ks.length=its.length:=by rw[<-w.length,<-s.length,J0]
  have lt:j<ks.length:=by rw[o];exact(L6.mp p).1
  have A:=J6 lt;have e:=KAt.same n (E j _ _ A p) q;obtain⟨v,g,r⟩:=s.get (i:=j) (d:=eM ks[j]) (by rw[N9,A];rfl);obtain⟨L,x,J⟩:=w.get g;rw[p]at x;cases x;cases e;exact⟨v::c,.cons J a,am.cons r b⟩
end
end L2
namespace L2
open PySem PySem.Spec PyProof.Rows PySem.Calls PySem.SeqAt PySem.W
def jJ(h:L5) (d:K1) (a:Array ac7) (ep:Nat):Prop:=∃o,h.get? d=some o/\o.ExactDict/\o.data=.dict a ep
theorem jJ.typeIs{s:J5}{d:K1}{a:Array ac7}{ep:Nat}(x:jJ s.heap d a ep):s.TypeIs (.ref d) "dict":=let⟨o,c,e,_⟩:=x;⟨o,c,e.1⟩
theorem jJ.lt{h:L5}{d:K1}{a:Array ac7}{ep:Nat}(x:jJ h d a ep):d<h.objs.size:=let⟨_,c,_⟩:=x;K6 c
theorem jJ.at'{h h':L5}{d:K1}{a:Array ac7}{ep:Nat}(x:jJ h d a ep) (e:∀o,h.get? d=some o->h'.get? d=some o):jJ h' d a ep:=let⟨o,c,r⟩:=x;⟨o,e _ c,r⟩
section
variable{prog:M9}{w:P5}{A:O9}{E:J3->J5->Prop}{s:J5}{it d:K1}{y:Array ac7}{ep i:Nat}
theorem D4{Q:J3->J5->Prop}(g:(d==Z6)=false) (e:jJ s.heap d y ep)
  (h:Q (.ref s.heap.objs.size) { s with heap:=s.heap.push { cls:=.type "dict_keyiterator",data:=.fields #[.ref d,.int 0 0,.int y.size 0,.int ep 0] } }) :
  K5 (N3 prog w) A (au4 (.ref d)) Q E s:=by
 have c:s.TypeIs (.ref d) "dict":=e.typeIs;obtain⟨o,f,i,a⟩:=e;refine an4 c F.slot_dict_iter (O7 F.slot_dict_iter c F.entry_dict_iter ?_ (F.args_dict_iter_1 _));unfold L3.«dict.__iter__»;refine o0 ?_;unfold L3.Dict.dictSlotNone;refine o0 (wpAny_notOrdered_dict c ?_);show K5 _ _ (ak7 (Q0 d)) _ _ s;refine J1 ?_;show K5 _ _ (L3.Dict.showsAll d >>= _) _ _ s;unfold L3.Dict.showsAll;rw[if_neg (by rw[g];exact P7)];refine o0 (J1 (o0 (wpAny_dictEntries f a (o0 (wpAny_dictEpoch f a ?_)))));refine o0 (N0 (J1 ⟨_,rfl,"dict_keyiterator",_,⟨_,J8 _ rfl,rfl⟩,aa1.lookup,?_⟩));simpa[W5]using h
theorem D6{Q:Option J3->J5->Prop}(a:s.heap.IsKeyIter it d i y.size ep) (m:jJ s.heap d y ep) (j:i<y.size)
  (q:∀h',h'.IsKeyIter it d (i+1) y.size ep->O6 it s.heap h'->Q (some y[i].key) { s with heap:=h' }) :
  K5 (N3 prog w) A (ag3 (.ref it)) Q E s:=by
 obtain⟨o,l,p,h⟩:=id a;obtain⟨u,e,n,f⟩:=id m;unfold ag3;refine o0 (ac3 (P2 (name:=N1 "__next__") a.typeIs aa1
  (O7 aa1 a.typeIs F.entry_dict_keyiterator_next ?_ (F.args_dict_keyiterator_next_1 _))))
 refine o0 (J1 (o0 (o0 (o0 (ad8 a.typeIs (J1 (o0 (al2 l h ?_))))))));have g:L3.Dict_items.ownsTuple "dict_keyiterator"=false:=by decide
 rw[g,if_neg P7];show K5 _ _ (if(Q0 d==T9)=true then _ else _) _ _ s;rw[if_neg (show ¬ ((Q0 d==T9)=true)from P7)];refine o0 (J1 (o0 (wpAny_dictEntries e f ?_)));rw[if_neg (by simp)];refine o0 (J1 (o0 (wpAny_dictEpoch e f ?_)));rw[if_neg (by simp)];refine J1 ?_;simp only[show ¬ ((i:Int)<0)from by omega,if_false,V8,N4 j];refine o0 (o0 (ad8 a.typeIs (J1 (o0 (wpAny_isOneOf_keyiter a.typeIs ?_)))));show K5 _ _ (setField (.ref it) 1 (W5 ((i:Int)+1)) >>= _) _ _ s;refine o0 (W9 l h (by simp) ?_);have c:(s.heap.update it (ai0 (·.setIfInBounds 1 (W5 ((i:Int)+1))))).IsKeyIter it d (i+1) y.size ep :=
  ⟨_,T5 _ l (aj5 (aa6 h _)),(Obj.cls_mapFields ..).trans p,by rw[aa6 h];simp[W5]⟩
 refine o0 (U8 ?_);refine o0 (wpAny_isOneOf_keyiter (s:={ s with heap:=s.heap.update it (ai0 (·.setIfInBounds 1 (W5 ((i:Int)+1)))) }) c.typeIs ?_);show K5 _ _ (ak7 y[i].key) _ _ _;exact J1 (J1 ⟨_,rfl,J1 (q _ c (Q7 ..))⟩)
theorem HU{Q:Option J3->J5->Prop}(n:A.handled=none) (c:s.heap.IsKeyIter it d i y.size ep) (p:jJ s.heap d y ep) (h:y.size<=i)
  (u:∀h',an3 it s.heap h'->Q none { s with heap:=h' }):K5 (N3 prog w) A (ag3 (.ref it)) Q E s:=by
 obtain⟨o,l,z,j⟩:=id c;obtain⟨x,e,q,f⟩:=id p;unfold ag3;refine o0 (ac3 (P2 (name:=N1 "__next__") c.typeIs aa1
  (O7 aa1 c.typeIs F.entry_dict_keyiterator_next ?_ (F.args_dict_keyiterator_next_1 _))))
 refine o0 (J1 (o0 (o0 (o0 (ad8 c.typeIs (J1 (o0 (al2 l j ?_))))))));have g:L3.Dict_items.ownsTuple "dict_keyiterator"=false:=by decide
 rw[g,if_neg P7];show K5 _ _ (if(Q0 d==T9)=true then _ else _) _ _ s;rw[if_neg (show ¬ ((Q0 d==T9)=true)from P7)];refine o0 (J1 (o0 (wpAny_dictEntries e f ?_)));rw[if_neg (by simp)];refine o0 (J1 (o0 (wpAny_dictEpoch e f ?_)));rw[if_neg (by simp)];refine J1 ?_;simp only[show ¬ ((i:Int)<0)from by omega,if_false,V8,Array.getElem?_eq_none h];refine o0 (o0 (ad8 c.typeIs (J1 ?_)));show K5 _ _ (setField (.ref it) 0 .none >>= _) _ _ s;refine o0 (W9 l j (by simp) ?_);show K5 _ _ (aw8 (.type "StopIteration") [] >>= _) _ _ _;refine o0 ?_;simp only[aw8,av8];refine o0 (N0 ?_ (by size_fits));refine o0 (m:=ac4 _ _) (ad6 (a:=T9) (by first|rfl|(simp only[ac4];rfl)) ?_);refine N0 ?_ (by size_fits);simp -iota only[av9];refine o0 (ap0 ?_);rw[show A.in1.handled=none from n];refine o0 (J1 (as1 ?_));refine o0 (ab1 (T:="StopIteration") (b:=true) ⟨_,J8 _ rfl,rfl⟩ an9 ?_);exact J1 (u _ (((Q7 ..).extBut.push _).push _))
theorem IB(q:A.handled=none) (I d:K1) (l:d≠I) (y:Array ac7) (ep:Nat) :
  av4 prog w A I [I,d] [I] y.size (fun i v=>∃e,y[i]?=some e/\v=e.key) (fun i h=>h.IsKeyIter I d i y.size ep/\jJ h d y ep) where
 sub:=fun b a=>by simp at a;simp[a]
 frame:=fun _ _ _ st p=>⟨st.1.at fun o e=>p I (by simp) o e,st.2.at' fun o e=>p d (by simp) o e⟩
 item:=fun i s Q E n st g=>by
  refine D6 st.1 st.2 n fun j c f=>?_;exact g _ j s.toks ⟨y[i],by simp[n],rfl⟩ ⟨c,st.2.at' fun o e=>f.extBut d o l e⟩ fun b o a e=>f.extBut b o (fun h=>a (by simp[h])) e
 done:=fun s Q E st g=>HU q st.1 st.2 (J7 _) fun j m=>g j s.toks fun b o a e=>m b o (fun h=>a (by simp[h])) e
 self:=fun _ _ _ _ st g=>wpAny_pyIter_keyiter st.1 g
theorem Ji(lo:(d==Z6)=false):KdlSrc prog w "dict" d d y.size (fun i v=>∃e,y[i]?=some e/\v=e.key) (fun h=>jJ h d y ep) where
 type:=fun _ a=>a.typeIs
 there:=fun _ a=>⟨a.lt,a.lt⟩
 keep:=fun _ _ a g=>a.at' fun o e=>g d (.inl rfl) o e
 notList:=by decide
 notTuple:=by decide
 hint:=fun _ _ _ _ a c=>kdl_hint_dict a.typeIs c
 iter:=fun _ _ f a=>⟨_,_,(fun _ _ c=>D4 lo a c),IB f _ d (K9 a.lt) y ep,⟨⟨_,J8 _ rfl,rfl,rfl⟩,a.at' fun _ e=>u8 _ e⟩⟩
theorem tu{Q:List J3->J5->Prop}(I:A.handled=none) (lo:(d==Z6)=false) (H:jJ s.heap d y ep) (hn:y.size<=K0)
  (h:∀h' tk,(∀b o,s.heap.get? b=some o->h'.get? b=some o)->Q (y.toList.map (·.key)) { s with heap:=h',toks:=tk }):K5 (N3 prog w) A (collect (.ref d)) Q E s:=by
 unfold collect;refine o0 (ar2 (Z1 PySem.F.entry_proto_collect ?_));rw[W3 PySem.F.plain_proto_collect _];show K5 _ A.in1 (newList [] >>= fun l=>again (.builtin "list.__iadd__" ⟨[l,.ref d],[]⟩)) _ _ s;refine o0 (N0 ?_);refine J1 ⟨ai2 ai4 _,Z1 PySem.F.entry_list_iadd ?_⟩;rw[W3 ai4 _];have G:s.heap.objs.size≠d:=ac6 H.lt;show K5 _ A.in1 (L3.List.listExtendWith (.ref s.heap.objs.size) (.ref d) (.ref s.heap.objs.size)) _ _ _;have L:(s.heap.push { cls:=.type "list",data:=.seq #[] }).get? s.heap.objs.size=some { cls:=.type "list",data:=.seq #[] }:=J8 _ rfl;have K:=kdl_extend (prog:=prog) (w:=w) (A:=A) (R:=fun r p=>∃h' tk a n,r=.ok (.ret (.ref s.heap.objs.size))/\p={ s with heap:=h',toks:=tk }/\(∀b o,s.heap.get? b=some o->h'.get? b=some o)/\h'.get? s.heap.objs.size=some (Ah a n)/\a.toList=y.toList.map (·.key)) (s:={ s with heap:=s.heap.push { cls:=.type "list",data:=.seq #[] } }) (Ji (ep:=ep) lo) I (H.at' fun _ e=>u8 _ e) s.heap.objs.size G G (.ref s.heap.objs.size) 0 L (fun h' tk a n M m j=>⟨h',tk,a,n,rfl,rfl,fun b o q=>M b o (K9 (K6 q)) (u8 _ q),m,by
  apply Z9;intro i;rcases S3 i y.size with z|z
  ·have g:a[i]?=some (a[i]'(by rw[j.1];exact z)):=N4 _;obtain⟨e,J,C⟩:=j.2 i _ g;rw[R1,g,C,N9,R1,J];rfl
  ·rw[Q5 (by simp[j.1];exact z),Q5 (by simp;assumption)]⟩) hn
 refine U6 K (fun u p B=>?_) fun e p z111z=>(by obtain⟨h',tk,a,n,q,_⟩:=z111z;exact nomatch q)
 cases u with
 |done f =>
  obtain⟨h',tk,a,n,q,rfl,kp,m,x⟩:=B;cases q;show K5 _ A _ Q E _;refine o0 (ar3 m (J1 ?_));rw[x];exact h h' tk kp
 |again c =>
  refine⟨B.1,ah2 B.2 fun r p z112z=>?_⟩;obtain⟨h',tk,a,n,q,C,kp,m,x⟩:=z112z;subst q C;show K5 _ A _ Q E _;refine o0 (ar3 m (J1 ?_));rw[x];exact h h' tk kp
end
open Classical in
instance decKs:DecidableEq (List KD):=fun _ _=>propDecidable _
def bU(prog:M9) (w:P5) (n:Nat) (hn:n<=8):HeapKind prog w (List KD) where
 is h ks a:=KAt h n (.tup ks) (.ref a)
 hash ks:=hK w n (.tup ks)
 draws ks:=drK n (.tup ks)
 room A:=A.units+n<Z4
 inj hx hy:=by have:=KAt.same n hx hy;cases this;rfl
 keeps {h h' k a d o es ep} q ho hd hs:=q.upT fun b u z113z=>(by obtain⟨i,g,l,m,e⟩:=z113z;exact ⟨i,by
  have f:b≠d:=fun z=>by subst z;rw[ho]at g;cases g;rw[hd]at e;cases e
  rw[hs.2 b f];exact g,l,m,e⟩)
 pyHash hr hx h:=KAt.hash n hr hx h
 eqBool {A E s x y a b Q} hr hx hy h:=by
  obtain⟨c,p,j⟩:=KAt.eq n hr hx hy;refine j prog w _ _ ?_;have:c=decide (x=y):=by
   rw[S8,p];simp
  rw[this];exact h
 quiet hx h:=KAt.quiet 8 n hn hx h
end L2
namespace L2
open PySem PySem.Spec PyProof.Rows PySem.Calls PySem.SeqAt
noncomputable def enR(w:P5) (p:List KD×J3):ac7:=⟨hK w 8 (.tup p.1),p.2,.bool true⟩
def DrE(w:P5) (a:K1) (ks:List (List KD)) (e:List V) (h:L5):Prop :=
 (a==Z6)=false/\ks.Nodup/\(∀k∈ks,dpK 8 (.tup k))/\∃its,ax e its/\∃c f,jJ h a c f/\c.toList=(ks.zip its).map (enR w)
noncomputable def dRw(w:P5) (a:K1) (ks:List (List KD)):HD:=.ext (DrE w a ks) (ks.map eM)
theorem DrE.ok{P:M9}{w j:P5}{H:Hp}{a:K1}{ks:List (List KD)}{e:List V}{h:L5}(x:DrE w a ks e h):bB P j H h a (.ext (DrE w a ks e)):=by
 refine⟨x,?_,fun u s z114z k=>by obtain⟨n,m,l,its,i,c,f,g,q⟩:=z114z;exact ⟨n,m,l,its,i,c,f,g.at' k,q⟩⟩;obtain⟨_,_,_,its,_,c,f,⟨o,p,_⟩,_⟩:=x;exact⟨o,p⟩
noncomputable def lG:J3->K1
 |.ref a=>a
 |_=>0
section
variable{X:Cx}{z:List (K1×Obj)}{s:J5}{σ:St}{H:Hp}{M:DH}{a b:K1}{ks:List (List KD)}{k:List KD}
theorem kC{a c:Type}:∀{l:List a}{m:List c},l.length=m.length->(l.zip m).map (·.1)=l
 |[],_,_=>by simp
 |_::_,[],h=>by cases h
 |x::l,y::m,h=>by simp[kC (l:=l) (m:=m) (aq7 h)]
theorem qX{a c:Type}:∀{l:List a}{m:List c},l.length=m.length->(l.zip m).map (·.2)=m
 |[],[],_=>rfl
 |[],_::_,h=>by cases h
 |_::_,[],h=>by cases h
 |x::l,y::m,h=>by simp[qX (l:=l) (m:=m) (aq7 h)]
noncomputable def xsR(p:List KD×J3):List KD×K1×J3:=(p.1,lG p.2,.bool true)
variable{o i e:O4}{B I te:TEd}
end
end L2
namespace L2
open PySem PySem.Spec PyProof.Rows
theorem rq:aw3 (.type "list") "keys"=ak7 none:=by rw[ag9,aa0];kernel_rfl
section
variable{prog:M9}{w:P5}{A:O9}{E:J3->J5->Prop}{s:J5}
theorem vJ{a:K1}{o:Obj}{xs:Array J3}{k:Nat}{Q:Option J3->J5->Prop}(n:s.heap.get? a=some o) (m:o.cls=.type "list") (f:o.data=.seq xs k) (l:o.dict=none) (x:A.handled=none)
  (h:∀h' tk e,L5.NewExcOf s.heap h' e "AttributeError"->Q none { s with heap:=h',toks:=tk }):K5 (N3 prog w) A (getAttr? (.ref a) "keys") Q E s:=by
 obtain⟨c,B,u,q⟩:=o;simp only at m f l;subst m f l;obtain⟨z,g,d,tk,os⟩:=s;have p:∀i,(⟨z,g,d,i,os⟩:J5).TypeIs (.ref a) "list":=fun _=>⟨_,n,rfl⟩;have C:=sub_AttributeError;have H:=F.slot_list_getattribute.lookup;have L:=F.slot_list_getattribute.bind (.ref a);have M:=am_list_getattr_none;unfold getAttr? getAttrBy? getAttrBy
 repeat (any_goals (first|assumption|exact p _|((with_reducible show K5 _ _ (aw9 (J3.builtin "list.__getattribute__") _ _) _ _ _);refine ar4 F.slot_list_getattribute (p _) am_entry_list_getattribute (F.args_list_getattribute_2 _ _) (meets_getattribute_miss_list a xs k q "keys" _ rq (by decide) (by decide)) ⟨n,x,fun h' i e j=>?_⟩)|wp_step))
 obtain⟨I,G,J⟩:=j.there;show K5 _ _ (getattributeRaised _ _ _ _ _ _ _) _ _ _;unfold getattributeRaised
 repeat (any_goals (first|assumption|wp_step))
 exact h _ _ _ j.of
variable{R:at6->J5->Prop}{I:K1}{fp y:List K1}{G:Array ar6->Array ar6->Prop}{n:Nat}{P:Nat->J3->Prop}{St:Nat->J5->Prop}
theorem CC(W:WalksS prog w A.in1 I fp y G n P St) (d:K1) (C:d∉fp) (bs:Nat->K1) (kf vf:Nat->J3)
  (hP:∀i v,P i v->v=.ref (bs i)) (B:∀i,i<n->bs i∉d::y) (Dst:Nat->L5->Prop)
  (hD:∀i h h',Dst i h->(∀b o,b∉y->h.get? b=some o->h'.get? b=some o)->Dst i h')
  (step:∀i (s:J5) (E':J3->J5->Prop) (Q:Unit->J5->Prop),i<n->Dst i s.heap->(∀h' tk,s.toks<=tk->Dst (i+1) h'->O6 d s.heap h'->Q () { s with heap:=h',toks:=tk })->K5 (N3 prog w) A.in1 (dictSet d (kf i) (vf i)) Q E' s) :
  ∀(k i:Nat) (s:J5) (t:Tok),n-i=k->i<=n->St i s->Dst i s.heap->(∀j,j<n->aj8 s.heap (bs j) #[kf j,vf j]) ->
   (∀s',Moved (d::y) G s s'->Dst n s'.heap->R (.ok (.ret .none)) s') ->
   ak4 (N3 prog w) A (.builtin "dict.update.loop" ⟨[.ref d,.ref I,.int i t,.none],[]⟩) R s:=by
 have a1:d∉y:=fun h=>C (W.sub _ h);have a:∀b∈y,b∈d::y:=fun b f=>P4 _ f;intro k
 induction k with
 |zero =>
  intro i s t hk hi l S u X;have N:i=n:=by omega
  subst N;refine Z1 qK ?_;rw[W3 jb _];show K5 _ A.in1 (ag3 (.ref I) >>= _) _ _ s;refine o0 (W.done s _ _ l fun s' q=>?_);show K5 _ A.in1 (L3.Dict.addKeywords d [] >>= _) _ _ s';exact o0 (J1 (J1 (X s' (q.mono a) (hD _ _ _ S fun b o f e=>q.heap b o f e))))
 |succ k ih =>
  intro i s t hk hi l S u X;have c:i<n:=by omega
  refine Z1 qK ?_;rw[W3 jb _];show K5 _ A.in1 (ag3 (.ref I) >>= _) _ _ s;refine o0 (W.item i s _ _ c l fun v s' Y J q=>?_);obtain rfl:=hP i v Y;have a0:=hD _ _ s'.heap S fun b o f e=>q.heap b o f e;have g:∀j,j<n->aj8 s'.heap (bs j) #[kf j,vf j]:=fun j x=>by
   obtain⟨o,Z,O,m,U⟩:=u j x;exact⟨o,q.heap _ _ (fun z=>B j x (a _ z)) Z,O,m,U⟩
  show K5 _ A.in1 (ax4 [Q0 (bs i)] _ >>= _) _ _ s';refine o0 (U8 (o0 (wpAny_tryCatch (vL (g i c) ?_))));refine U8 (step i s' _ _ c a0 fun h' tk H M p=>?_);refine J1 ⟨ai2 jb _,ih (i+1) _ _ (by omega) c (W.frame _ s' _ _ J H fun b f o e=>?_) M (fun j x=>?_) fun T E L=>?_⟩
  ·rw[p.2 b (fun h:b=d=>C (by rw[<-h];exact f))];exact e
  ·obtain⟨o,Z,O,m,U⟩:=g j x;refine⟨o,?_,O,m,U⟩;show h'.get? (bs j)=_;rw[p.2 _ (fun z=>B j x (by rw[z];exact U1))];exact Z
  ·refine X T (Moved.trans W.gtrans ((q.mono a).then_heap H fun b o f e=>?_) E) L;rw[p.2 b (fun h:b=d=>f (by rw[h];exact U1))];exact e
theorem nN{l:K1}{its:Array J3}{Q:J3->J5->Prop}(kf vf:Nat->J3) (Dst:Nat->L5->Prop) (hh:A.handled=none) (hl:PlainL s.heap l its)
  (I:∀i,i<its.size->∃b,its[i]?=some (Q0 b)/\aj8 s.heap b #[kf i,vf i])
  (h0:∀h',(∀b o,(s.heap.push { cls:=.type "dict",data:=.dict #[] }).get? b=some o->h'.get? b=some o)->Dst 0 h')
  (hD:∀i h h',Dst i h->(∀b o,b<s.heap.objs.size+1->h.get? b=some o->h'.get? b=some o)->Dst i h')
  (step:∀i (G:J5) (E':J3->J5->Prop) (Q:Unit->J5->Prop),i<its.size->Dst i G.heap->(∀h' tk,G.toks<=tk->Dst (i+1) h'->O6 s.heap.objs.size G.heap h'->Q () { G with heap:=h',toks:=tk })->K5 (N3 prog w) A.in1.in1 (dictSet s.heap.objs.size (kf i) (vf i)) Q E' G)
  (h:∀h' tk,Dst its.size h'->(∀b o,s.heap.get? b=some o->h'.get? b=some o)->Q (.ref s.heap.objs.size) { s with heap:=h',toks:=tk }) :
  K5 (N3 prog w) A (aw9 (.type "dict") [.ref l]) Q E s:=by
 refine callType_codes (Q₁:=fun(obj:J3) (g:J5)=>obj=Q0 s.heap.objs.size/\g={ s with heap:=s.heap.push { cls:=.type "dict",data:=.dict #[] } }) F.kt_called_dict (F.kt_typeCall_dict_1 _) F.entry_dict_init (kt_code_dict_new _ ⟨rfl,rfl⟩) ?_;rintro obj g ⟨rfl,rfl⟩;have a:(s.heap.push { cls:=.type "dict",data:=.dict #[] }).DictOf (bc prog w) s.heap.objs.size []:=L5.DictOf.new s.heap;obtain⟨o,m,ho,S,u,hd⟩:=hl;have B:l<s.heap.objs.size:=K6 ho;have p:(s.heap.push { cls:=.type "dict",data:=.dict #[] }).get? l=some o:=u8 _ ho;refine⟨a.typeIs,F.args_dict_init_2 _ _,?_⟩;unfold L3.«dict.__init__»;refine o0 ?_;unfold L3.Dict.selfAndRest;refine o0 (wpAny_notOrdered_dict a.typeIs ?_);show K5 _ _ (ak7 (s.heap.objs.size,[Q0 l])) _ _ _;refine J1 ?_;show K5 _ _ (L3.Dict.updateFrom "dict.__init__" s.heap.objs.size (.ref l) [] .none) _ _ _;unfold L3.Dict.updateFrom;refine o0 (ah4 (T:="list") ⟨o,p,S⟩ ?_);rw[if_pos (by decide)];have J:A.in1.in1.handled=none:=hh;refine o0 (vJ p S hd u J fun N a0 e1 L=>?_);have C:N.IsList l its:=⟨o,L.keeps _ _ p,S,m,hd⟩;have c:s.heap.objs.size<N.objs.size:=by
  obtain⟨q,es,ep,hq,rest⟩:=a;exact K6 (L.keeps _ _ hq)
 have f:∀b q,s.heap.get? b=some q->N.get? b=some q:=fun b q e=>L.keeps _ _ (u8 _ e);rw[if_pos (show(Option.isNone (none:Option J3))=true from rfl)];refine o0 (ak0 (o0 (X5 C ?_)));refine J1 ⟨ai2 jb _,?_⟩;have O:∀i,i<its.size->vg its i<s.heap.objs.size/\aj8 s.heap (vg its i) #[kf i,vf i]:=fun i x=>by
  obtain⟨b,e,q⟩:=I i x;have eb:vg its i=b:=by unfold vg;rw[e]
  rw[eb];obtain⟨ob,Y,_⟩:=id q;exact⟨K6 Y,q⟩
 refine CC (n:=its.size) ((aw6 (A:=A.in1.in1) J N.objs.size l (K9 (ao3 B c)) its).toS) s.heap.objs.size (by
  simp only[L1,R4,or_false,not_or];exact⟨K9 c,ac6 B⟩) (vg its) kf vf (fun i v x=>?_) (fun i x=>?_) Dst (fun i ha Z q k=>hD i ha Z q fun b o O e=>k b o ?_ e) step _ 0 _ 0 rfl (P1 _) ⟨⟨_,J8 _ rfl,rfl,rfl⟩,C.push _⟩ (h0 _ fun b o e=>u8 _ (L.keeps _ _ e)) (fun j hj=>?_) fun s' M X=>?_
 ·have P:i<its.size:=(X8.mp x).1;obtain⟨b,e,_⟩:=I i P;have e':its[i]?=some v:=x;rw[e]at e';have eb:vg its i=b:=by unfold vg;rw[e]
  rw[eb];exact(V0 e').symm
 ·have:=(O i x).1;simp only[L1,R4,or_false,not_or];exact⟨K9 this,K9 (ao3 this c)⟩
 ·intro z;simp only[L1,R4,or_false]at z;rw[z]at O;omega
 ·obtain⟨ob,Y,g2,gm,g3⟩:=(O j hj).2;exact⟨ob,u8 _ (f _ _ Y),g2,gm,g3⟩
 ·obtain⟨h',g',d',U,R⟩:=s';have eg:g'=s.gens:=M.gens;have ed:d'=s.drawn:=M.drawn;have eo:R=s.os:=M.os;subst eg;subst ed;subst eo;refine⟨rfl,h h' U X fun b q e=>?_⟩;have H:=K6 e;exact M.heap b q (by simp only[L1,R4,or_false,not_or];exact⟨K9 H,K9 (ao3 H c)⟩) (u8 _ (f _ _ e))
end
end L2
namespace L2
open PySem PySem.Spec PyProof.Rows PySem.Calls PySem.SeqAt
section
variable{X:Cx}{W:List (K1×Obj)}{s:J5}{σ:St}{H:Hp}{M:DH}{a:O4}{Y:TEd}
theorem sv(I:Inv X W σ H s) {N:Type}{f g:N->D}:∀{a:List N}{n:List V}{its:List J3},am X.K M H (a.map fun t=>.tup [f t,g t]) n->ax n its ->
  ∃(xs l:List V) (us ws:List J3),am X.K M H (a.map f) xs/\am X.K M H (a.map g) l/\ax xs us/\ax l ws/\us.length=a.length/\ws.length=a.length/\its.length=a.length/\∀(i:Nat) (u w:J3),us[i]?=some u->ws[i]?=some w->∃b,its[i]?=some (Q0 b)/\aj8 s.heap b #[u,w]
 |[],n,its,e,B=>by
  simp only[ao2,am]at e;subst e;cases B;exact⟨[],[],[],[],am.nil,am.nil,.nil,.nil,rfl,rfl,rfl,fun i u w h=>by simp at h⟩
 |t::a,n,its,e,B=>by
  simp only[L7,am]at e;obtain⟨v,U,rfl,G,q⟩:=e;cases B with
  |@cons _ u _ E ru p =>
   obtain⟨xs,l,us,ws,h1,Z,P,h4,O,h6,h7,h8⟩:=sv I q p;simp only[Rep]at G;obtain⟨b,R,rfl,Y,L⟩:=G;simp only[am]at L;obtain⟨Q,_,rfl,A,x2,_,rfl,z,rfl⟩:=L;cases(show u=Q0 b from ru);obtain⟨J,C,tn,_⟩:=I.tupN Y.sq;obtain⟨S,u2,rfl,o,x⟩:=ax.two C;refine⟨Q::xs,x2::l,S::us,u2::ws,am.cons A h1,am.cons z Z,.cons o P,.cons x h4,by simp[O],by simp[h6],by simp[h7],fun i u w j m=>?_⟩;cases i with
   |zero =>
    simp only[aa8,ab8]at j m;subst j m;exact⟨b,rfl,tn.tup⟩
   |succ i =>
    simp only[U4]at j m;obtain⟨c,g1,T⟩:=h8 i u w j m;exact⟨c,by rw[U4];exact g1,T⟩
theorem i9{a:Type}{l:List a}{i:Nat}(h:i<l.length):∃x,l[i]?=some x:=⟨_,J6 h⟩
theorem CH{a:Type}{l:List a}{i:Nat}{x:a}(h:l[i]?=some x):l.take (i+1)=l.take i++[x]:=by rw[X6,h];rfl
def BH(w:P5) (e:Bool) (z B:TEd):TEd:=fun f M Q=>z f M fun y M1=>B f M1 fun x M2=>∃a c k,x=.ref a/\M2 a=some (dRw w a c)/\y=eM k/\dpK 8 (.tup k)/\c.length<1000000/\Q (.bl (xor e (decide (k∈c)))) M2
theorem mV{ks:List (List KD)}{us:List J3}{k:List KD}(g:ks.length=us.length) (hn:ks.Nodup):(atKey ((ks.zip us).map xsR) k).isSome=decide (k∈ks):=by
 have a:((ks.zip us).map xsR).map (·.1)=ks:=by rw[M0];exact kC g
 by_cases c:k∈ks
 ·rw[decide_eq_true c];have f:=c;rw[<-a]at f;obtain⟨x,m,e⟩:=M7.mp f;obtain⟨i,h⟩:=T4.mp m;obtain⟨o,n⟩:=x;subst e;rw[atKey_of_get (by rw[a];exact hn) h];rfl
 ·rw[decide_eq_false c,atKey_none_of_get fun j p l=>c ?_]
  ·rfl
  ·rw[<-a];exact M7.mpr ⟨_,O5 l,rfl⟩
theorem zw{i o:O4}{z B:TEd}{op:am8}{g:Bool}(P:op=(if g then .NotIn else .In)) (hu:X.A.units+64<Z4) (m:PEd X i z) (N:PEd X o B):PC X op i o (up X.K (BH X.w g z B)):=by
 intro W s σ H Q I ⟨Δ,M,R,U,hr,q,k⟩;refine evD m I U hr q fun iv s1 v1 H1 y M1 I1 r1 q1 T S e1=>evD N I1 (U.ext e1) T q1 fun u n v2 H2 x M2 L r2 z115z w E e2=>?_;obtain⟨a,J,G,ex,em,ey,hd,hl,q2⟩:=z115z;subst ex ey;simp only[Rep]at E;subst E;obtain rfl:u=Q0 a:=r2;obtain⟨vs,hH,rl⟩:=w a _ em;obtain⟨⟨lo,O,dp,its,rv,es,ep,⟨o,N,hc,C⟩,he⟩,_,_⟩:=L.hok a _ hH;have f:=m6 L 8 (k:=.tup G) hd (by simp only[kd];exact S.ext e2) r1;have h:=f;obtain⟨b,_,rfl,_⟩:=h;have j:J.length=its.length:=by rw[<-rv.length,<-rl.length,J0]
 have at_:∀p∈J.zip its,KAt n.heap 8 (.tup p.1) p.2/\p.2=.ref (lG p.2):=fun p l=>by
  obtain⟨i,m⟩:=T4.mp l;rw[af9]at m;have q:=fV L dp rl rv m.1 m.2;refine⟨q,?_⟩;obtain⟨c,_,e,_⟩:=q;rw[e];rfl
 have Y:n.heap.DictOfH (bU X.prog X.w 8 (J7 _)) a ((J.zip its).map xsR):=⟨o,es,ep,N,hc,C,by
  rw[he,M0];refine S7 fun p l=>?_;show(⟨hK X.w 8 (.tup p.1),p.2,.bool true⟩:ac7)=⟨hK X.w 8 (.tup p.1),.ref (lG p.2),.bool true⟩;rw[<-(at_ p l).2],fun x hx=>by
  obtain⟨p,l,rfl⟩:=M7.mp hx;obtain⟨q,e⟩:=at_ p l;rw[e]at q;exact q,by rw[M0,show(Prod.fst∘xsR)=(·.1)from rfl,kC j];exact O⟩
 subst P;have A:∀Z,EP X W σ Q (.bool (xor g (decide (G∈J)))) { n with toks:=Z }:=fun Z=>⟨.bl _,H2,L.tok _,rfl,k _ _ _ _ q2 (e1.trans e2) w (by simp only[Rep])⟩;cases g with
 |false =>
  refine wpAny_in_heap (knd:=bU X.prog X.w 8 (J7 _)) (show X.A.units+1+8<Z4 by lia) f lo Y ?_;rw[mV j O];have:=A (n.toks+(bU X.prog X.w 8 (J7 _)).draws G);rw[S5]at this;exact this
 |true =>
  refine wpAny_notIn_heap (knd:=bU X.prog X.w 8 (J7 _)) (show X.A.units+1+8<Z4 by lia) f lo Y ?_;rw[mV j O];have:=A (n.toks+(bU X.prog X.w 8 (J7 _)).draws G);rw[Bool.true_xor]at this;exact this
variable{i o:O4}{z B:TEd}{N:Pos}
theorem Hc{w:P5}(a:Bool) {op:am8}(c:op=(if a then .NotIn else .In)) (e:X.A.units+64<Z4) (g:QEd X i z) (j:QEd X o B) (h:X1 op o=false) (f:autoParam (X.w=w) L2.zq0._auto_1):QEd X (.Compare i [op] [o] N) (BH w a z B):=by
 subst f;simp only[QEd.eq]at *
 exact vF (zw c e g j) h
theorem rE{w:P5}(a:Bool) {op:am8}(c:op=(if a then .NotIn else .In)) (e:X.A.units+64<Z4) (g:QEd X i z) (l:QEd X o B) (j:X1 op o=false) (f:autoParam (X.w=w) L2.zq0._auto_1):QTd X (.Compare i [op] [o] N) (jV (BH w a z B)):=by
 subst f;simp only[QEd.eq,QTd.eq]at *
 exact PT.conv (qV (zw c e g l) j) (Gm fun _ _ _ h=>h)
end
end L2
namespace L2
open PySem PySem.Spec PyProof.Rows
section
variable{prog:M9}{w:P5}{A:O9}{E:J3->J5->Prop}{s:J5}
theorem uO{n:Nat}{hn8:n<=8}{l:K1}{a:Array J3}{xs:List (List KD)}{Q:J3->J5->Prop}
  (hh:A.handled=none) (hu:A.units+n+8<Z4) (hl:s.heap.IsTuple l a) (hn:a.size=xs.length) (hi:∀(i:Nat) k u,xs[i]?=some k->a[i]?=some u->KAt s.heap n (.tup k) u) (q:xs.length<1000)
  (h:∀(h':L5) (tk:Nat),jX (tK prog w n hn8 s.heap (·∈a)) h' s.heap.objs.size (fR xs)->nh s.heap h'->Q (.ref s.heap.objs.size) { s with heap:=h',toks:=tk }) :
  K5 (N3 prog w) A (aw9 (.type "set") [.ref l]) Q E s:=by
 obtain⟨c,tl,a7⟩:=R7.mro;have P:=R7.made;have a3:=R7.sub;refine aw2 (codeAny_of_tree ?_);show K5 _ _ (callAny (.type "set") _) _ _ _;refine J1 ⟨Code.quiet_builtin _ (by decide +kernel),Z1 PySem.F.entry_type_call ?_⟩;rw[O9.under_plain (weight_type_call_type "set" [.ref l] []) rfl];have h1:=R7.notType;have h2:=R7.canCreate;have b0:=PySem.F.typeCall_set_1 (.ref l)
 repeat (any_goals (first|assumption|wp_step))
 refine ah2 (tE (.ref l) (E:=E) (Q₁:=fun obj j=>obj=.ref s.heap.objs.size/\j={ s with heap:=s.heap.push (gR w) }) ⟨rfl,rfl⟩) fun r j U=>?_;cases r with
 |error e=>exact U
 |ok fl =>
  cases fl with
  |ret obj =>
   obtain⟨rfl,rfl⟩:=U;have hS:(s.heap.push (gR w)).get? s.heap.objs.size=some (gR w):=J8 _ rfl;have hT:J5.TypeIs { s with heap:=s.heap.push (gR w) } (.ref s.heap.objs.size) "set":=⟨_,hS,rfl⟩;have a':=R7.init.lookup;have a9:=R7.init.bind (.ref s.heap.objs.size)
   repeat (any_goals (first|assumption|wp_step))
   refine ah2 (codeAny_call_builtin (R:=wants (fun r m=>r=.none/\∃h' tk,m={ s with heap:=h',toks:=tk } /\
     jX (tK prog w n hn8 s.heap (·∈a)) h' s.heap.objs.size (fR xs)/\nh s.heap h') E) R7.init.plain PySem.F.entry_set_init (check_set_init_1 hT ?_)) fun G m f=>?_
   ·obtain⟨ol,I,H,nl,B⟩:=hl;obtain⟨a6,p,N,g⟩:=ol;simp only at H B;subst H;subst B;have M:(s.heap.push (gR w)).get? l=some { cls:=.type "tuple",dict:=p,data:=.seq a nl,slots:=g }:=u8 _ I;have a4:=PySem.F.sub_tuple_set;have a8:=PySem.F.sub_tuple_frozenset;have b1:(af0 "tuple"==af0 "dict")=false:=by decide
    have J:(s.heap.push (gR w)).IsTuple l a:=⟨_,M,rfl,nl,rfl⟩;unfold L3.«set.__init__» noKeywords L3.Frozenset.updateFrom;generalize T:au4=PI
    wp_walk
    subst T;refine aa7 J ?_;refine o0 (ar2 ?_);have C:l<s.heap.objs.size:=K6 I;have a0:A.in1.in1.in1.handled=none:=by simp[hh]
    have L:l≠(s.heap.push (gR w)).objs.size:=by
     rw[R6];exact K9 (V1 C)
    have Z:s.heap.objs.size∉[(s.heap.push (gR w)).objs.size,l]:=by
     rw[R6];simp only[L1,K2,R4,or_false,not_or];exact⟨K9 (W8 _),ac6 C⟩
    have W:=(av4.tuple (prog:=prog) (w:=w) a0 _ l L a).toS;rw[hn]at W;have frs:∀b,s.heap.objs.size<=b->s.heap.get? b=none:=fun b q=>ad9 q;refine GX (V:=(·∈a)) (n:=n) (hn:=hn8) (h0:=s.heap) (xs:=xs) W s.heap.objs.size Z (fun b q=>?_) (show A.units+1+1+1+n<Z4 by lia) (fun i v X hv=>⟨hi i _ _ (J6 X) hv,Array.mem_of_getElem? hv⟩) q (xs.length-0) 0 _ (by lia) (P1 _) ?St0 ?hK0 ?hS0 ?hR
    case St0=>exact⟨⟨_,J8 _ rfl,rfl,rfl⟩,(J.push _)⟩
    ·rcases L1.mp q with rfl|q
     ·exact frs _ (J7 _)
     ·rw[K2.mp q,R6];exact frs _ (ap3 _)
    case hK0=>exact fun b o e=>u8 _ (u8 _ e)
    case hS0=>exact A9 (u8 _ hS)
    case hR =>
     intro s' S a2 x;obtain⟨h',g',d',a1,Y⟩:=s';have eg:g'=s.gens:=S.gens;have ed:d'=s.drawn:=S.drawn;have eo:Y=s.os:=S.os;subst eg;subst ed;subst eo;show K5 _ _ _ _ _ _;refine J1 ?_;show K5 _ _ (ret T9) _ _ _;exact J1 ⟨rfl,h',a1,rfl,x,a2⟩
   ·cases G with
    |error e=>exact f
    |ok z =>
     cases z with
     |ret r =>
      obtain⟨rfl,h',tk,rfl,x,O⟩:=f
      repeat (any_goals (first|assumption|wp_step))
      exact h _ _ x O
     |_=>exact f.elim
  |_=>exact U.elim
end
section
open PySem.Calls PySem.SeqAt
variable{X:Cx}{y:List (K1×Obj)}{s:J5}{σ:St}{H:Hp}{M:DH}{K:J4}
end
end L2
namespace L2
open PySem PySem.Spec PyProof.Rows PySem.Calls PySem.SeqAt
end L2
namespace L2
open PySem PySem.Spec PyProof.Rows PySem.Builtin PySem.Builtin.Str StrLaws
end L2
namespace L2
open PySem PySem.Spec PyProof.Rows
open AutoSeq1 (wpAny_loadPart')
end L2
namespace L2
open PySem PySem.Spec PySem.Calls PyProof.Rows PySem.W PySem.Builtin PySem.Builtin.ObjectAttr PySem.Builtin.Getset_descriptor
end L2
namespace L2
open PySem PySem.Spec PyProof.Rows
noncomputable def Jt(j:Nat) (E:fT):fT where
 nx:=fun c M=>∃a,LeM a M/\E.nx (c.set j none) a
 bk:=fun c M=>∃a,LeM a M/\E.bk (c.set j none) a
 ct:=fun c M=>∃a,LeM a M/\E.ct (c.set j none) a
 rt:=fun d M=>∃a,LeM a M/\E.rt d a
noncomputable def EG(K:J4) (P:K1):J4:=K.filter fun p=>p.1 != P
theorem e8{P a:K1}(h:a≠P):∀K:J4,(EG K P).lookup a=K.lookup a
 |[]=>rfl
 |(b,o)::K=>by
  have ih:=e8 h K;unfold EG at ih ⊢
  by_cases c:b=P
  ·rw[S9 (by simp[c]),ih,S6,beq_eq_false_iff_ne.mpr (fun e=>h (e.trans c))]
  ·rw[Q6 (by simp[c]),S6,S6,ih]
end L2
namespace L2
open PySem PySem.Spec PySem.Calls PyProof.Rows
end L2
namespace L2
open PySem PySem.Spec PyProof.Rows
end L2
namespace L2
open PySem PySem.Spec PyProof.Rows PySem.Calls PySem.SeqAt
end L2
namespace L2
open PySem PySem.Spec PyProof.Rows PySem.Calls PySem.SeqAt PySem.W
def DrF(w:P5) (a:K1) (ks:List (List KD)) (c:List V) (o:Obj) (ws:List V) (h:L5):Prop:=ws=c/\h.get? a=some o/\ks.length=c.length/\DrE w a ks c h
noncomputable def Hy(a:K1) (e:List V->L5->Prop) (n:Nat):It :=
 ⟨fun i H=>(∃c,H a=some (.ext (e c)))/\i<n,fun i H x f=>f=H/\∀c,H a=some (.ext (e c))->c[i]?=some x,fun i H=>(∃c,H a=some (.ext (e c)))/\n<=i⟩
section
variable{X:Cx}{N:List (K1×Obj)}{σ:St}{H:Hp}{s:J5}{a:K1}{o:Obj}{ks:List (List KD)}{y ws:List V}{B:Array ac7}{ep:Nat}
theorem DrF.ok{P:M9}{w n:P5}{H:Hp}{h:L5}(x:DrF w a ks y o ws h):bB P n H h a (.ext (DrF w a ks y o ws)) :=
 ⟨x,⟨o,x.2.1⟩,fun s q z116z k=>by obtain⟨e,c,l,i,f,p,its,j,B,ep,g,m⟩:=z116z;exact ⟨e,k _ c,l,i,f,p,its,j,B,ep,g.at' k,m⟩⟩
theorem DrF.its{w:P5}{h:L5}(x:DrF w a ks y o ws h) (i:o.data=.dict B ep):jJ h a B ep/\ax y (B.toList.map (·.key)):=by
 obtain⟨_,j,l,_,_,_,its,g,p,m,⟨s,f,q,c⟩,n⟩:=x;rw[j]at f;cases f;rw[i]at c;cases c;refine⟨⟨o,j,q,i⟩,?_⟩;have e:B.toList.map (·.key)=its:=by rw[n,M0];exact qX (l.trans g.length)
 rw[e];exact g
theorem CZ{P:M9}{w:P5}{K:J4}{Y:O4}(it:K1) (U:o.data=.dict B ep):lZ P w K Y (Hy a (DrF w a ks y o) y.length) [it] it (fun i h=>h.IsKeyIter it a i B.size ep) where
 mem:=by simp
 obj:=fun i h st b j=>by
  have e:b=it:=by simpa using j
  subst e;obtain⟨o,e,c,d⟩:=st;exact⟨o,e,fun v z=>by rw[d]at z;cases z⟩
 keep:=fun i h l st k=>st.at fun o e=>k it (by simp) o e
 item:=by
  intro X q A hK T i N s σ H E I m st L;subst q A hK;obtain⟨⟨ws,e⟩,C⟩:=L;have S:∀ws,H a=some (.ext (DrF X.w a ks y o ws))->DrF X.w a ks y o ws s.heap:=fun ws e=>(I.hok a _ e).1;obtain⟨G,n⟩:=(S ws e).its U;obtain⟨Q,x,f2,O,R,J⟩:=m it (by simp);have hl:y.length=B.size:=by rw[n.length,J0,L8]
  refine D6 st G (by lia) fun l f M=>?_;have I1:Inv X N σ H { s with heap:=l }:=I.turned (t':=s.toks) (fun b o j e=>M.extBut b o j e) Q x O R J;obtain⟨u,g,r⟩:=n.get (J6 C);rw[N9,R1,N4 (show i<B.size by lia),aq0]at g;cases g;obtain⟨ob,e1,Z,d1⟩:=id f;exact⟨_,rfl,p8 (s:={ s with heap:=l }) e1 Z d1 (by decide) ⟨y[i],H,I1,r,⟨rfl,fun p e'=>by rw[(S p e').1];exact J6 C⟩,f,fun b j=>(m b j).1⟩⟩
 done:=by
  intro X q A hK T i N s σ H E I m st L;subst q A hK;obtain⟨⟨ws,e⟩,C⟩:=L;obtain⟨G,n⟩:=(show DrF X.w a ks y o ws s.heap from(I.hok a _ e).1).its U;obtain⟨Q,x,f2,O,R,J⟩:=m it (by simp);have hl:y.length=B.size:=by rw[n.length,J0,L8]
  exact HU (I.ok.hd T) st G (by lia) fun l eb=>⟨rfl,I.turned (t':=s.toks) (fun b o j e=>eb b o j e) Q x O R J⟩
 self:=fun _ _ _ _ _ st h=>wpAny_pyIter_keyiter st h
variable{Y Z elt l:O4}{pos:Pos}{W:ai7}{cl:List (Str×K1)}{ms:List Bool}{aq:List Str}{tl:TE}
def xk(w:P5) (e:TEd):TEd:=fun f M Q=>e f M fun x M1=>∃a ks c,x=.ref a/\M1 a=some (dRw w a ks)/\ks.map eM=c.map pD/\c.length<64/\Q (.lst ((iI c).map pD)) M1
theorem zb{w:P5}{o:O4}{to:TEd}{p0 q0:Pos}(hc:X.calm=true) (b1:Gl X "sorted") (b2:X.mg "sorted"=none) (ho:QEd X o to) (hw:autoParam (X.w=w) L2.zq0._auto_1)
  (a1:autoParam (K8 [o] X.env=(false,af7 o X.env)::K8 [] X.env) L2.zq0._auto_1) (a7:autoParam ((aa2 q0 (K8 [] X.env)).any (·.1)=false) L2.zq0._auto_1) :
  QEd X (.Call (.Name "sorted" p0) [o] [] q0) (xk w to):=by
 subst hw;simp only[QEd.eq]at *
 intro N s σ H Q I ⟨Δ,M,R,sr,hr,q,k⟩;refine U3 (cO I b1 b2 (u:=.builtin "sorted") (by kernel_rfl) ?_ (by decide) (by decide));refine X9 ?_ a1 a7;rw[a1];show K5 _ _ (at4 ((false,af7 _ X.env)::aa2 q0 (K8 [] X.env))) _ _ s;refine U2 (evD ho I sr hr q fun u s1 v H1 x M1 I1 r1 z117z a4 rv e1=>?_);obtain⟨a,ks,n,ex,em,hk,b4,q2⟩:=z117z;refine X4 ?_;subst ex;simp only[Rep]at rv;subst rv;obtain rfl:u=Q0 a:=r1;obtain⟨y,hH,rl⟩:=a4 a _ em;obtain⟨⟨lo,nd,dp,its,J,B,ep,de,he⟩,_,_⟩:=I1.hok a _ hH;have Z:ks.length=its.length:=by rw[<-J.length,<-rl.length,J0]
 have b0:B.size=ks.length:=by rw[<-L8,he,J0,List.length_zip];lia
 have ek:B.toList.map (·.key)=its:=by rw[he,M0];exact qX Z
 have hn:n.length=its.length:=by rw[<-Z];have:=congrArg al7 hk;simpa using this.symm
 rw[hk]at rl;have a0:its.length<64:=by lia
 refine call_function_entry as4 aq4 aq5 (aq6 _) ?_;unfold L3.«sorted»;refine o0 (m:=au3 "sorted" 1 1 _) (J1 ?_);have a2:its.length<=K0:=by rw[aa3];lia
 refine o0 (tu (A:=X.A.in1) (I1.ok.hd hc) lo de (by rw[b0,aa3];lia) fun E tk a9=>?_);rw[ek];refine o0 (as3 ?_ a2);have I2:Inv X N σ H1 { s1 with heap:=E,toks:=tk }:=I1.kept a9;have a5:∀b o,E.get? b=some o->(E.push (aj6 "list" its.toArray 0)).get? b=some o:=fun b o e=>u8 _ e;have new:(E.push (aj6 "list" its.toArray 0)).get? E.objs.size=some (aj6 "list" its.toArray 0):=J8 _ rfl;have Y:E.get? E.objs.size=none:=ad9 (J7 _);show K5 _ _ _ _ _ { s1 with heap:=E.push (aj6 "list" its.toArray 0),toks:=tk };have G:∀(t:J5),ou E.objs.size { s1 with heap:=E.push (aj6 "list" its.toArray 0),toks:=tk } t->∀b o,E.get? b=some o->t.heap.get? b=some o:=fun t U b o e=>U b o (fun q=>by rw[q,Y]at e;cases e) (a5 b o e);have at_:=fun i (l:i<n.length)=>va I2 rl J l;have P:∀i (l:i<n.length),n.getD i (0,0)=n[i]:=fun i l=>by rw[Q3,J6 l];rfl
 refine o0 (U8 (O7 slot_list_sort ⟨_,new,rfl⟩ entry_list_sort ?_ (args_list_sort _)));refine u7 (O:=EK) (key:=fun i=>n.getD i (0,0)) (κ:=tuples' true) new a0 (fun S Q' two U q=>?_) (fun i j S C l L U q=>?_) fun p c h' hp hs a6 hx=>?_
 ·obtain⟨fs,t1,t2,t3⟩:=mY (h:=S.heap) hn.symm fun i l=>let⟨a,t,u,g,z⟩:=at_ i l;⟨a,t,u,g,bT z (G S U)⟩
  exact kat_kind (T:=.type "int") t1 (by lia) (fun f hf=>by obtain⟨i,t,rfl⟩:=t3 f hf;exact Looks.of_pure rfl) rfl q
 ·rw[<-hn]at l L;obtain⟨a,t,u,g,z⟩:=at_ i l;obtain⟨b,t',u',g',z'⟩:=at_ j L;show K5 _ _ (keyLt' _ _ _) _ _ _;rw[eJ g,eJ g'];refine oq (bT z (G S U)) (bT z' (G S U)) ?_;have q':C (ltP (n.getD i (0,0)) (n.getD j (0,0))) S:=q
  rwa [P i l,P j L]at q'
 ·refine⟨_,rfl,J1 ⟨_,rfl,?_⟩⟩;have kp:∀b o,E.get? b=some o->h'.get? b=some o:=fun b o e=>G { s1 with heap:=h',toks:=tk } a6 b o e;have a3:∀i∈p.toList,i<n.length:=fun i l=>by rw[hn];exact P6.mp (hp.mem_iff.mp l)
  have b3:y.length=its.length:=J.length;have lo:(p.toList.map fun i=>y.getD i .non).length=its.length:=by rw[J0,L8];exact hp.size
  have I3:=I2.laid (t':=tk) (o:=.lst (p.toList.map fun i=>y.getD i .non)) kp (J7 _) (show bB X.prog X.w _ h' _ (.lst _)from⟨by rw[lo];exact a2,gK its p,c,gf J (fun i l=>by rw[b3,<-hn];exact a3 i l),hx⟩);have B:(p.toList.map fun i=>n.getD i (0,0))=iI n:=by
   have a8:p.toList.Perm (N5 n.length):=by rw[hn];exact hp
   have hm:=a8.map fun i=>n.getD i (0,0);rw[l6]at hm;refine oC hm ?_;rw[ag1];intro i j l L a';have sz:p.size=its.length:=hp.size;rw[J0,L8]at l L;have:=hs i j (V4 a') (by lia);have e1:kp_ p i=p.toList[i]'(by simpa using l):=by simp[kp_,X7,l]
   have e2:kp_ p j=p.toList[j]'(by simpa using L):=by simp[kp_,X7,L]
   have g:leP (n.getD (kp_ p i) (0,0)) (n.getD (kp_ p j) (0,0))=true:=by
    have z:ltP (n.getD (kp_ p j) (0,0)) (n.getD (kp_ p i) (0,0))=false:=this;simp only[leP,z,ag2]
   rw[e1,e2]at g;simpa using g
  refine⟨.ref _,_,I3,rfl,dq a4 (I2.hok.fresh (J7 _)) (ja rl a3) fun w H' a b c=>?_⟩;rw[B]at c;exact k _ _ _ _ q2 (e1.trans a) b c
end
end L2
namespace L2
open PySem PySem.Spec PyProof.Rows PySem.Calls
end L2
namespace L2
open PySem PySem.Spec PyProof.Rows
def kM(w:P5) (K:J4) (g:Str->Option J3) (x:Str) (c:List (Str×Str)):Prop :=
 ∃a o h i,g x=some (.ref a)/\K.lookup a=some o/\o.ExactDict/\o.data=.dict h i/\(a==Z6)=false/\(c.map (·.1)).Nodup /\
  ad0 (fun(e:ac7) (f:Str×Str)=>(∃t,e.key=.str f.1 t)/\e.hash=o8 w (.inr f.1)/\g f.2=some e.val) h.toList c
noncomputable def fnD(a:Str->Option J3) (c:Str):D:=match a c with
 |some (.ref f)=>.ref f
 |_=>.non
noncomputable def jW(a:List (Str×Str)) (k:Str):Option Str:=(a.find? fun c=>c.1==k).map (·.2)
section
variable{P:M9}{w:P5}{K:J4}{B:Str->Option J3}{x:Str}{y:List (Str×Str)}
theorem zV:∀{g:List ac7}{y:List (Str×Str)},ad0 (fun(e:ac7) (c:Str×Str)=>(∃t,e.key=.str c.1 t)/\e.hash=o8 w (.inr c.1)/\B c.2=some e.val) g y ->
  ∃f:List (Key×J3),Pairs (bc P w) g f/\f.map (·.1)=y.map (fun c=>ao6 c.1)/\(∀e∈g,∃k,(bc P w).is k e.key=true/\e.hash=(bc P w).hash k)/\∀k,(al8 f (.inr k)).isSome=(jW y k).isSome/\∀i,jW y k=some i->∃u,al8 f (.inr k)=some u/\B i=some u:=by
 intro g y h
 induction h with
 |nil=>exact⟨[],.nil,rfl,by simp,fun k=>⟨rfl,fun i e=>by simp[jW]at e⟩⟩
 |@cons e c g y x _ ih =>
  obtain⟨f,s,p,n,C⟩:=ih;obtain⟨⟨t,A⟩,o,E⟩:=x;have l:(bc P w).is (.inr c.1) e.key=true:=by rw[A];exact jo (k:=.inr c.1) (show aF (.str c.1) (.str c.1 t)from⟨t,rfl⟩)
  refine⟨(.inr c.1,e.val)::f,.cons l rfl s,by simp[p],fun m j=>?_,fun k=>?_⟩
  ·rcases L1.mp j with rfl|j
   ·exact⟨_,l,o⟩
   ·exact n m j
  ·by_cases z:c.1=k
   ·subst z;have a:al8 ((ao6 c.1,e.val)::f) (.inr c.1)=some e.val:=by simp[al8]
    have b:jW (c::y) c.1=some c.2:=by simp[jW]
    rw[a,b];exact⟨rfl,fun i q=>⟨_,rfl,by cases q;exact E⟩⟩
   ·have a:al8 ((ao6 c.1,e.val)::f) (.inr k)=al8 f (.inr k):=by simp[al8,z]
    have b:jW (c::y) k=jW y k:=by simp[jW,z]
    rw[a,b];exact C k
theorem kM.dict(P:M9) (G:kM w K B x y):∃a c,B x=some (.ref a)/\(a==Z6)=false/\(∀h:L5,K.In h->h.DictOf (bc P w) a c) /\
  ∀k,(al8 c (.inr k)).isSome=(jW y k).isSome/\∀f,jW y k=some f->∃u,al8 c (.inr k)=some u/\B f=some u:=by
 obtain⟨a,o,j,H,p,n,i,s,g,q,J⟩:=G;obtain⟨c,A,l,m,I⟩:=zV (P:=P) J;refine⟨a,c,p,g,fun h hK=>⟨o,j,H,hK _ _ n,i,s,fun e C=>m e (by simpa using C),A,?_⟩,I⟩;have:(c.map fun x=>x.fst)=c.map (·.1):=rfl;rw[this,l];have e:(y.map fun E=>(ao6 E.1:Key))=(y.map (·.1)).map ao6:=by simp
 rw[e];exact(ak3.mpr (ar8.imp (fun h z=>h (by simpa using z)) q))
end
def AY(e:Str->Option J3) (a:List (Str×Str)) (g:TEd):TEd:=fun h M R=>g h M fun d M1=>∃k c f,d=.str k/\jW a k=some c/\e c=some (.ref f)/\R (fnD e c) M1
def wQ(a:List (Str×Str)) (c:TEd):TEd:=fun e M R=>c e M fun d M1=>∃k,d=.str k/\R (.bl (!(jW a k).isSome)) M1
section
variable{X:Cx}{x:Str}{y:List (Str×Str)}{i e:O4}{Z:List O4}{Y:TEd}{t:TAd}{B p:Pos}
theorem FT(hu:X.A.units+1<Z4) (hg:Gl X x) (G:kM X.w X.K X.mg x y) (P:PEd X i Y) (hs:A3 i) (hdb:autoParam ((x==("__debug__":Str))=false) L2.zq1._auto_1):PEd X (.Subscript (.Name x p) i B) (AY X.mg y Y):=by
 obtain⟨a,vs,h1,h2,U,O⟩:=G.dict X.prog;intro J s Z H Q I ⟨Δ,M,R,S,hr,q,k⟩;refine xo PySem.F.slot_dict_getitem.lookup hs (kE I hg h1 ?_ hdb);refine thn (P J s Z H (fun v w=>∃k c f,v=.str k/\jW y k=some c/\X.mg c=some (.ref f)/\Q (.ref f) w) I ⟨Δ,M,_,S,hr,q,fun d E v C z118z T n l=>?_⟩) fun u s1 z119z=>?_
 ·obtain⟨g,c,f,m,o,h,N⟩:=z118z;subst m;refine⟨g,c,f,by simpa[Rep]using l,o,h,k _ E _ C N T n ?_⟩;simp[fnD,h,Rep]
 ·obtain⟨v,w,z,rv,g,c,f,m,o,h,L⟩:=z119z;subst m;have A:=U _ z.kIn;obtain⟨u',j,e⟩:=(O g).2 c o;rw[h]at e;cases e;exact⟨A.typeIs,wpAny_getItem_of (jo (k:=.inr g) rv) A.mapOf j ⟨.ref f,w,z.tok _,rfl,L⟩⟩
theorem Dh(hg:Gl X x) (G:kM X.w X.K X.mg x y) (L:PEd X i Y) (hdb:autoParam ((x==("__debug__":Str))=false) L2.zq1._auto_1):PC X .NotIn i (.Name x p) (up X.K (wQ y Y)):=by
 obtain⟨a,Z,A,z,m,J⟩:=G.dict X.prog;rintro B s o H Q I ⟨O,M,R,T,N,q,k⟩;refine thn (L B s o H (fun v h=>∃k,v=.str k/\Q (.bl (!(jW y k).isSome)) h) I ⟨O,M,_,T,N,q,fun d w v n z120z l j e=>?_⟩) fun u U z121z=>?_
 ·obtain⟨c,f,E⟩:=z120z;subst f;exact⟨c,by simpa[Rep]using e,k _ w _ n E l j (by simp[Rep])⟩
 ·obtain⟨v,h,g,P,c,f,C⟩:=z121z;subst f;refine kE g hg A ?_ hdb;have S:=m _ g.kIn;refine wpAny_notIn_of (jo (k:=.inr c) P) z S.mapOf ?_;rw[(J c).1];exact⟨.bl _,h,g.tok _,rfl,C⟩
theorem CN(hg:Gl X x) (G:kM X.w X.K X.mg x y) (a:PEd X i Y) (hdb:autoParam ((x==("__debug__":Str))=false) L2.zq1._auto_1):PTd X (.Compare i [.NotIn] [.Name x p] B) (jV (wQ y Y)):=(qV (Dh hg G a hdb) rfl).conv DJ
def vk(i:Nat) (e:Str->Option J3) (f:Str) (n:Nat) (S:SpD) (t:TAd):TEd:=fun a M R=>a[i]?=some (some (fnD e f))/\t a M fun c M1=>c.length=n/\S c M1 R
theorem C0(i:Nat) {k:Nat}{f:K1}{U:N2}{ps:List Str}{n:Nat}{S:SpD}{Y:Str}(F:aR X.prog X.w X.K X.mg X.base CX0 k f U ps (spD X.K n S)) (hr:cv k X.A) (hm:X.mg Y=some (.ref f)) (hk:ab9 X.K (.ref f)=true) (hb:dN X.K U ps [])
  (ha:PAd X (e::Z) t) (hN:autoParam (X.N[i]?=some x) L2.zq0._auto_1) (hv:Vis X.env.scope x:=by first|exact P0 rfl|exact at1 (P0 rfl)|exact at1 (at1 rfl)) (hdb:autoParam ((x==("__debug__":Str))=false) L2.zq1._auto_1) (A:autoParam ((x==("__classdict__":Str))=false) L2.zq1._auto_1) (he:autoParam (K8 (e::Z) X.env=(false,af7 e X.env)::K8 Z X.env) L2.zq0._auto_1) (hpl:autoParam ((aa2 B (K8 Z X.env)).any (·.1)=false) L2.zq0._auto_1) :
  PEd X (.Call (.Name x p) (e::Z) [] B) (vk i X.mg Y n S t):=by
 intro J s T H Q I ⟨Δ,M,R,P,l,⟨ei,q⟩,kq⟩;obtain⟨v,ev,rv⟩:=P.2 i _ ei;have G:v=.ref f:=by simpa[fnD,hm,Rep]using rv
 subst G;refine U3 (Bz hN hv hdb A J s T H (fun L a=>L=.ref f/\a=H) I ⟨_,ev,rfl,rfl⟩ |> fun z=>thn z fun u s0 z122z=>?_);obtain⟨L,a,I',r',h,e2⟩:=z122z;subst h;subst e2;obtain rfl:u=Q0 f:=r';refine PySem.W.callWith_K (h₀:=X.base) I'.ok.mod.kin hk (thn (ha B J s0 T a (fun C E=>spD X.K n S C E Q fun _ _ _=>False) I' ⟨Δ,M,_,P,l,q,fun O M1 C E z123z h w g=>?_⟩) fun us s1 o=>o.el fun C E N r j=>⟨N.kIn,?_⟩) he hpl
 ·obtain⟨hl,j⟩:=z123z;exact⟨O,M1,R,hl,g,w,j,fun d M' v a q' e' m c=>kq d M' v a q' (h.trans e') m c⟩
 ·exact AC (dvs:=[]) (ds:=[]) F hr hb .nil yV N r (by rw[ag7];exact j)
end
section
variable{X:Cx}{x:Str}{y:List (Str×Str)}{i e:O4}{B:List O4}{H:TEd}{t:TAd}{z p:Pos}
theorem FW(a:X.A.units+1<Z4) (hg:Gl X x) (G:kM X.w X.K X.mg x y) (c:QEd X i H) (hs:A3 i) (hdb:autoParam ((x==("__debug__":Str))=false) L2.zq1._auto_1):QEd X (.Subscript (.Name x p) i z) (AY X.mg y H):=by
 rw[QEd.eq]at *
 exact FT a hg G c hs hdb
theorem Dw(hg:Gl X x) (G:kM X.w X.K X.mg x y) (a:QEd X i H) (hdb:autoParam ((x==("__debug__":Str))=false) L2.zq1._auto_1):QTd X (.Compare i [.NotIn] [.Name x p] z) (jV (wQ y H)):=by
 rw[QTd.eq];rw[QEd.eq]at a;exact CN hg G a hdb
theorem BX(i:Nat) {j k n:Nat}{S:SpD}{m:Str}(F:FnD X.prog X.w X.K X.mg X.base m j n S) (hr:cv k X.A)
  (ha:QAd X (e::B) t) (h:autoParam (j<=k) L2.zq1._auto_1) (q:autoParam (X.N[i]?=some x) L2.zq0._auto_1) (o:Vis X.env.scope x:=by first|exact P0 rfl|exact at1 (P0 rfl)|exact at1 (at1 rfl)) (hdb:autoParam ((x==("__debug__":Str))=false) L2.zq1._auto_1) (l:autoParam ((x==("__classdict__":Str))=false) L2.zq1._auto_1) (he:autoParam (K8 (e::B) X.env=(false,af7 e X.env)::K8 B X.env) L2.zq0._auto_1) (hpl:autoParam ((aa2 z (K8 B X.env)).any (·.1)=false) L2.zq0._auto_1) :
  QEd X (.Call (.Name x p) (e::B) [] z) (vk i X.mg m n S t):=by
 rw[QEd.eq];rw[QAd.eq]at ha;obtain⟨f,s,u,F,g,a,c⟩:=F.ex;exact C0 i F (hr.mono h) g a c ha q o hdb l he hpl
end
end L2
namespace L2
open PySem PySem.Spec PyProof.Rows PySem.Calls PySem.SeqAt
section
variable{X:Cx}{B:List (K1×Obj)}{s:J5}{σ:St}{H:Hp}{M:DH}{a b:K1}{ks:List (List KD)}{k:List KD}
theorem Au{A:O9}{E:J3->J5->Prop}{y:V}{u:J3}{Q:Unit->J5->Prop}(hu:A.units+16<Z4) (I:Inv X B σ H s) (hr:HR X.K M H) (em:M a=some (dRw X.w a ks)) (rk:Rep X.K M H (eM k) y) (ry:aF y u) (hd:dpK 8 (.tup k)) (hl:ks.length<1000000)
  (h:∀N s',am X.K M H ((aS ks k).map eM) N->Inv X B σ (upd H a (.ext (DrE X.w a (aS ks k) N))) s'->Q () s'):K5 (N3 X.prog X.w) A (dictSet a u (.bool true)) Q E s:=by
 obtain⟨vs,hH,Y⟩:=hr a _ em;obtain⟨⟨lo,T,dp,its,Z,es,ep,⟨o,ho,hc,P⟩,he⟩,_,_⟩:=I.hok a _ hH;have m:=m6 I 8 (k:=.tup k) hd (by simp only[kd];exact rk) ry;have w:=m;obtain⟨b,_,rfl,_⟩:=w;have L:ks.length=its.length:=by rw[<-Z.length,<-Y.length,J0]
 have at_:∀p∈ks.zip its,KAt s.heap 8 (.tup p.1) p.2/\p.2=.ref (lG p.2):=fun p C=>by
  obtain⟨i,R⟩:=T4.mp C;rw[af9]at R;have q:=fV I dp Y Z R.1 R.2;refine⟨q,?_⟩;obtain⟨c,_,e,_⟩:=q;rw[e];rfl
 have e1:es.toList=((ks.zip its).map xsR).map (entryOfKey (bU X.prog X.w 8 (J7 _))):=by
  rw[he,M0];refine S7 fun p C=>?_;show(⟨hK X.w 8 (.tup p.1),p.2,.bool true⟩:ac7)=⟨hK X.w 8 (.tup p.1),.ref (lG p.2),.bool true⟩;rw[<-(at_ p C).2]
 have U:((ks.zip its).map xsR).map (·.1)=ks:=by rw[M0];exact kC L
 have hm:s.heap.DictOfH (bU X.prog X.w 8 (J7 _)) a ((ks.zip its).map xsR):=⟨o,es,ep,ho,hc,P,e1,fun x hx=>by
  obtain⟨p,C,rfl⟩:=M7.mp hx;obtain⟨q,e⟩:=at_ p C;rw[e]at q;exact q,by rw[U];exact T⟩
 refine wpAny_dictSet_heap (k:=k) (v:=.bool true) (hsz:=by rw[J0,List.length_zip,aa3];lia) (show A.units+8<Z4 by lia) m hm fun h' a0 hs=>?_;obtain⟨o',O,S,l,J,g,f,_,a2⟩:=a0;have mu:Mut (H a):=by rw[hH];exact al9
 by_cases c:k∈ks
 ·have G:aS ks k=ks:=if_pos c;have st:av0 ((ks.zip its).map xsR) k b (.bool true)=(ks.zip its).map xsR:=by
   unfold av0;have all:((ks.zip its).map xsR).map (putAt k (.bool true))=(ks.zip its).map xsR:=by
    rw[M0];refine S7 fun p C=>?_;show putAt k (.bool true) (xsR p)=xsR p;unfold putAt;split<;>rfl
   split
   ·exact all
   ·rename_i n;exfalso;rw[<-U]at c;obtain⟨x,hx,e⟩:=M7.mp c;obtain⟨i,R⟩:=T4.mp hx;obtain⟨x1,x2⟩:=x;subst e;exact n (by rw[atKey_of_get (by rw[U];exact T) R];rfl)
  rw[st]at f;rw[<-e1,he]at f;refine h vs _ (by rw[G];exact Y) (iN I mu hs ⟨_,l⟩ (DrE.ok ?_));rw[G];exact⟨lo,T,dp,its,Z,O,S,⟨o',l,J,g⟩,f⟩
 ·have G:aS ks k=ks++[k]:=if_neg c;have st:av0 ((ks.zip its).map xsR) k b (.bool true)=(ks.zip its).map xsR++[(k,b,.bool true)]:=by
   refine storedH_new (atKey_none_of_get fun j p hj=>c ?_) _ _;rw[<-U];exact M7.mpr ⟨_,O5 hj,rfl⟩
  rw[st,O2,<-e1,he]at f;obtain⟨v,ev,a1⟩:∃v,v=y/\Rep X.K M H (eM k) v:=⟨y,rfl,rk⟩;subst ev;refine h (vs++[v]) _ (by rw[G,O2];exact Y.append (am.cons a1 am.nil)) (iN I mu hs ⟨_,l⟩ (DrE.ok ?_));rw[G];refine⟨lo,?_,fun j hj=>?_,its++[.ref b],Z.append (.cons ry .nil),O,S,⟨o',l,J,g⟩,?_⟩
  ·rw[<-G];exact tH T k
  ·rcases L4.mp hj with z|z
   ·exact dp j z
   ·rw[K2.mp z];exact hd
  ·rw[f,List.zip_append L,O2];rfl
end
section
variable{X:Cx}{ae:List (K1×Obj)}{σ I:St}{H2 B:Hp}{s2 s':J5}{z:ai7}{Y:List (Str×K1)}{ms:List Bool}{aq:List Str}{tg iter kx vx:O4}{g:TG}{tk tv:TE}{pos:Pos}
def qy(Put:Hp->V->V->(Hp->Prop)->Prop) (J:It) (g:TG) (tk tv:TE) (W:Nat->Nat->St->Hp->Prop) (Z:Hp->Prop):Prop :=
 ∀i m σ H,W i m σ H->(J.stop i H/\Z H) ∨
  (J.go i H/\∀x B,J.yld i H x B->g x σ B fun a H2=>tk a H2 fun y e=>tv a e fun v f=>Put f y v fun h=>∃c,c<m/\W (i+1) c a h)
theorem uv(hu:X.A.units<Z4) (S:dW X z Y ms aq) (dh:X.calm=true)
  (hg:∀C s H q,PG (aD X z Y (X.N++aq) C s H q) tg g) (hk:∀C s H q,PE (aD X z Y (X.N++aq) C s H q) kx tk) (hv:∀C s H q,PE (aD X z Y (X.N++aq) C s H q) vx tv)
  (I2:Inv X ae σ H2 s2) {it:K1} {fp:List K1} {tn:Nat->L5->Prop} {J:It} (T:lZ X.prog X.w X.K tg J fp it tn) (R:tn 0 s2.heap) (f2:∀b∈fp,dP X ae H2 b)
  {D:K1} {Put:Hp->V->V->(Hp->Prop)->Prop} (a0:∀(C:K1) (s0:J5) (H0:Hp) (q:List K1) (ae:List (K1×Obj)) (σ:St) (H:Hp) (s:J5) (y v:V) (u r:J3) (F:Hp->Prop),Inv (aD X z Y (X.N++aq) C s0 H0 q) ae σ H s->aF y u->aF v r->Put H y v F->K5 (N3 X.prog X.w) X.A (dictSet D u r) (fun _ s'=>∃B,Inv (aD X z Y (X.N++aq) C s0 H0 q) ae σ B s'/\F B) (fun _ _=>False) s)
  {W:Nat->Nat->St->Hp->Prop} {Z:Hp->Prop} {m0:Nat} (w0:W 0 m0 (gg ms aq.length σ) H2) (a3:qy Put J g tk tv W Z)
  {RR:K1->at6->J5->Prop} {E:J3->J5->Prop}
  (a5:∀(s':J5) (I:St) (B:Hp),Inv (aD X z Y (X.N++aq) s2.heap.objs.size s2 H2 fp) [] I B s'->Z B->RR s2.heap.objs.size (.ok .next) s') :
  K5 (N3 X.prog X.w) X.A (newFunctionEnv z X.env.globals Y [] X.env.qual none .none (some X.env)) (fun A a4 =>
   ak4 (N3 X.prog X.w) X.A (.compStart (.DictComp kx vx [⟨tg,iter,[],0⟩] z pos) 0 (.ref it) (.ref D) { A with scope:=relabel z X.env }) (RR A.locals) a4) E s2:=by
 refine wpAny_newFunctionEnv S.ncell (by intro y hy;simp at hy) (fun m f j=>?_) S.kind
 try dsimp only at f j ⊢
 have P:∀b∈fp,b<s2.heap.objs.size:=fun b a=>by
  obtain⟨o,e,_⟩:=T.obj _ _ R b a;exact K6 e
 have Q:∀b o,s2.heap.get? b=some o->m.get? b=some o:=fun b o e=>j.extBut b o (K9 (K6 e)) (u8 _ e);have w:∀l:J5,l={ s2 with heap:=m,toks:=s2.toks+([]:List (Str×J3)).length } ->
   ak4 (N3 X.prog X.w) X.A (.compLoop (.DictComp kx vx [⟨tg,iter,[],0⟩] z pos) 0 (.ref it) (.ref D) (compEnvC z Y s2.heap.objs.size X.env)) (RR s2.heap.objs.size) l:=by
  rintro l rfl;have I3:Inv (aD X z Y (X.N++aq) s2.heap.objs.size s2 H2 fp) [] (gg ms aq.length σ) H2 { s2 with heap:=m,toks:=s2.toks+([]:List (Str×J3)).length } :=
   wJ I2 S f2 P (J7 _) rfl I2.bare Q f
  have M:∀{H:Hp},(∀b∈fp,H b=none)->∀b∈fp,dP (aD X z Y (X.N++aq) s2.heap.objs.size s2 H2 fp) [] H b:=fun hn b a =>
   ⟨hn b a,K9 (P b a),(vc I2 S f2 P (J7 _)).exfs b a,.inl a,fun x c e=>(f2 b a).2.2.2.2.1 x c (S.sub x c e),fun p hp=>absurd (show p∈([]:List (K1×Obj))from hp) (by simp)⟩
  refine gQ (env:=compEnvC z Y s2.heap.objs.size X.env)
   (fun n s'=>∃i I B,Inv (aD X z Y (X.N++aq) s2.heap.objs.size s2 H2 fp) [] I B s'/\tn i s'.heap/\(∀b∈fp,B b=none)/\W i n I B) ?_ m0
   ⟨0,_,H2,I3,T.keep _ _ _ R fun b _ o e=>Q b o e,fun b a=>(f2 b a).1,w0⟩
  rintro n s' ⟨i,I,B,I4,a1,U,w4⟩;rcases a3 i n I B w4 with⟨stop,hZ⟩|⟨go,step⟩
  ·refine thn (T.done (aD X z Y (X.N++aq) s2.heap.objs.size s2 H2 fp) rfl rfl rfl dh i _ s' _ B (fun _ _=>False) I4 (M U) a1 stop) fun r s4 z124z=>?_;obtain⟨hr,I5⟩:=z124z;subst hr;exact a5 s4 I B I5 hZ
  ·refine thn (T.item (aD X z Y (X.N++aq) s2.heap.objs.size s2 H2 fp) rfl rfl rfl dh i _ s' _ B (fun _ _=>False) I4 (M U) a1 go) fun r s5 z125z=>?_;obtain⟨u,hr,h5⟩:=z125z;subst hr;refine thn h5 fun _ s6 z126z=>?_;obtain⟨x,H6,I6,r6,y6,O,a6⟩:=z126z;have a7:=I6.pinned (M a6) (T.obj _ _ O);refine thn (hg _ _ _ _ _ s6 _ H6 x u _ a7 r6 (step x H6 y6)) fun _ s7 z127z=>?_;obtain⟨G,H7,I7,q7⟩:=z127z;refine thn (hk _ _ _ _ _ s7 G H7 _ I7 q7) fun kv s8 N=>N.el fun y H8 I8 r8 q8=>?_;refine thn (hv _ _ _ _ _ s8 G H8 _ I8 q8) fun vv s9 N=>N.el fun v H9 I9 r9 q9=>?_;refine thn (a0 _ _ _ _ _ _ _ _ y v kv vv _ I9 r8 r9 q9) fun _ a9 z128z=>?_;obtain⟨a2,L,m',hm,w9⟩:=z128z;have h:tn (i+1) a9.heap/\∀b∈fp,a2 b=none :=
    ⟨T.keep _ _ _ O fun b a o e=>(L.pin (b,o) (N6 _ (N6 _ (du a e)))).1,fun b a=>by
     obtain⟨o,e,d⟩:=T.obj _ _ O b a;exact(L.pin (b,o) (N6 _ (N6 _ (du a e)))).2.1⟩
   exact⟨m',hm,i+1,G,a2,L.unpinned,h.1,h.2,w9⟩
 exact codeAny_compStart_dict (w _ rfl) (T.self _ 0 _ _ _ (T.keep _ _ _ R fun b _ o e=>Q b o e) (w _ rfl))
end
def HN(K:J4) (w:P5) (p:K1) (H:Hp) (y v:V) (F:Hp->Prop):Prop :=
 ∃(M:DH) (c:List (List KD)) (k:List KD),HR K M H/\M p=some (dRw w p c)/\Rep K M H (eM k) y/\dpK 8 (.tup k)/\c.length<1000000/\v=.bl true/\∀a,am K M H ((aS c k).map eM) a->F (upd H p (.ext (DrE w p (aS c k) a)))
def G4(K:J4) (w:P5) (ms:List Bool) (k:Nat) (e:TI) (g:TG) (tk tv:TE):TE:=fun a H Q=>e a H fun J c=>∀p,c p=none->∃(W:Nat->Nat->St->Hp->Prop) (Z:Hp->Prop),(∃m,W 0 m (gg ms k a) (upd c p (.ext (DrE w p [] []))))/\qy (HN K w p) J g tk tv W Z/\∀H,Z H->Q (.ref p) H
section
variable{X:Cx}{Y:List (K1×Obj)}{z:ai7}{cl:List (Str×K1)}{ms:List Bool}{aq:List Str}{tg B kx vx:O4}{g:TG}{tk tv:TE}{pos:Pos}
theorem Fb(hu:X.A.units+64<Z4) (S:dW X z cl ms aq) (dh:X.calm=true) {N:TI}(hi:PI X tg B N)
  (hg:∀C s H f,PG (aD X z cl (X.N++aq) C s H f) tg g) (hk:∀C s H f,PE (aD X z cl (X.N++aq) C s H f) kx tk) (hv:∀C s H f,PE (aD X z cl (X.N++aq) C s H f) vx tv)
  (hs:autoParam (∀x,Z7 B X.env x=ak7 x) L2.zq2._auto_1):PE X (.DictComp kx vx [⟨tg,B,[],0⟩] z pos) (G4 X.K X.w ms aq.length N g tk tv):=by
 intro Y s E H Q I h;show K5 _ _ (comprehension (.DictComp kx vx [⟨tg,B,[],0⟩] z pos) z X.env _ newDict false (af7 B X.env)) _ _ s;refine wpAny_comprehension_free (use:=none) rfl hs S.clos S.kind S.names (thn (hi Y s E H _ I h) fun v s1 h1=>thn h1 fun a3 c h2=>?_);obtain⟨it,R,tn,J,H2,e,p,T,j,f2,q⟩:=h2;subst e;have hp:=p.hok.fresh (J7 c.heap.objs.size);obtain⟨W,Z,⟨m0,w0⟩,i,q⟩:=q _ hp;refine N0 ?_;have L:=p.laid (a:=c.heap.objs.size) (o:=.ext (DrE X.w c.heap.objs.size [] [])) (h':=c.heap.push { cls:=.type "dict",data:=.dict #[] }) (t':=c.toks) (fun _ _ q=>u8 _ q) (J7 _) (DrE.ok ⟨beq_eq_false_iff_ne.mpr (ab6 (K9 p.big)),an8,by simp,[],.nil,#[],0,⟨_,J8 _ rfl,⟨rfl,rfl,rfl⟩,rfl⟩,rfl⟩);have O:∀b∈R,dP X Y (upd H2 c.heap.objs.size (.ext (DrE X.w c.heap.objs.size [] []))) b:=fun b P=>by
  obtain⟨o,e,_⟩:=T.obj _ _ j b P;have n:b≠c.heap.objs.size:=K9 (K6 e);obtain⟨a1,a2⟩:=f2 b P;exact⟨by rw[aO n];exact a1,a2⟩
 refine uv (Put:=HN X.K X.w c.heap.objs.size) (s2:={ c with heap:=c.heap.push { cls:=.type "dict",data:=.dict #[] } }) (by lia) S dh hg hk hv L T (T.keep _ _ _ j fun b _ o e=>u8 _ e) O (fun C s0 H0 f Y E H s y v u r F I ry rv z129z=>?_) w0 i
  (RR:=fun C=>compPost (N3 X.prog X.w) X.A X.xe none (EP X Y E Q) (.ref c.heap.objs.size) C) ?_
 ·obtain⟨M,ks,k,hr,em,rk,hd,hl,ev,hF⟩:=z129z;subst ev;cases rv;exact Au (X:=aD X z cl (X.N++aq) C s0 H0 f) (A:=X.A) (by lia) I hr em rk ry hd hl fun G s' rl l=>⟨_,l,hF G rl⟩
 intro s' a0 U l hZ;obtain⟨m,hm,_⟩:=l.loc;refine⟨m,hm,fun h' w=>?_⟩;exact⟨.ref c.heap.objs.size,_,vI L O l w,rfl,q U hZ⟩
end
section
variable{X:Cx}{I z Y Z:O4}{W:Pos}{y:ai7}{B:List (Str×K1)}{ms:List Bool}{aq:List Str}
def jF(w:P5) (g:GD) (tk tv:TEd) (p:K1):List D->DE->DH->(DH->Prop)->Prop
 |[],_,M,Q=>Q M
 |d::e,f,M,Q=>∃ a,g d f=some a/\tk a M fun kd M1=>tv a M1 fun v M2=>∃c k,kd=eM k/\v=.bl true/\M2 p=some (dRw w p c)/\dpK 8 (.tup k)/\c.length<1000000/\jF w g tk tv p e a (aN M2 p (dRw w p (aS c k))) Q
def Dp(w:P5) (ms:List Bool) (k:Nat) (e:TId) (g:GD) (tk tv:TEd):TEd:=fun a M Q=>e a M fun c M1=>∀p,M1 p=none->jF w g tk tv p c (sV ms k a) (aN M1 p (dRw w p [])) fun M2=>Q (.ref p) M2
theorem Af{w:P5}{K:J4}{wi:TId}{g:GD}{tk tv:TEd}{gv:TG}{ms:List Bool}{O:Nat}(kg:wb K g gv) :
  ∀ σ H Q,up K (Dp w ms O wi g tk tv) σ H Q->G4 K w ms O (upI K wi) gv (up K tk) (up K tv) σ H Q:=by
 rintro σ H Q ⟨Δ,M,R,sr,hr,q,k⟩;refine⟨Δ,M,_,sr,hr,q,fun f M1 J B q1 e1 z it=>fun p hp=>?_⟩;have X:Ext M1 B (aN M1 p (dRw w p [])) (upd B p (.ext (DrE w p [] []))):=Ext.own hp;refine⟨fun i m T a=>∃ o c,m=f.length-i/\i<=f.length/\Ext M1 B c a/\HR K c a/\SR K c a T o/\jF w g tk tv p (f.drop i) o c fun M2=>R (.ref p) M2,
  fun a=>∃c,Ext M1 B c a/\HR K c a/\R (.ref p) c,⟨f.length,_,_,by simp,P1 _,X,z.put X ⟨[],aK,by simp[am]⟩,((sr.ext e1).ext X).comp ms O,q1 p (z.fresh hp)⟩,?_,?_⟩
 ·rintro i m a0 H2 ⟨N,M2,rfl,a3,e2,n,U,s⟩;obtain⟨go,stop⟩:=it M2 H2 e2 n i
  by_cases j:i<f.length
  ·have hd:f[i]?=some f[i]:=by simp[j]
   obtain⟨g1,y1⟩:=go _ hd;rw[ac2 j]at s;simp only[jF]at s;obtain⟨e,eg,f3⟩:=s;refine .inr ⟨g1,fun x a hy=>?_⟩;obtain⟨e3,l,rx⟩:=y1 x a hy;refine kg _ x a0 N e M2 a _ (U.ext e3) l rx eg fun a2 h=>?_;refine⟨e,M2,_,h,l,f3,fun kd M4 kv H4 q4 Y S rk=>?_⟩;refine⟨e,M4,_,h.ext Y,S,q4,fun v I v6 H6 z130z C u E=>?_⟩;obtain⟨P,L,ek,ev,em,Z,hl,q6⟩:=z130z;subst ek;subst ev;refine⟨I,P,L,u,em,rk.ext C,Z,hl,by simpa[Rep]using E,fun a1 rl=>?_⟩;have A:Ext I H6 (aN I p (dRw w p (aS P L))) (upd H6 p (.ext (DrE w p (aS P L) a1))):=Ext.write em;exact⟨f.length-(i+1),by lia,e,_,rfl,j,(((e2.trans e3).trans Y).trans C).trans A,u.put A ⟨_,aK,rl.ext A⟩,((h.ext Y).ext C).ext A,q6⟩
  ·rw[ai8 (by lia)]at s;exact .inl ⟨stop (by lia),M2,e2,n,s⟩
 ·rintro a ⟨c,e',G,q'⟩;exact k _ c _ _ q' (e1.trans e') G (by simp only[Rep])
theorem IK{c:TId}{g:GD}{tk tv:TEd}(e:X.A.units+64<Z4) (S:dW X y B ms aq) (i:X.calm=true) (f:QId X I z c) (hg:PGa X y B aq I g)
  (l:∀C s H a,QEd (aD X y B (X.N++aq) C s H a) Y tk) (m:∀C s H a,QEd (aD X y B (X.N++aq) C s H a) Z tv)
  (hs:autoParam (∀x,Z7 z X.env x=ak7 x) L2.zq2._auto_1):QEd X (.DictComp Y Z [⟨I,z,[],0⟩] y W) (Dp X.w ms aq.length c g tk tv):=by
 simp only[QEd.eq,QId.eq]at *
 obtain⟨n,h,j⟩:=hg;exact(Fb (tk:=up X.K tk) (tv:=up X.K tv) e S i f h l m hs).conv (Af j)
end
theorem ut{K:J4}{M:DH}{H:Hp}{ds:List D}{v:V}(hr:HR K M H) (h:aQ K M H (.tup ds) v):Rep K M H (.tup ds) v:=by
 obtain⟨a,c,rfl,sq,j⟩:=h;refine⟨a,c,rfl,?_,j⟩;rcases sq with rd|k
 ·left;refine⟨rd,?_⟩;cases e:M a with
  |none=>rfl
  |some o =>
   obtain⟨u,f,g⟩:=(hr a o e).some;rcases rd with rd|⟨i,rd⟩
   ·rw[f]at rd;cases rd;exact absurd rfl (g c).1
   ·rw[f]at rd;cases rd;exact absurd rfl ((g c).2 i)
 ·exact .inr (.inr k)
noncomputable def ltT:D->D->Option D
 |.tup [.int a,.int b],.tup [.int c,.int d]=>some (.bl (decide (a<c∨(a=c/\b<d))))
 |_,_=>none
theorem FI{a b c d:Int}:ltT (.tup [.int a,.int b]) (.tup [.int c,.int d])=some (.bl (decide (a<c∨(a=c/\b<d)))):=rfl
theorem Ac{x y z:D}(h:ltT x y=some z):∃a b c d,x=.tup [.int a,.int b]/\y=.tup [.int c,.int d]/\z=.bl (decide (a<c∨(a=c/\b<d))):=by
 unfold ltT at h
 split at h
 ·cases h;exact⟨_,_,_,_,rfl,rfl,rfl⟩
 ·cases h
end L2
namespace L2
open PySem PySem.Spec PyProof.Rows
theorem yc{X:Cx}{j:List (K1×Obj)}{σ:St}{H:Hp}{s:J5}{a:K1}{v:V}{u r:J3}{A:O9}{E:J3->J5->Prop}{c:List (Key×V)}{k:Key}{Q:J3->J5->Prop}(I:Inv X j σ H s) (e:H a=some (.dK c)) (w:aF (kV k) u) (J:aF v r) (N:c.length<K0)
  (B:∀x h s',dX c k=some x->Inv X j σ H s'->aF x h->Q h s') (p:dX c k=none->∀s',Inv X j σ (upd H a (.dK (gh c k v))) s'->Q r s') :
  K5 (N3 X.prog X.w) A (aw9 (.builtin "dict.setdefault") [.ref a,u,r]) Q E s:=by
 obtain⟨z,m,G,f,o⟩:=DM I.hok e;refine call_meetsIn PySem.F.slot_dict_setdefault o.typeIs PySem.F.entry_dict_setdefault (PySem.F.args_dict_setdefault_3 _ _ _) (kt_meets_setdefault (bc X.prog X.w) a (jo w) m r) ⟨G,o,by rw[<-f.length];exact z,fun h n=>?_,fun L O g hs=>?_⟩
 ·cases q:dX c k with
  |none =>
   have:=f.val k;rw[q,n]at this;cases this
  |some x =>
   have:=f.val k;rw[q,n]at this;exact B x h _ q (I.tok _) this
 ·have i:dX c k=none:=by
   cases q:dX c k with
   |none=>rfl
   |some x =>
    have:=f.val k;rw[q,L]at this;cases this
  refine p i _ ?_;obtain⟨q,M,P,C,_⟩:=id g;have l:(gh c k v).length<=K0:=by have:=ij c k v;exact K4 (by assumption) (by assumption)
  refine iN I (by rw[e];exact al9) hs ⟨q,C⟩ (AZ l m (f.put k J) ?_);exact g
def Jh(i ty tx:TE):TE:=fun f H Q=>i f H fun x g=>∃a,x=.ref a/\IsD g a/\ty f g fun y h=>tx f h fun z e=>∃c k,e a=some (.dK c)/\y=kV k/\c.length<K0/\(∀v,dX c k=some v->Q v e)/\(dX c k=none->Q z (upd e a (.dK (gh c k z))))
section
variable{X:Cx}{o e f:O4}{Z ty tx:TE}{B N te:TEd}{W Y:Pos}
theorem uJ(ho:PE X o Z) (he:PE X e ty) (M:PE X f tx) (m:M2 X o "setdefault" W e f Y):PE X (.Call (.Attribute o "setdefault" W) [e,f] [] Y) (Jh Z ty tx):=by
 intro g s c H Q I h;refine wpAny_Call_method m.base m.few m.line PySem.F.plainAttrs_dict PySem.F.slot_dict_setdefault PySem.F.type_dict_setdefault (thn (ho g s c H _ I h) fun u s1 z131z=>?_);obtain⟨x,H1,n,j,a,S,d,U⟩:=z131z;subst S;obtain rfl:u=Q0 a:=j;obtain⟨q,L,_⟩:=Ai n d;refine⟨q,L,?_⟩;rw[m.trees];refine Calls.callWith_builtin rfl (Calls.evalArgs_plain (U2 (thn (he g s1 c H1 _ n U) fun iv R i=>i.el fun y N I2 P E =>
  U2 (thn (M g R c N _ I2 E) fun fv s3 ⟨z,C,J,p,A,k,e3,w,hl,B,T⟩=>X4 ?_))))
 subst w;exact yc J e3 P p hl (fun x w' G O l j=>⟨x,C,l,j,B x O⟩) (fun hn G l=>⟨z,_,l,p,T hn⟩)
def Ef(B N te:TEd):TEd:=fun g M Q=>B g M fun x M1=>∃a e,x=.ref a/\M1 a=some (.dK e)/\N g M1 fun y M2=>te g M2 fun z f=>∃c k,f a=some (.dK c)/\y=kD k/\c.length<K0/\(∀d,cR c k=some d->Q d f)/\(cR c k=none->Q z (aN f a (.dK (je c k z))))
theorem AD(ho:QEd X o B) (hi:QEd X e N) (he:QEd X f te) (m:M2 X o "setdefault" W e f Y):QEd X (.Call (.Attribute o "setdefault" W) [e,f] [] Y) (Ef B N te):=by
 simp only[QEd.eq]at *
 exact PE.conv (uJ ho hi he m) fun σ H Q O=>O.el fun S M R U hr q k=>⟨S,M,_,U,hr,q,fun x M1 v H1 z133z A p rv=>by
   obtain⟨a,a0,ex,em,q1⟩:=z133z
   subst ex;simp only[Rep]at rv;subst rv;obtain⟨L,h1,a1⟩:=p a _ em;refine⟨a,rfl,.inl ⟨L,.inl h1⟩,S,M1,_,U.ext A,p,q1,fun y M2 u H2 q2 J G ru=>?_⟩;refine⟨S,M2,_,(U.ext A).ext J,G,q2,fun z P w E z134z T i l=>?_⟩;obtain⟨g,c,n,ey,hl,q3,q4⟩:=z134z;subst ey;obtain⟨Z,h3,j⟩:=i a _ n;have eu:=ma (ru.ext T);subst eu;refine⟨Z,c,h3,rfl,by rw[<-j.length];exact hl,fun v hv=>?_,fun hn=>?_⟩
   ·cases h:cR g c with
    |none =>
     have:=(j.val c).2;rw[h,hv]at this;cases this
    |some d =>
     obtain⟨v',s,I⟩:=(j.val c).1 d h;rw[hv]at s;cases s;exact k d P _ E (q3 d h) ((A.trans J).trans T) i I
   ·have h:cR g c=none:=by
     cases h:cR g c with
     |none=>rfl
     |some d =>
      have:=(j.val c).2;rw[h,hn]at this;cases this
    have C:Ext P E (aN P a (.dK (je g c z))) (upd E a (.dK (gh Z c w))):=Ext.write n;exact k z _ _ _ (q4 h) (((A.trans J).trans T).trans C) (i.put C ⟨_,aK,(j.put c l).ext C⟩) (l.ext C)⟩
end
end L2
namespace L2
open PySem PySem.Spec PySem.Calls PyProof.Rows PySem.W PySem.Builtin PySem.Builtin.ObjectAttr
end L2
namespace L2
open PySem PySem.Spec PyProof.Rows
end L2
namespace L2
open PySem PySem.Spec PySem.Calls PyProof.Rows PySem.SeqAt
end L2
namespace L2
open PySem PySem.Spec PySem.Calls PyProof.Rows
end L2
namespace L2
open PySem PySem.Spec PyProof.Rows
section
variable{X:Cx}
end
end L2
namespace L2
open PySem PySem.Spec PyProof.Rows PySem.Calls
end L2
namespace L2
open PySem PySem.Spec PyProof.Rows
end L2
namespace L2
open PySem PySem.Spec PyProof.Rows PySem.Calls
end L2
namespace L2
open PySem PySem.Spec PyProof.Rows
section
variable{X:Cx}{I:K1->Option K1->Hp->Prop}{N:List K1}{y:ai7}{W:List (Str×K1)}{ms:List Bool}{aq:List Str}{B Y z e:O4}{te:TXd}{H:Pos}
end
section
variable{X:Cx}{z:K1->Option K1->Hp->Prop}{B:List K1}{a e o i:O4}{H:List O4}{te:TXd}{I N W:TEd}{y:Pos}
end
end L2
namespace L2
open PySem PySem.Spec PyProof.Rows PySem.Calls PySem.SeqAt PySem.W
def AR(w:P5) (a:K1) (ks:List (List KD)) (e:List V->L5->Prop):Prop:=∃c o,e=DrF w a ks c o/\ks.length=c.length
noncomputable def kT(a:K1) (c:List V->L5->Prop) (ks:List (List KD)):D:=.box (.obj a c) (ks.map eM)
theorem nI{K:J4}{M:DH}{H:Hp}{a:K1}{f:List V->L5->Prop}{ks:List (List KD)}{v:V}:Rep K M H (kT a f ks) v↔∃c,v=.ref a/\(H a=some (.ext (f c))/\M a=none)/\am K M H (ks.map eM) c:=by
 simp only[kT,Rep,pZ];exact⟨fun z135z=>by obtain⟨b,c,e,⟨g,⟨_,r⟩,n⟩,h⟩:=z135z;subst g;exact⟨c,e,⟨r,n⟩,h⟩,fun z136z=>by obtain⟨c,e,⟨r,n⟩,h⟩:=z136z;exact ⟨a,c,e,⟨rfl,⟨(),r⟩,n⟩,h⟩⟩
section
variable{X:Cx}{y:List ae4}
def IX(w:P5) (i:Nat) (t:TS):TS:=fun D f H=>∃a e c,f[i]?=some (some (.ref a))/\H a=some (.ext (DrE w a e c))/\e.length=c.length/\∀o,t D f (upd H a (.ext (DrF w a e c o c)))
theorem Am{t:TS}(i:Nat) (h:PSs X y t):PSs X y (IX X.w i t):=by
 rintro j s g H D I ⟨a,n,m,_,c,el,q⟩;have f:=(I.hok a _ c).1;obtain⟨lo,_,_,its,E,A,G,p,C⟩:=id f;obtain⟨o,l,B,z⟩:=id p;have w:Inv X j g (upd H a (.ext (DrF X.w a n m o m))) s:=I.write (x:=a) (e:=a) (h':=s.heap) (t':=s.toks) (by rw[c];exact al9) (.inl rfl) (fun b u _ q=>q) ⟨o,l⟩ (DrF.ok ⟨rfl,l,el,f⟩);exact h j s g _ D w (q o)
def HK(w:P5) (i:Nat) (t:TSd):TSd:=fun E e M=>∃a c,e[i]?=some (some (.ref a))/\M a=some (dRw w a c)/\∀ f,AR w a c f->t E (e.set i (some (kT a f c))) (jO M a)
theorem HQ{w:P5}{t:TSd}(i:Nat) (h:QSs X y t) (A:autoParam (X.w=w) L2.zq0._auto_1):QSs X y (HK w i t):=by
 subst A;simp only[QSs.eq]at *
 exact PSs.conv (Am i h) fun D l H z137z=>by
  obtain⟨I,M,E,x,n,⟨a,f,z,g,q⟩,k⟩:=z137z
  obtain⟨v,m,p⟩:=x.2 i _ z;simp only[Rep]at p;subst p;obtain⟨c,G,s⟩:=n a _ g;have e:f.length=c.length:=by rw[<-s.length,J0]
  refine⟨a,f,c,m,G,e,fun o=>⟨_,jO M a,E,?_,FN n g,q _ ⟨c,o,rfl,e⟩,k.ext (mX g)⟩⟩;have:=(x.ext (mX (o:=.ext (DrF X.w a f c o c)) g)).set i (v:=.ref a) (d:=kT a (DrF X.w a f c o) f) (nI.mpr ⟨c,rfl,⟨aK,iZ⟩,s.ext (mX g)⟩);have C:l.set i (some (.ref a))=l:=by
   apply Z9;intro j
   by_cases u:j=i
   ·subst u;have B:j<l.length:=(L6.mp m).1;rw[ab4 B,m]
   ·rw[ag4 (ab6 u)]
  rw[C]at this;exact this
end
section
variable{X:Cx}{W:List (K1×Obj)}{s:J5}{σ:St}{H:Hp}{M:DH}
def CP(w:P5) (e:Bool) (z B:TEd):TEd:=fun f M Q=>z f M fun y M1=>B f M1 fun x M2=>∃a g c k,x=kT a g c/\AR w a c g/\y=eM k/\dpK 8 (.tup k)/\c.length<1000000/\Q (.bl (xor e (decide (k∈c)))) M2
theorem zC{i o:O4}{z B:TEd}{op:am8}{g:Bool}(P:op=(if g then .NotIn else .In)) (hu:X.A.units+64<Z4) (m:PEd X i z) (L:PEd X o B):PC X op i o (up X.K (CP X.w g z B)):=by
 intro W s σ H Q I ⟨Δ,M,R,Z,hr,q,k⟩;refine evD m I Z hr q fun iv s1 v1 H1 y M1 I1 r1 q1 U S e1=>evD L I1 (Z.ext e1) U q1 fun u n v2 H2 x M2 G r2 ⟨a,φ,E,C,ex,T,ey,hd,hl,q2⟩ O Y e2=>?_;subst ex ey;obtain⟨vs,rfl,⟨hH,hM⟩,rl⟩:=nI.mp Y;obtain rfl:u=Q0 a:=r2;obtain⟨a2,ob,rfl,a1⟩:=T;obtain⟨_,_,_,lo,N,dp,its,rv,es,ep,⟨o,L,hc,A⟩,he⟩:=(G.hok a _ hH).1;rename_i J _ _;subst J;have f:=m6 G 8 (k:=.tup C) hd (by simp only[kd];exact S.ext e2) r1;have h:=f;obtain⟨b,_,rfl,_⟩:=h;have j:E.length=its.length:=by rw[<-rv.length,<-rl.length,J0]
 have at_:∀p∈E.zip its,KAt n.heap 8 (.tup p.1) p.2/\p.2=.ref (lG p.2):=fun p l=>by
  obtain⟨i,m⟩:=T4.mp l;rw[af9]at m;have q:=fV G dp rl rv m.1 m.2;refine⟨q,?_⟩;obtain⟨c,_,e,_⟩:=q;rw[e];rfl
 have hm:n.heap.DictOfH (bU X.prog X.w 8 (J7 _)) a ((E.zip its).map xsR):=⟨o,es,ep,L,hc,A,by
  rw[he,M0];refine S7 fun p l=>?_;show(⟨hK X.w 8 (.tup p.1),p.2,.bool true⟩:ac7)=⟨hK X.w 8 (.tup p.1),.ref (lG p.2),.bool true⟩;rw[<-(at_ p l).2],fun x hx=>by
  obtain⟨p,l,rfl⟩:=M7.mp hx;obtain⟨q,e⟩:=at_ p l;rw[e]at q;exact q,by rw[M0,show(Prod.fst∘xsR)=(·.1)from rfl,kC j];exact N⟩
 subst P;have w:∀t',EP X W σ Q (.bool (xor g (decide (C∈E)))) { n with toks:=t' }:=fun t'=>⟨.bl _,H2,G.tok _,rfl,k _ _ _ _ q2 (e1.trans e2) O (by simp only[Rep])⟩;cases g with
 |false =>
  refine wpAny_in_heap (knd:=bU X.prog X.w 8 (J7 _)) (show X.A.units+1+8<Z4 by lia) f lo hm ?_;rw[mV j N];have:=w (n.toks+(bU X.prog X.w 8 (J7 _)).draws C);rw[S5]at this;exact this
 |true =>
  refine wpAny_notIn_heap (knd:=bU X.prog X.w 8 (J7 _)) (show X.A.units+1+8<Z4 by lia) f lo hm ?_;rw[mV j N];have:=w (n.toks+(bU X.prog X.w 8 (J7 _)).draws C);rw[Bool.true_xor]at this;exact this
variable{i o:O4}{z B:TEd}{N:Pos}
theorem zM{w:P5}(a:Bool) {op:am8}(c:op=(if a then .NotIn else .In)) (e:X.A.units+64<Z4) (g:QEd X i z) (j:QEd X o B) (h:X1 op o=false) (f:autoParam (X.w=w) L2.zq0._auto_1):QEd X (.Compare i [op] [o] N) (CP w a z B):=by
 subst f;simp only[QEd.eq]at *
 exact vF (zC c e g j) h
theorem Fw{w:P5}(a:Bool) {op:am8}(c:op=(if a then .NotIn else .In)) (e:X.A.units+64<Z4) (g:QEd X i z) (l:QEd X o B) (j:X1 op o=false) (f:autoParam (X.w=w) L2.zq0._auto_1):QTd X (.Compare i [op] [o] N) (jV (CP w a z B)):=by
 subst f;simp only[QEd.eq,QTd.eq]at *
 exact PT.conv (qV (zC c e g l) j) (Gm fun _ _ _ h=>h)
end
section
variable{X:Cx}{z l:O4}{y:TE}{te:TEd}
def Jz(w:P5) (y:TE):TI:=fun h H R=>y h H fun x f=>∃a e c o g,x=.ref a/\f a=some (.ext (DrF w a e c o g))/\R (Hy a (DrF w a e c o) c.length) f
theorem Ep(C:PE X l y):PI X z l (Jz X.w y):=by
 intro A s u H R I h;refine thn (C A s u H _ I h) fun v f i=>i.el fun x Y g w B=>?_;obtain⟨a,L,P,o,S,e,m,q⟩:=B;subst e;cases w;obtain⟨U,G,el,p⟩:=(g.hok a _ m).1;obtain⟨lo,_,_,its,Q,J,T,j,O⟩:=id p;obtain⟨N,c,M,n⟩:=id j;rw[G]at c;cases c;refine D4 lo j ?_;refine⟨f.heap.objs.size,[f.heap.objs.size],_,_,_,rfl,g.kept (t':=f.toks) fun b o e=>u8 _ e,CZ _ n,?_,fun b E=>?_,q⟩
 ·exact⟨_,J8 _ rfl,rfl,rfl⟩
 ·have e:b=f.heap.objs.size:=by simpa using E
  subst e;exact g.fpOk (J7 _) (g.hok.fresh (J7 _))
def diG(w:P5) (te:TEd):TId:=fun f M R=>te f M fun d M1=>∃a e c,d=kT a e c/\AR w a c e/\R (c.map eM) M1
theorem Fv{w:P5}(he:QEd X l te) (L:autoParam (X.w=w) L2.zq0._auto_1):QId X z l (diG w te):=by
 subst L;simp only[QEd.eq,QId.eq]at *
 exact fun G s u H R I h =>
  PI.conv (Ep he) (fun u H R g=>g.el fun S M R' sr P q k=>⟨S,M,_,sr,P,q,fun d M1 v H1 ⟨a,φ,A,Q,n,N⟩ J j Z=>by
   subst Q;obtain⟨e,rfl,⟨B,hM⟩,Y⟩:=nI.mp Z;obtain⟨U,o,rfl,el⟩:=n;refine⟨a,A,U,o,e,rfl,B,?_⟩;refine k _ _ _ _ N J j ?_;intro M2 H2 C m i;have f:=(C a _ B hM).1;refine⟨fun d p=>?_,fun O=>⟨⟨e,f⟩,by rw[J0]at O;lia⟩⟩;have hi:i<A.length:=by have:=(L6.mp p).1;rwa [J0]at this
   refine⟨⟨⟨e,f⟩,by lia⟩,fun x H' z140z=>?_⟩;obtain⟨E,hk⟩:=z140z;subst E;obtain⟨v',c,T⟩:=(Y.ext C).get p;rw[hk e f]at c;cases c;exact⟨Ext.refl _ _,m,T⟩⟩) G s u H R I h
end
section
variable{X:Cx}{y:List ae4}
noncomputable def lw(M:DH) (a:List K1):DH:=fun b=>if b∈a then none else M b
theorem nz{M:DH}{a:List K1}:LeM (lw M a) M:=fun b o h=>by
 unfold lw at h;split at h
 ·cases h
 ·exact h
theorem A8{M:DH}{a:List K1}{b:K1}(h:b∈a):lw M a b=none:=if_pos h
theorem qo{M:DH}{a:List K1}{b:K1}(h:b∉a):lw M a b=M b:=if_neg h
noncomputable def Ft(e:Key×K1×List D):Key×D:=(e.1,.ref e.2.1)
noncomputable def BI(e:Key×K1×List D):Key×D:=(e.1,.lst e.2.2)
def Gs(i:Nat) (t:TSd):TSd:=fun E f M=>∃(a:K1) (c:List (Key×K1×List D)),f[i]?=some (some (.ref a))/\M a=some (.dK (c.map Ft))/\(∀e∈c,M e.2.1=some (.lst e.2.2))/\t E f (aN (lw M (c.map (·.2.1))) a (.dK (c.map BI)))
theorem zR{K:J4}{M:DH}{H:Hp}{g:DH}(hr:HR K M H) (c:LeM g M):∀{a:List (Key×K1×List D)}{ks:List (Key×V)},(∀e∈a,M e.2.1=some (.lst e.2.2))->(∀e∈a,g e.2.1=none)->KR K M H (a.map Ft) ks->KR K g H (a.map BI) ks
 |[],ks,_,_,h=>by
  unfold KR at h ⊢;cases h;exact .nil
 |e::a,ks,l,i,h=>by
  unfold KR at h;rw[L7]at h;cases h with
  |cons r t =>
   obtain⟨m,j⟩:=r;simp only[Ft,Rep]at j;refine .cons ⟨m,?_⟩ (zR hr c (fun e f=>l e (.tail _ f)) (fun e f=>i e (.tail _ f)) t);rw[j];exact Rep.froze hr c (l e (.head _)) (i e (.head _))
theorem IA{t:TSd}(i:Nat) (h:QSs X y t):QSs X y (Gs i t):=by
 simp only[QSs.eq]at *
 exact PSs.conv h fun D L H z141z=>by
  obtain⟨C,M,E,G,p,⟨a,g,N,u,j,q⟩,k⟩:=z141z
  obtain⟨x,B,A⟩:=p a _ u;have I:a∉g.map (·.2.1):=fun z=>by
   obtain⟨e,s,J⟩:=M7.mp z;have:=j e s;rw[J,u]at this;cases this
  have w:Ext M H (lw M (g.map (·.2.1))) H:=Ext.le nz;have l:Ext (lw M (g.map (·.2.1))) H (aN (lw M (g.map (·.2.1))) a (.dK (g.map BI))) H:=fun b o f n=>by
   have c:b≠a:=fun z=>by rw[z,qo I,u]at n;cases n
   rw[av c];exact⟨f,n⟩
  have m:=w.trans l;refine⟨C,_,E,G.ext m,fun b o f=>?_,q,k.ext m⟩
  by_cases c:b=a
  ·subst c;rw[aA]at f;cases f;exact⟨x,B,(zR p nz j (fun e s=>A8 (M7.mpr ⟨e,s,rfl⟩)) A).ext l⟩
  ·rw[av c]at f;exact(p b o (nz b o f)).keep m rfl
end
section
variable{X:Cx}{y:List (K1×Obj)}{s:J5}{σ:St}{H:Hp}{M:DH}
theorem ng{A:O9}{E:J3->J5->Prop}{P:PySem.Fin->J5->Prop}{Q:VK}{ps:List (Int×Int)}{U:List V}{its:List J3}(I:Inv X y σ H s) (hr:HR X.K M H) (rl:am X.K M H (ps.map pD) U) (Z:ax U its) (a5:ps.length<64)
  (q:∀x N (qs:List (Int×Int)),H x=none->qs.Perm ps->am X.K M H (qs.map pD) N->Q (.ref x) (upd H x (.lst N))) (k:∀x s',EP X y σ Q (.ref x) s'->P (.done (.ret (.ref x))) s') :
  K5 (N3 X.prog X.w) A (newList its >>= fun l=>ax4 [l] (aw9 (.builtin "list.sort") [l] []) >>= fun _=>ret l) P E s:=by
 have Y:ps.length=its.length:=by rw[<-Z.length,<-rl.length,J0]
 have S:its.length<64:=by lia
 have J:its.length<=K0:=by rw[aa3];lia
 refine o0 (as3 ?_ J);have a0:∀b o,s.heap.get? b=some o->(s.heap.push (aj6 "list" its.toArray 0)).get? b=some o:=fun b o e=>u8 _ e;have new:(s.heap.push (aj6 "list" its.toArray 0)).get? s.heap.objs.size=some (aj6 "list" its.toArray 0):=J8 _ rfl;have R:s.heap.get? s.heap.objs.size=none:=ad9 (J7 _);show K5 _ _ _ _ _ { s with heap:=s.heap.push (aj6 "list" its.toArray 0) };have n:∀(t:J5),ou s.heap.objs.size { s with heap:=s.heap.push (aj6 "list" its.toArray 0) } t->∀b o,s.heap.get? b=some o->t.heap.get? b=some o:=fun t B b o e=>B b o (fun q=>by rw[q,R]at e;cases e) (a0 b o e);have at_:=fun i (m:i<ps.length)=>va I rl Z m;have w:∀i (m:i<ps.length),ps.getD i (0,0)=ps[i]:=fun i m=>by rw[Q3,J6 m];rfl
 refine o0 (U8 (O7 slot_list_sort ⟨_,new,rfl⟩ entry_list_sort ?_ (args_list_sort _)));refine u7 (O:=EK) (key:=fun i=>ps.getD i (0,0)) (κ:=tuples' true) new S (fun G Q' two B q=>?_) (fun i j G C m hj B q=>?_) fun p c h' hp hs a2 hx=>?_
 ·obtain⟨fs,t1,t2,t3⟩:=mY (h:=G.heap) Y.symm fun i m=>let⟨a,t,u,g,z⟩:=at_ i m;⟨a,t,u,g,bT z (n G B)⟩
  exact kat_kind (T:=.type "int") t1 (by lia) (fun f hf=>by obtain⟨i,t,rfl⟩:=t3 f hf;exact Looks.of_pure rfl) rfl q
 ·rw[<-Y]at m hj;obtain⟨a,t,u,g,z⟩:=at_ i m;obtain⟨b,t',u',g',z'⟩:=at_ j hj;show K5 _ _ (keyLt' _ _ _) _ _ _;rw[eJ g,eJ g'];refine oq (bT z (n G B)) (bT z' (n G B)) ?_;have q':C (ltP (ps.getD i (0,0)) (ps.getD j (0,0))) G:=q
  rwa [w i m,w j hj]at q'
 ·refine⟨_,rfl,J1 (k _ _ ?_)⟩;have kp:∀b o,s.heap.get? b=some o->h'.get? b=some o:=fun b o e=>n { s with heap:=h' } a2 b o e;have L:∀i∈p.toList,i<ps.length:=fun i m=>by rw[Y];exact P6.mp (hp.mem_iff.mp m)
  have a3:U.length=its.length:=Z.length;have lo:(p.toList.map fun i=>U.getD i .non).length=its.length:=by rw[J0,L8];exact hp.size
  have I3:=I.laid (t':=s.toks) (o:=.lst (p.toList.map fun i=>U.getD i .non)) kp (J7 _) (show bB X.prog X.w _ h' _ (.lst _)from⟨by rw[lo];exact J,gK its p,c,gf Z (fun i m=>by rw[a3,<-Y];exact L i m),hx⟩);have a1:(p.toList.map fun i=>ps.getD i (0,0)).Perm ps:=by
   have a4:p.toList.Perm (N5 ps.length):=by rw[Y];exact hp
   have hm:=a4.map fun i=>ps.getD i (0,0);rw[l6]at hm;exact hm
  exact⟨.ref _,_,I3,rfl,q _ _ _ (I.hok.fresh (J7 _)) a1 (ja rl L)⟩
noncomputable def kIP(p:Int×Int):List KD:=[.int p.1,.int p.2]
theorem oz(ps:List (Int×Int)):(ps.map kIP).map eM=ps.map pD:=by rw[M0];rfl
theorem G3(p:Int×Int):dpK 8 (.tup (kIP p)):=fun z a=>by
 simp only[kIP,L1,R4,or_false]at a;rcases a with rfl|rfl<;>simp[dpK]
theorem rH{ks:List (List KD)}{ps:List (Int×Int)}(h:∀k∈ks,k∈ps.map kIP):∃a:List (Int×Int),ks=a.map kIP/\∀q∈a,q∈ps:=by
 induction ks with
 |nil=>exact⟨[],rfl,fun _ h=>nomatch h⟩
 |cons k ks ih =>
  obtain⟨a,rfl,f⟩:=ih fun k e=>h k (.tail _ e);obtain⟨p,g,rfl⟩:=M7.mp (h _ (.head _));exact⟨p::a,rfl,fun q c=>by
   rcases L1.mp c with rfl|c
   ·exact g
   ·exact f q c⟩
def DL(e:TEd):TEd:=fun f M Q=>e f M fun x M1=>∃a:List (Int×Int),rdM M1 x=.tup (a.map pD)/\a.length<64/\∀c:List (Int×Int),(∀p∈c,p∈a)->c.length<=a.length->Q (.lst (c.map pD)) M1
theorem Ez{a:O4}{ta:TEd}{p0 p1 q0 L:Pos}(hc:X.calm=true) (hu:X.A.units+64<Z4) (a4:Gl X "sorted") (a8:X.mg "sorted"=none) (hg:Gl X "set") (hm:X.mg "set"=none) (ha:QEd X a ta)
  (O:autoParam (K8 [.Call (.Name "set" p1) [a] [] L] X.env=(false,af7 (.Call (.Name "set" p1) [a] [] L) X.env)::K8 [] X.env) L2.zq0._auto_1)
  (U:autoParam (K8 [a] X.env=(false,af7 a X.env)::K8 [] X.env) L2.zq0._auto_1)
  (Z:autoParam ((aa2 q0 (K8 [] X.env)).any (·.1)=false) L2.zq0._auto_1) (a5:autoParam ((aa2 L (K8 [] X.env)).any (·.1)=false) L2.zq0._auto_1) :
  QEd X (.Call (.Name "sorted" p0) [.Call (.Name "set" p1) [a] [] L] [] q0) (DL ta):=by
 simp only[QEd.eq]at *
 intro y s σ H Q I ⟨Δ,M,R,sr,hr,q,k⟩;refine U3 (cO I a4 a8 (u:=.builtin "sorted") (by kernel_rfl) ?_ (by decide) (by decide));refine X9 ?_ O Z;rw[O];show K5 _ _ (at4 ((false,af7 _ X.env)::aa2 q0 (K8 [] X.env))) _ _ s;refine U2 ?_;refine U3 (cO I hg hm (u:=.type "set") (by kernel_rfl) ?_ (by decide) (by decide));refine S2 ?_ U a5;rw[U];show K5 _ _ (at4 ((false,af7 a X.env)::aa2 L (K8 [] X.env))) _ _ s;refine U2 (evD ha I sr hr q fun u s1 v H1 x M1 P r1 z142z E a6 e1=>?_);obtain⟨f,ex,hl,q2⟩:=z142z;have rv:=a6.rd E;refine X4 ?_;rw[ex,<-oz]at rv;obtain⟨l,vs,rfl,sq,rl⟩:=rv;cases r1;obtain⟨its,C,pl,hz⟩:=P.tuple sq;have b1:∀k∈f.map kIP,dpK 8 (.tup k):=fun k hk=>by
  obtain⟨p,_,rfl⟩:=M7.mp hk;exact G3 p
 have hn:(f.map kIP).length=its.length:=by rw[<-C.length,<-rl.length];simp only[J0]
 have Y:(f.map kIP).length<64:=by rw[J0];exact hl
 have T:∀(i:Nat) k u,(f.map kIP)[i]?=some k->its[i]?=some u->KAt s1.heap 8 (.tup k) u:=fun i k u B j=>fV P b1 rl C B j;refine uO (n:=8) (hn8:=J7 _) (P.ok.hd hc) (by lia) pl (by simp only[K3];exact hn.symm) (fun i k u B j=>T i k u B (by simpa using j)) (by exact K4 (by assumption) (by decide)) fun h' tk hS kp=>?_;refine X4 ?_;obtain⟨o,es,ep,t,zs,S,pm⟩:=hS;have b3:zs.length<64:=by rw[pm.length_eq];exact Nat.lt_of_le_of_lt (gc _) Y
 have I2:Inv X y σ H1 { s1 with heap:=h',toks:=tk }:=P.kept kp;refine call_function_entry as4 aq4 aq5 (aq6 _) ?_;unfold L3.«sorted»;refine o0 (m:=au3 "sorted" 1 1 _) (J1 ?_);refine o0 (sk (A:=X.A.in1) (P.ok.hd hc) (S.b (by exact K4 (by assumption) (by decide))) fun s3 b4 N a3 eg eo=>?_);have I3:Inv X y σ H1 s3:=I2.with a3 eg eo
 obtain⟨b2,b0,a0⟩:=k6 C rl T zs (es.toList.map (·.2)) (by rw[J0,L8,S.el.len]) fun i z u B j=>by
  obtain⟨v,g,_,k1,k2⟩:=S.el.at_ i z B;rw[N9,R1,g]at j;cases j;exact⟨by simpa using k2,k1⟩
 obtain⟨b6,a2,a9,J,a7⟩:=tI (N.symm.map (·.2)) b0 a0;have pk:a2.Perm (fR (f.map kIP)):=a7.trans pm;obtain⟨a1,rfl,G⟩:=rH (ps:=f) fun k h=>(nX (f.map kIP) k).mp (pk.mem_iff.mp h);have a':a1.length<=f.length:=by
  have B:=pk.length_eq;have j:=gc (f.map kIP);simp only[J0]at B j
  lia
 rw[oz]at J;refine ng I3 E J a9 (by lia) (fun p b5 S N hq r=>?_) fun x s' e=>⟨_,rfl,e⟩;exact dq E N r fun w H' a b c=>k _ _ _ _ (q2 S (fun p N=>G p (hq.mem_iff.mp N)) (by rw[hq.length_eq];exact a')) (e1.trans a) b c
def DR(e:TEd):TEd:=fun f M Q=>e f M fun x M1=>∃a:List (Int×Int),rdM M1 x=.lst (a.map pD)/\a.length<64/\∀c:List (Int×Int),(∀p∈c,p∈a)->c.length<=a.length->Q (.lst (c.map pD)) M1
theorem Ew{a:O4}{ta:TEd}{p0 p1 q0 L:Pos}(hc:X.calm=true) (hu:X.A.units+64<Z4) (a4:Gl X "sorted") (a8:X.mg "sorted"=none) (hg:Gl X "set") (hm:X.mg "set"=none) (ha:QEd X a ta)
  (O:autoParam (K8 [.Call (.Name "set" p1) [a] [] L] X.env=(false,af7 (.Call (.Name "set" p1) [a] [] L) X.env)::K8 [] X.env) L2.zq0._auto_1)
  (U:autoParam (K8 [a] X.env=(false,af7 a X.env)::K8 [] X.env) L2.zq0._auto_1)
  (Z:autoParam ((aa2 q0 (K8 [] X.env)).any (·.1)=false) L2.zq0._auto_1) (a5:autoParam ((aa2 L (K8 [] X.env)).any (·.1)=false) L2.zq0._auto_1) :
  QEd X (.Call (.Name "sorted" p0) [.Call (.Name "set" p1) [a] [] L] [] q0) (DR ta):=by
 simp only[QEd.eq]at *
 intro y s σ H Q I ⟨Δ,M,R,sr,hr,q,k⟩;refine U3 (cO I a4 a8 (u:=.builtin "sorted") (by kernel_rfl) ?_ (by decide) (by decide));refine X9 ?_ O Z;rw[O];show K5 _ _ (at4 ((false,af7 _ X.env)::aa2 q0 (K8 [] X.env))) _ _ s;refine U2 ?_;refine U3 (cO I hg hm (u:=.type "set") (by kernel_rfl) ?_ (by decide) (by decide));refine S2 ?_ U a5;rw[U];show K5 _ _ (at4 ((false,af7 a X.env)::aa2 L (K8 [] X.env))) _ _ s;refine U2 (evD ha I sr hr q fun u s1 v H1 x M1 P r1 z143z E a6 e1=>?_);obtain⟨f,ex,hl,q2⟩:=z143z;have rv:=a6.rd E;refine X4 ?_;rw[ex,<-oz]at rv;obtain⟨l,vs,rfl,sq,rl⟩:=rv;cases r1;obtain⟨its,C,pl,hz⟩:=P.list (SqL.of sq);have b1:∀k∈f.map kIP,dpK 8 (.tup k):=fun k hk=>by
  obtain⟨p,_,rfl⟩:=M7.mp hk;exact G3 p
 have hn:(f.map kIP).length=its.length:=by rw[<-C.length,<-rl.length];simp only[J0]
 have Y:(f.map kIP).length<64:=by rw[J0];exact hl
 have T:∀(i:Nat) k u,(f.map kIP)[i]?=some k->its[i]?=some u->KAt s1.heap 8 (.tup k) u:=fun i k u B j=>fV P b1 rl C B j;refine xD (n:=8) (hn8:=J7 _) (P.ok.hd hc) (by lia) pl.isList (by simp only[K3];exact hn.symm) (fun i k u B j=>T i k u B (by simpa using j)) (by exact K4 (by assumption) (by decide)) fun h' tk hS kp=>?_;refine X4 ?_;obtain⟨o,es,ep,t,zs,S,pm⟩:=hS;have b3:zs.length<64:=by rw[pm.length_eq];exact Nat.lt_of_le_of_lt (gc _) Y
 have I2:Inv X y σ H1 { s1 with heap:=h',toks:=tk }:=P.kept kp;refine call_function_entry as4 aq4 aq5 (aq6 _) ?_;unfold L3.«sorted»;refine o0 (m:=au3 "sorted" 1 1 _) (J1 ?_);refine o0 (sk (A:=X.A.in1) (P.ok.hd hc) (S.b (by exact K4 (by assumption) (by decide))) fun s3 b4 N a3 eg eo=>?_);have I3:Inv X y σ H1 s3:=I2.with a3 eg eo
 obtain⟨b2,b0,a0⟩:=k6 C rl T zs (es.toList.map (·.2)) (by rw[J0,L8,S.el.len]) fun i z u B j=>by
  obtain⟨v,g,_,k1,k2⟩:=S.el.at_ i z B;rw[N9,R1,g]at j;cases j;exact⟨by simpa using k2,k1⟩
 obtain⟨b6,a2,a9,J,a7⟩:=tI (N.symm.map (·.2)) b0 a0;have pk:a2.Perm (fR (f.map kIP)):=a7.trans pm;obtain⟨a1,rfl,G⟩:=rH (ps:=f) fun k h=>(nX (f.map kIP) k).mp (pk.mem_iff.mp h);have a':a1.length<=f.length:=by
  have B:=pk.length_eq;have j:=gc (f.map kIP);simp only[J0]at B j
  lia
 rw[oz]at J;refine ng I3 E J a9 (by lia) (fun p b5 S N hq r=>?_) fun x s' e=>⟨_,rfl,e⟩;exact dq E N r fun w H' a b c=>k _ _ _ _ (q2 S (fun p N=>G p (hq.mem_iff.mp N)) (by rw[hq.length_eq];exact a')) (e1.trans a) b c
def wM(g:TEd):TEd:=fun h M Q=>g h M fun x M1=>∃(a:K1) (c:List (List Key×D)) (e:List (Int×Int)),x=.ref a/\M1 a=some (.dT c)/\c.map (fun p=>p.1)=e.map (fun p=>[aj1 p.1,aj1 p.2])/\e.length<64/\∀f:List (Int×Int),(∀p∈f,p∈e)->f.length<=e.length->Q (.lst (f.map pD)) M1
theorem yq{K:J4}{M:DH}{H:Hp}(hr:HR K M H) {F:List Key×V->List Key×K1×J3->Prop}(l:∀p q,F p q->p.1=q.1/\H q.2.1=some (.tup (p.1.map kV))):∀{a:List (List Key×D)}{ks:List (List Key×V)}{xs:List (List Key×K1×J3)}{ps:List (Int×Int)},a.map (fun p=>p.1)=ps.map (fun p=>[aj1 p.1,aj1 p.2])->KR K M H a ks->ad0 F ks xs->am K M H (ps.map pD) (xs.map fun q=>V.ref q.2.1):=by
 intro a ks xs ps c g f
 induction g generalizing xs ps with
 |nil =>
  cases f;cases ps with
  |nil=>exact am.nil
  |cons _ _=>cases c
 |cons r _ ih =>
  cases f with
  |cons m j =>
   cases ps with
   |nil=>cases c
   |cons p ps =>
    simp only[L7,S4]at c;obtain⟨n,h⟩:=l _ _ m;refine am.cons ?_ (ih c.2 j);have i:pD p=.tup ([aj1 p.1,aj1 p.2].map kD):=rfl;rw[i,<-c.1,r.1];refine⟨_,_,rfl,.inl ⟨?_,?_⟩,wZ _⟩
    ·exact .inl h
    ·cases e:M _ with
     |none=>rfl
     |some o =>
      obtain⟨u,g,f⟩:=mr.some (hr _ _ e);rw[h]at g;cases g;exact absurd rfl (f _).1
theorem qJ:∀{l:List (List Key×K1×J3)},ax (l.map fun q=>V.ref q.2.1) (l.map fun q=>Q0 q.2.1)
 |[]=>.nil
 |_::_=>.cons rfl qJ
theorem zT{o:O4}{T:TEd}{p0 z:Pos}(hc:X.calm=true) (E:Gl X "sorted") (J:X.mg "sorted"=none) (ho:QEd X o T)
  (j:autoParam (K8 [o] X.env=(false,af7 o X.env)::K8 [] X.env) L2.zq0._auto_1) (n:autoParam ((aa2 z (K8 [] X.env)).any (·.1)=false) L2.zq0._auto_1) :
  QEd X (.Call (.Name "sorted" p0) [o] [] z) (wM T):=by
 simp only[QEd.eq]at *
 intro y s σ H Q I ⟨Δ,M,R,sr,hr,q,k⟩;refine U3 (cO I E J (u:=.builtin "sorted") (by kernel_rfl) ?_ (by decide) (by decide));refine X9 ?_ j n;rw[j];show K5 _ _ (at4 ((false,af7 _ X.env)::aa2 z (K8 [] X.env))) _ _ s;refine U2 (evD ho I sr hr q fun u s1 v H1 x M1 C r1 z144z f S e1=>?_);obtain⟨a,i,ps,ex,em,U,hl,q2⟩:=z144z;refine X4 ?_;subst ex;simp only[Rep]at S;subst S;obtain rfl:u=Q0 a:=r1;obtain⟨L,Z,N⟩:=f a _ em;obtain⟨hz,hs,G,g,od,O,a1,hg,c,hd,r,_⟩:=C.hok a _ Z;have rl:=yq f (fun p q h=>⟨h.1,h.2.1⟩) U N g;have a2:i.length=ps.length:=by have:=congrArg al7 U;simpa using this
 have a4:L.length=i.length:=(am2 N).symm;have a0:G.length=L.length:=(am2 g).symm;have B:O.size=G.length:=by rw[<-L8,r,J0]
 have Y:O.toList.map (·.key)=G.map fun q=>Q0 q.2.1:=by rw[r,M0];rfl
 refine call_function_entry as4 aq4 aq5 (aq6 _) ?_;unfold L3.«sorted»;refine o0 (m:=au3 "sorted" 1 1 _) (J1 ?_);refine o0 (tu (A:=X.A.in1) (C.ok.hd hc) hs ⟨od,hg,c,hd⟩ (by rw[B,aa3];lia) fun h' tk kp=>?_);rw[Y];have I2:Inv X y σ H1 { s1 with heap:=h',toks:=tk }:=C.kept kp;refine ng I2 f rl qJ (by assumption) (fun p a3 qs l P r=>?_) fun x s' e=>⟨_,rfl,e⟩;exact dq f l r fun w H' a b c=>k _ _ _ _ (q2 qs (fun p l=>P.mem_iff.mp l) (by rw[P.length_eq];exact J7 _)) (e1.trans a) b c
end
section
variable{X:Cx}{I z Y Z:O4}{W:Pos}{y:ai7}{B:List (Str×K1)}{ms:List Bool}{aq:List Str}
theorem Fn{w:P5}{c:TId}{g:GD}{tk tv:TEd}(e:X.A.units+64<Z4) (S:dW X y B ms aq) (i:X.calm=true) (h:QId X I z c) (hg:PGa X y B aq I g)
  (j:∀C s H a,QEd (aD X y B (X.N++aq) C s H a) Y tk) (l:∀C s H a,QEd (aD X y B (X.N++aq) C s H a) Z tv) (f:autoParam (X.w=w) L2.zq0._auto_1)
  (hs:autoParam (∀x,Z7 z X.env x=ak7 x) L2.zq2._auto_1):QEd X (.DictComp Y Z [⟨I,z,[],0⟩] y W) (Dp w ms aq.length c g tk tv):=by
 subst f;exact IK e S i h hg j l hs
end
section
variable{X:Cx}{a:O4}{B:TEd}
def zp(w:P5) (B:TEd):TEd:=fun c M Q=>B c M fun x M1=>∃a:List (List KD),rdM M1 x=.lst (a.map fun k=>.tup [eM k,.bl true])/\(∀k∈a,dpK 8 (.tup k))/\∀p,M1 p=none->Q (.ref p) (aN M1 p (dRw w p (a.foldl aS [])))
theorem oj{a:Type}{ks:List a}{i:Nat}{k:a}(h:ks[i]?=some k):(ks.take (i+1)).foldl aS []=aS ((ks.take i).foldl aS []) k:=by
 rw[CH h,List.foldl_append];rfl
theorem Cq{w:P5}{p0 q0:Pos}(hc:X.calm=true) (hu:X.A.units+64<Z4) (c2:Gl X "dict") (c5:X.mg "dict"=none) (ha:QEd X a B) (N:autoParam (X.w=w) L2.zq0._auto_1)
  (a8:autoParam (K8 [a] X.env=(false,af7 a X.env)::K8 [] X.env) L2.zq0._auto_1) (b5:autoParam ((aa2 q0 (K8 [] X.env)).any (·.1)=false) L2.zq0._auto_1) :
  QEd X (.Call (.Name "dict" p0) [a] [] q0) (zp w B):=by
 subst N;simp only[QEd.eq]at *
 intro ae s σ H Q I ⟨Δ,M,R,sr,hr,q,k⟩;refine U3 (cO I c2 c5 (u:=.type "dict") (by kernel_rfl) ?_ (by decide) (by decide));refine S2 ?_ a8 b5;rw[a8];show K5 _ _ (at4 ((false,af7 _ X.env)::aa2 q0 (K8 [] X.env))) _ _ s;refine U2 (evD ha I sr hr q fun u C v H1 x M1 I1 r1 z145z a3 c3 e1=>?_);obtain⟨E,ex,a5,q2⟩:=z145z;have rv:=c3.rd a3;refine X4 ?_;rw[ex]at rv;obtain⟨l,vs,rfl,sq,rl⟩:=rv;cases r1;obtain⟨its,a6,pl,hz⟩:=I1.list (SqL.of sq);obtain⟨xs,ys,us,ws,h1,h2,h3,h4,h5,h6,h7,h8⟩:=sv I1 (f:=eM) (g:=fun _:List KD=>D.bl true) rl a6;have a4:∀(i:Nat) (A:List KD) u,E[i]?=some A->us[i]?=some u->KAt C.heap 8 (.tup A) u/\u=.ref (lG u):=fun i A u hi hu=>by
  have q:=fV I1 a5 h1 h3 hi hu;refine⟨q,?_⟩;obtain⟨c,_,e,_⟩:=q;rw[e];rfl
 have c6:∀(i:Nat) w,ws[i]?=some w->w=.bool true:=fun i w N=>by
  have b6:i<ys.length:=by rw[h4.length];exact(L6.mp N).1
  obtain⟨y,hy⟩:=i9 b6;obtain⟨w',g,r⟩:=h4.get hy;rw[N]at g;cases g;have c0:i<E.length:=by have:=h2.length;rw[J0]at this;lia
  obtain⟨y',g',r'⟩:=h2.get (i:=i) (d:=.bl true) (by rw[N9,J6 c0];rfl);rw[hy]at g';cases g';simp only[Rep]at r';subst r';exact r
 have b':its.toArray.size=E.length:=by rw[K3,h7]
 have c':E.length<=K0:=by rw[<-a6.length]at h7;lia
 refine nN (kf:=fun i=>us[i]?.getD .none) (vf:=fun i=>ws[i]?.getD .none) (Dst:=fun i O=>(∀b o,C.heap.get? b=some o->O.get? b=some o)/\∃(m:List (List KD×J3)) (o:Obj) (T:Array ac7) (ep:Nat),m.map (·.1)=(E.take i).foldl aS []/\m.length<=i/\(∀p∈m,KAt C.heap 8 (.tup p.1) p.2/\p.2=.ref (lG p.2)/\p.2∈us)/\O.get? C.heap.objs.size=some o/\o.ExactDict/\o.data=.dict T ep/\T.toList=(m.map xsR).map (entryOfKey (bU X.prog X.w 8 (J7 _)))) (I1.ok.hd hc) pl (fun i hi=>?_) (fun O kp=>?_) (fun i ha hb z146z kp=>by obtain⟨g,m,o,T,ep,S,z2,U,ho,rest⟩:=z146z;exact ⟨fun b o e=>kp b o (V1 (K6 e)) (g b o e),m,o,T,ep,S,z2,U,kp _ _ (W8 _) ho,rest⟩) (fun i s2 E' Q' hi hd k2=>?_) fun O tk hd kp=>?_
 ·obtain⟨u,hu⟩:=i9 (l:=us) (i:=i) (by lia);obtain⟨w,N⟩:=i9 (l:=ws) (i:=i) (by lia);obtain⟨b,g1,Y⟩:=h8 i u w hu N;refine⟨b,by simpa using g1,?_⟩;simp only[hu,N,Option.getD_some];exact Y
 ·exact⟨fun b o e=>kp _ _ (u8 _ e),[],_,#[],0,rfl,J7 _,(fun _ h=>nomatch h),kp _ _ (J8 _ rfl),⟨rfl,rfl,rfl⟩,rfl,rfl⟩
 ·obtain⟨kp,m,o,T,ep,S,z2,U,ho,a1,J,he⟩:=hd;obtain⟨A,Z⟩:=i9 (l:=E) (i:=i) (by lia);obtain⟨u,a0⟩:=i9 (l:=us) (i:=i) (by lia);obtain⟨w,N⟩:=i9 (l:=ws) (i:=i) (by lia);obtain⟨hk,eu⟩:=a4 i A u Z a0;obtain rfl:=c6 i w N;have up:∀{A:List KD} {u:J3},KAt C.heap 8 (.tup A) u->KAt s2.heap 8 (.tup A) u:=fun q=>q.up fun b o _ e=>kp b o e;have e2:(m.map xsR).map (·.1)=(E.take i).foldl aS []:=by rw[<-S,M0];rfl
  have nd:((E.take i).foldl aS []).Nodup:=kO _ _ an8;have hm:s2.heap.DictOfH (bU X.prog X.w 8 (J7 _)) C.heap.objs.size (m.map xsR):=⟨o,T,ep,ho,a1,J,he,fun x hx=>by
   obtain⟨p,G,rfl⟩:=M7.mp hx;obtain⟨b1,b2,_⟩:=U p G;rw[b2]at b1;exact up b1,by rw[e2];exact nd⟩
  simp only[a0,N,Option.getD_some];have b8:=hk;rw[eu]at hk ⊢;refine wpAny_dictSet_heap (knd:=bU X.prog X.w 8 (J7 _)) (k:=A) (v:=.bool true) (show X.A.units+1+1+8<Z4 by lia) (up hk) hm (fun O c4 hs=>?_) (by rw[J0];lia);obtain⟨o',a',b4,b0,a7,L,P,_,_⟩:=c4;have keep:∀b o,C.heap.get? b=some o->O.get? b=some o:=fun b o e=>by rw[hs.2 b (K9 (K6 e))];exact kp b o e
  by_cases c:A∈(E.take i).foldl aS []
  ·have st:av0 (m.map xsR) A (lG u) (.bool true)=m.map xsR:=by
    unfold av0;have all:(m.map xsR).map (putAt A (.bool true))=m.map xsR:=by
     rw[M0];refine S7 fun p G=>?_;show putAt A (.bool true) (xsR p)=xsR p;unfold putAt;split<;>rfl
    split
    ·exact all
    ·rename_i n;exfalso;rw[<-e2]at c;obtain⟨x,hx,e⟩:=M7.mp c;obtain⟨i,hi⟩:=T4.mp hx;obtain⟨x1,x2⟩:=x;subst e;exact n (by rw[atKey_of_get (by rw[e2];exact nd) hi];rfl)
   rw[st]at P;refine k2 O _ (af1 _ _) ⟨keep,m,o',a',b4,?_,by exact P9 (by assumption),U,b0,a7,L,P⟩ hs;rw[oj Z,S];exact(if_pos c).symm
  ·have st:av0 (m.map xsR) A (lG u) (.bool true)=m.map xsR++[(A,lG u,.bool true)]:=by
    refine storedH_new (atKey_none_of_get fun j p hj=>c ?_) _ _;rw[<-e2];exact M7.mpr ⟨_,O5 hj,rfl⟩
   rw[st]at P;refine k2 O _ (af1 _ _) ⟨keep,m++[(A,u)],o',a',b4,?_,by simp;assumption,fun p G=>?_,b0,a7,L,?_⟩ hs
   ·rw[oj Z,O2,S];exact(if_neg c).symm
   ·rcases L4.mp G with h|h
    ·exact U p h
    ·rw[K2.mp h];exact⟨b8,eu,O5 a0⟩
   ·rw[P,O2,O2,O2];rfl
 ·obtain⟨_,m,o,T,ep,S,z2,U,ho,a1,J,he⟩:=hd;rw[b',Z0 (J7 _)]at S;have G:=I1.hok.fresh (J7 C.heap.objs.size);obtain⟨a2,c1,a9⟩:=k6 h3 h1 (fun i k u g1 Y=>(a4 i k u g1 Y).1) (m.map (·.1)) (m.map (·.2)) (by simp) fun i z u g1 Y=>by
   rw[N9]at g1 Y;obtain⟨p,G,rfl⟩:=Option.map_eq_some_iff.mp g1;rw[G]at Y;cases Y;obtain⟨b1,_,b3⟩:=U p (O5 G);exact⟨b3,b1⟩
  rw[S]at a9;have I2:=I1.laid (a:=C.heap.objs.size) (o:=.ext (DrE X.w C.heap.objs.size (E.foldl aS []) a2)) (h':=O) (t':=tk) kp (J7 _) (DrE.ok ⟨by
   have:=I1.big;exact beq_false_of_ne (ac6 this),kO _ _ an8,fun k hk=>a5 k (by
    rcases(lT E [] k).mp hk with h|h
    ·cases h
    ·exact h),m.map (·.2),c1,T,ep,⟨o,ho,a1,J⟩,by
   rw[he,M0,<-S];have b9:(m.map (·.1)).zip (m.map (·.2))=m:=pV m;rw[b9];refine S7 fun p G=>?_;have b2:=(U p G).2.1;show(⟨hK X.w 8 (.tup p.1),.ref (lG p.2),.bool true⟩:ac7)=⟨hK X.w 8 (.tup p.1),p.2,.bool true⟩;rw[<-b2]⟩)
  have e3:Ext M1 H1 (aN M1 C.heap.objs.size (dRw X.w C.heap.objs.size (E.foldl aS []))) (upd H1 C.heap.objs.size (.ext (DrE X.w C.heap.objs.size (E.foldl aS []) a2))):=Ext.own G;exact⟨.ref C.heap.objs.size,_,I2,rfl,k _ _ _ _ (q2 _ (a3.fresh G)) (e1.trans e3) (a3.put e3 ⟨a2,aK,a9.ext e3⟩) (by simp only[Rep])⟩
end
end L2
namespace L2
open PySem PySem.Spec PyProof.Rows PySem.Calls PySem.SeqAt
section
variable{prog:M9}{w:P5}{A:O9}{E:J3->J5->Prop}{s:J5}
theorem Iu{p q:K1}{a b c d:Int}{m f tc i:Tok}{Q:J3->J5->Prop}(M:A.units+8<Z4) (u:aj8 s.heap p #[.int a m,.int b f]) (C:aj8 s.heap q #[.int c tc,.int d i])
  (h:Q (.bool (decide (a<c∨(a=c/\b<d)))) s):K5 (N3 prog w) A (richCompare .Lt (.ref p) (.ref q)) Q E s:=by
 obtain⟨G,o,J,N,H⟩:=u;obtain⟨I,g,x,L,B⟩:=C;have j:s.TypeIs (.ref p) "tuple":=⟨G,o,J⟩;have n:s.TypeIs (.ref q) "tuple":=⟨I,g,x⟩;refine wpAny_richCompare_same_room (op:=.Lt) j n F.slot_tuple_lt ?_ (by lia);refine O7 F.slot_tuple_lt j F.entry_tuple_lt ?_ (F.args_tuple_lt_2 _ _);show K5 _ _ (isInstance (.ref q) (.type "tuple") >>= _) _ _ s;refine o0 (ab1 n isSubtype_tuple_tuple ?_);simp only[aa9,J9,if_false];refine o0 (wpAny_tupleItemsOf o H ?_);refine o0 (wpAny_tupleItemsOf g B ?_);refine o0 ?_;show K5 _ _ (forIn [(ag5 a m,ag5 c tc),(ag5 b f,ag5 d i)] _ _) _ _ s;rw[am5];refine o0 (o0 (al3 ?_))
 by_cases e:a=c
 ·subst e;simp only[beq_self_eq_true,aa9,J9,if_false];refine J1 ?_;dsimp only;rw[am5];refine o0 (o0 (al3 ?_))
  by_cases l:b=d
  ·subst l;simp only[beq_self_eq_true,aa9,J9,if_false];refine J1 ?_;dsimp only;rw[List.forIn_nil];rw[show decide (a<a∨(a=a/\b<b))=false by simp]at h;exact J1 (J1 ⟨_,rfl,fun z=>(by cases z),h⟩)
  ·rw[show(b==d)=false from beq_eq_false_iff_ne.mpr l];simp only[ag2,if_true];rw[show decide (a<a∨(a=a/\b<d))=decide (b<d)by simp]at h;refine o0 (ak0 (o0 (wpAny_lt_int ?_)));exact o0 (J1 (J1 (J1 (J1 ⟨_,rfl,fun z=>(by cases z),h⟩))))
 ·rw[show(a==c)=false from beq_eq_false_iff_ne.mpr e];simp only[ag2,if_true];rw[show decide (a<c∨(a=c/\b<d))=decide (a<c)by simp[e]]at h;refine o0 (ak0 (o0 (wpAny_lt_int ?_)));exact o0 (J1 (J1 (J1 (J1 ⟨_,rfl,fun z=>(by cases z),h⟩))))
end
theorem uj{a b:Int}{its:List J3}(c:ax [.int a,.int b] its):∃t u,its=[.int a t,.int b u]:=by
 have l:=c.length;obtain⟨j,e,f⟩:=c.get (i:=0) rfl;obtain⟨m,g,h⟩:=c.get (i:=1) rfl;obtain⟨t,rfl⟩:=f;obtain⟨u,rfl⟩:=h;refine⟨t,u,Z9 fun i=>?_⟩
 match i with
 |0=>exact e
 |1=>exact g
 |i+2 =>
  rw[Q5 (by simp at l;lia)];rfl
theorem Hf{X:Cx}(O:X.A.units+64<Z4):bL X (Q9 .Lt) ltT:=by
 intro Y s N H M x y v u dx dy dz Q I hr rx ry r1 r2 e k;obtain⟨a,b,c,d,rfl,rfl,rfl⟩:=Ac e;have o:=ut hr r1;have j:=ut hr r2;simp only[Rep]at o j;obtain⟨p,vs,rfl,B,E⟩:=o;obtain⟨p2,C,rfl,h,g⟩:=j;cases rx;cases ry;obtain⟨its,G,w,T⟩:=I.tuple B.sq;obtain⟨m,f,z,A⟩:=I.tuple h.sq;obtain⟨P,U,rfl,n,l⟩:=E.two;obtain⟨v2,R,rfl,i,q⟩:=g.two;simp only[Rep]at n l i q;subst n l i q;obtain⟨J,L,rfl⟩:=uj G;obtain⟨Z,S,rfl⟩:=uj f;exact Iu (by lia) w z ⟨.bl _,H,I,rfl,k _ H (Ext.refl _ _) hr (by simp[Rep])⟩
end L2
namespace My
open PySem PySem.Spec PyProof.Rows L2
noncomputable def top(i:Nat):ae4:=PySem.Challenge.pw_wordwishes_k62_closed_rows_judged.main.body.getD i (.Pass ⟨0,0,0,0⟩)
noncomputable abbrev gA:ae4:=top 7
noncomputable abbrev dR:ae4:=top 8
noncomputable abbrev cF:ae4:=top 9
noncomputable abbrev b7:ae4:=top 10
noncomputable abbrev fQ:ae4:=top 11
noncomputable abbrev iC:ae4:=top 14
noncomputable abbrev iq:ae4:=top 15
noncomputable abbrev eG:ae4:=top 16
noncomputable abbrev dv:ae4:=top 17
noncomputable abbrev iU:ae4:=top 18
noncomputable abbrev cx:ae4:=top 19
noncomputable abbrev iJ:ae4:=top 22
noncomputable abbrev gY:ae4:=top 23
noncomputable abbrev gx:ae4:=top 24
noncomputable abbrev fm:ae4:=top 25
noncomputable abbrev jT:ae4:=top 27
noncomputable abbrev c8:ae4:=top 29
noncomputable abbrev fB:ae4:=top 35
noncomputable abbrev fP:ae4:=top 36
noncomputable abbrev gn:ae4:=top 39
noncomputable abbrev lC:ae4:=top 40
noncomputable abbrev dZ:ae4:=top 41
noncomputable abbrev bv:ae4:=top 42
noncomputable abbrev cM:ae4:=top 43
noncomputable abbrev bX:ae4:=top 44
noncomputable abbrev dA:ae4:=top 47
noncomputable abbrev eW:ae4:=top 48
noncomputable abbrev bY:ae4:=top 49
noncomputable abbrev bb:ae4:=top 50
noncomputable abbrev bJ:ae4:=top 51
noncomputable abbrev cN:ae4:=top 115
noncomputable abbrev cG:ae4:=top 118
noncomputable abbrev md:ae4:=top 122
noncomputable abbrev iP:ae4:=top 124
noncomputable abbrev lO:ae4:=top 125
noncomputable abbrev lR:ae4:=top 126
noncomputable abbrev oM:ae4:=top 127
noncomputable abbrev ip:ae4:=top 128
noncomputable abbrev jR:ae4:=top 129
noncomputable abbrev fJ:ae4:=top 130
noncomputable abbrev lN:ae4:=top 131
noncomputable abbrev kc:ae4:=top 132
noncomputable abbrev jI:ae4:=top 133
noncomputable abbrev eZ:ae4:=top 134
noncomputable abbrev nH:ae4:=top 135
noncomputable abbrev dO:ae4:=top 136
noncomputable abbrev iY:ae4:=top 137
noncomputable abbrev eX:ae4:=top 138
noncomputable abbrev ig:ae4:=top 139
noncomputable abbrev zE:ae4:=top 140
noncomputable abbrev jD:ae4:=G6 (top 38) 0
noncomputable abbrev ri:List Str:=["thing"]
theorem jz:au ri ["thing"] (ai gA):=fsc
noncomputable abbrev mO:List Str:=["thing","many"]
theorem gd:au mO ["thing","many"] (ai dR):=fsc
noncomputable abbrev jh:List Str:=["thing","name","many"]
theorem dJ:au jh ["thing","name","many"] (ai cF):=fsc
noncomputable abbrev df:List Str:=["thing"]
theorem ff:au df ["thing"] (ai b7):=fsc
noncomputable abbrev pG:List Str:=["one","other"]
theorem g9:au pG ["one","other"] (ai fQ):=fsc
noncomputable abbrev sW:List Str:=["thing"]
theorem kF:au sW ["thing"] (ai iC):=fsc
noncomputable abbrev tJ:List Str:=["thing"]
theorem kH:au tJ ["thing"] (ai iq):=fsc
noncomputable abbrev gC:List Str:=["thing"]
theorem jx:au gC ["thing"] (ai eG):=fsc
noncomputable abbrev l9:List Str:=["pairs","mark","reached","at","low","high"]
theorem fG:au l9 ["pairs","mark"] (ai dv):=fsc
noncomputable abbrev sJ:List Str:=["order","one","other"]
theorem kL:au sJ ["order","one","other"] (ai iU):=fsc
noncomputable abbrev cy:List Str:=["order","mark"]
theorem fA:au cy ["order","mark"] (ai cx):=fsc
noncomputable abbrev ud:List Str:=["thing"]
theorem ke:au ud ["thing"] (ai iJ):=fsc
noncomputable abbrev uD:List Str:=["thing"]
theorem j8:au uD ["thing"] (ai gY):=fsc
noncomputable abbrev j6:List Str:=["thing"]
theorem mi:au j6 ["thing"] (ai gx):=fsc
noncomputable abbrev oW:List Str:=["order","turn","one","other"]
theorem gI:au oW ["order","turn","one","other"] (ai fm):=fsc
noncomputable abbrev uG:List Str:=["order","one","other"]
theorem mw:au uG ["order","one","other"] (ai jT):=fsc
noncomputable abbrev cU:List Str:=["row"]
theorem gH:au cU ["row"] (ai c8):=fsc
noncomputable abbrev fu:List Str:=["marks","row"]
theorem ka:au fu ["marks","row"] (ai fB):=fsc
noncomputable abbrev ph:List Str:=["order","row","mark"]
theorem gX:au ph ["order","row","mark"] (ai fP):=fsc
noncomputable abbrev rN:List Str:=["ground","sign","place","onward"]
theorem jt:au rN ["ground","sign","place","onward"] (ai gn):=fsc
noncomputable abbrev k7:List Str:=["pairs"]
theorem pU:au k7 ["pairs"] (ai lC):=fsc
noncomputable abbrev mM:List Str:=["order","ground","pair","begin","end","sign","place","other","onward"]
theorem gb:au mM ["order","ground","pair"] (ai dZ):=fsc
noncomputable abbrev bx:List Str:=["order","ground","there","around"]
theorem eA:au bx ["order","ground","there"] (ai bv):=fsc
noncomputable abbrev jZ:List Str:=["there","ends","begin","end","last"]
theorem eF:au jZ ["there"] (ai cM):=fsc
noncomputable abbrev bI:List Str:=["order","ground","pairs","there"]
theorem iR:au bI ["order","ground","pairs"] (ai bX):=fsc
noncomputable abbrev lM:List Str:=["thing"]
theorem fE:au lM ["thing"] (ai dA):=fsc
noncomputable abbrev oE:List Str:=["thing","many"]
theorem gM:au oE ["thing","many"] (ai eW):=fsc
noncomputable abbrev cY:List Str:=["row","at","ground","sign"]
theorem eY:au cY ["row"] (ai bY):=fsc
noncomputable abbrev bC:List Str:=["order","row","thing"]
theorem ck:au bC ["order","row","thing"] (ai bb):=fsc
noncomputable abbrev fN:List Str:=["order","row","thing"]
theorem cz:au fN ["order","row","thing"] (ai bJ):=fsc
noncomputable abbrev jN:List Str:=["order","one","other"]
theorem eE:au jN ["order","one","other"] (ai cN):=fsc
noncomputable abbrev jc:List Str:=["parts","paper","order","one","other"]
theorem dM:au jc ["parts","paper"] (ai cG):=fsc
noncomputable abbrev xZ:List Str:=["claim","paper","check"]
theorem og:au xZ ["claim","paper"] (ai md):=fsc
noncomputable abbrev sE:List Str:=["_law_script","_law_k","_law_size","_law_cell","_law_rest","_law_seed","_law_found","_law_j"]
theorem kB:au sE ["_law_script","_law_k","_law_size"] (ai iP):=fsc
noncomputable abbrev yn:List Str:=["_law_numbers_here","_law_signs","_law_found","_law_number","_law_word","_law_step","_law_k"]
theorem nS:au yn ["_law_numbers_here"] (ai lO):=fsc
noncomputable abbrev yz:List Str:=["_law_numbers_here","_law_marks","_law_found","_law_k"]
theorem oF:au yz ["_law_numbers_here","_law_marks"] (ai lR):=fsc
noncomputable abbrev zh:List Str:=["_law_number","_law_marks"]
theorem p7:au zh ["_law_number","_law_marks"] (ai oM):=fsc
noncomputable abbrev uu:List Str:=["_law_order_here","_law_one","_law_found","_law_turn","_law_low","_law_high"]
theorem k8:au uu ["_law_order_here","_law_one"] (ai ip):=fsc
noncomputable abbrev vW:List Str:=["_law_order_here","_law_one","_law_other"]
theorem my:au vW ["_law_order_here","_law_one","_law_other"] (ai jR):=fsc
noncomputable abbrev o9:List Str:=["_law_order_here","_law_row","_law_found","_law_size","_law_i","_law_j","_law_good","_law_k","_law_inner"]
theorem hV:au o9 ["_law_order_here","_law_row"] (ai fJ):=fsc
noncomputable abbrev yE:List Str:=["_law_claim","_law_paper","_law_due","_law_found"]
theorem nE:au yE ["_law_claim","_law_paper","_law_due"] (ai lN):=fsc
noncomputable abbrev lr:List Str:=["_law_row"]
theorem pR:au lr ["_law_row"] (ai kc):=fsc
noncomputable abbrev vH:List Str:=["_law_thing","_law_size_of"]
theorem mj:au vH ["_law_thing","_law_size_of"] (ai jI):=fsc
noncomputable abbrev fk:List Str:=["_law_order_here","_law_row","_law_pairs","_law_size_of","_law_pair","_law_known","_law_i","_law_j","_law_due","_law_k"]
theorem mq:au fk ["_law_order_here","_law_row","_law_pairs"] (ai eZ):=fsc
noncomputable abbrev Bv:List Str:=["_law_order_here","_law_mark","_law_found","_law_turn","_law_low","_law_high"]
theorem qH:au Bv ["_law_order_here","_law_mark"] (ai nH):=fsc
noncomputable abbrev cu:List Str:=["_law_order_here","_law_row","_law_mark","_law_known","_law_even"]
theorem kR:au cu ["_law_order_here","_law_row","_law_mark"] (ai dO):=fsc
noncomputable abbrev lH:List Str:=["_law_order_here","_law_row","_law_paper"]
theorem nV:au lH ["_law_order_here","_law_row","_law_paper"] (ai iY):=fsc
noncomputable abbrev c9:List Str:=["_law_pairs","_law_size_of","_law_number","_law_at","_law_i","_law_j","_law_way","_law_place","_law_found","_law_one","_law_some"]
theorem p6:au c9 ["_law_pairs","_law_size_of","_law_number"] (ai eX):=fsc
noncomputable abbrev gW:List Str:=["_law_numbers_here","_law_marks","_law_one","_law_other"]
theorem pP:au gW ["_law_numbers_here","_law_marks"] (ai ig):=fsc
noncomputable abbrev GY:List Str:=["_law_script","_law_numbers_here","_law_marks","_law_order_here","_law_one","_law_other","_law_row","_law_claim","_law_pairs","_law_k","_law_more","_law_bent_here","_law_papers","_law_paper"]
theorem Ba:au GY ["_law_script"] (ai zE):=fsc
noncomputable abbrev vp:List Str:=["self","asked","barred"]
theorem mz:au vp ["self","asked","barred"] (ai jD):=fsc
structure iG(K:J4) (C:K1):Prop where
 c:Cls K C
 n_asked:dU K C "asked"
 n_barred:dU K C "barred"
 n_ahead:dU K C "ahead"
 n_behind:dU K C "behind"
structure Txt(mg:Str->Option J3):Prop where
 b_isinstance:mg "isinstance"=none
 b_int:mg "int"=none
 b_bool:mg "bool"=none
 b_tuple:mg "tuple"=none
 b_len:mg "len"=none
 b_str:mg "str"=none
 b_all:mg "all"=none
 b_reversed:mg "reversed"=none
 b_sum:mg "sum"=none
 b_zip:mg "zip"=none
 b_any:mg "any"=none
 b_enumerate:mg "enumerate"=none
 b_range:mg "range"=none
 b_abs:mg "abs"=none
 b_dict:mg "dict"=none
 b_list:mg "list"=none
 b_sorted:mg "sorted"=none
 b_max:mg "max"=none
 b_set:mg "set"=none
 g_SMALL_LETTERS:∃t,mg "SMALL_LETTERS"=some (.str "abcdefghijklmnopqrstuvwxyz" t)
 g_MOST_LETTERS:∃t,mg "MOST_LETTERS"=some (.int 8 t)
 g_MOST_PAIRS:∃t,mg "MOST_PAIRS"=some (.int 8 t)
 g_MOST_TURN:∃t,mg "MOST_TURN"=some (.int 99 t)
 g_MOST_SIGNS_OF_ROW:∃t,mg "MOST_SIGNS_OF_ROW"=some (.int 60 t)
noncomputable def Gr:List (Str×Str):=[("sentence","takes_sentence"),("no sentence","takes_no_sentence"),("twofold","takes_twofold"),("comes","takes_comes"),("comes not","takes_comes_not"),("parted","takes_parted"),("means","takes_means")]
local macro_rules|`(tactic| walk_at "rd")=>do
 let a<-("zp Ef CP HK diG Gs DL DR wM xk Dp AY wQ vk BH Jt Im DG DZ DU CG F8 Gn FH mN dC Gg AO IJ DS D8 dOp dUn jV Hv xu D3 dCB Ed Hn GW DW G8 EH Ab Gz Hi dOr GP dIf su GO zH zK DQ AK HH IE zz Ea A5 FC Ds AA uM wy DX dDK dDT Ek Eg DK D7 HD.dKr.injEq y9 CW HD.dT.injEq HD.dK.injEq IP IC EO E8 se zx dLc BB Io B1 F4 B5 Dy Df CL Cf CF Gd De wq B3 B7 Iv HE HI He Ic GR Bp Gj FM Ex FF FL EY Fs EW yP Fo Ak Iw Ig Il Hx E2 Fh HF GV HY zi Ad An Bm Gx HP G7 Ik GI GT GJ A6 Ii Di yu Gk aA n9 jE L7 ao2 List.cons_append O8 M8 ap6 O0 List.set_cons_zero List.set_cons_succ aa8 U4 ab8 exists_eq_left' exists_eq_left D.int.injEq D.bl.injEq D.str.injEq D.ref.injEq D.tup.injEq D.lst.injEq true_and and_true if_true decide_eq_true_eq exists_and_left Nat.zero_add Nat.reduceAdd Nat.reduceSub Hs GC zB Ho GU HD.lst.injEq S4 or_true true_or and_self Int.reduceLT Int.reduceLE Int.reducePow Int.reduceNeg Int.reduceToNat Nat.reducePow Nat.reduceLT Nat.reduceLeDiff Int.reduceAdd Int.reduceMul Int.reduceSub J9 Bool.true_eq_false if_false".splitOn " ").mapM fun s=>`(Lean.Parser.Tactic.simpLemma| $(Lean.mkIdent s.toName):term)
 `(tactic| simp only[$(a.toArray),*,↓reduceIte])
section
variable{P:M9}{w:P5}{K:J4}{z:Str->Option J3}{base:L5}{f:K1}{B:N2}
theorem Ho:pE 10 6=True:=by simp[pE]
theorem bz{a b:TSd}{E:fT}{f:DE}{M:DH}(C:DE->DH->Prop) (h:∀nx,(∀ c e,C c e->nx c e)->a { E with nx:=nx } f M) (g:∀ c e,C c e->b E c e):Gn a b E f M:=h _ g
theorem rQ{xs:List D}{n:Nat}:L2.cj xs none (some (n:Int))=xs.take n:=by
 unfold L2.cj;rw[HT.sIx_none,HT.sIx_nat,List.drop_zero,Nat.sub_zero]
 by_cases h:n<=xs.length
 ·rw[aq2 h]
 ·rw[Nat.min_eq_right (by lia),ad7,Z0 (by lia)]
theorem gj{xs:List D}{n:Nat}:L2.cj xs (some (n:Int)) none=xs.drop n:=by
 unfold L2.cj;rw[HT.sIx_none,HT.sIx_nat]
 by_cases h:n<=xs.length
 ·rw[aq2 h,Z0 (by simp)]
 ·rw[Nat.min_eq_right (by lia),au1,List.take_zero,List.drop_of_length_le (by lia)]
theorem bM{lo:Int}{n:Nat}:(oO lo n).length=n:=by simp[oO]
noncomputable def aw(x:Str×Str):D:=.tup [.str x.1,.str x.2]
theorem kX{ko:List Str}{v:Int}(h0:0<=v) (c:v<(ko.length:Int)):∃m∈ko,atI (ko.map D.str) v=some (.str m):=by
 obtain⟨n,rfl⟩:=ah9 h0;have a:n<ko.length:=by lia
 exact⟨ko[n],V6 a,cL (by simp[a])⟩
inductive bA (ord:List (Str×Str)) (a:Str):Str->Prop
 |refl:bA ord a a
 |step {b c:Str}:bA ord a b->(b,c)∈ord->bA ord a c
theorem iE{ord:List (Str×Str)}{a x:Str}{L:List Str}(h0:a∈L) (e:∀y∈ord,y.1∈L->y.2∈L) (h:bA ord a x):x∈L:=by
 induction h with
 |refl=>exact h0
 |step _ c ih=>exact e _ c ih
def dw:SpD:=fun c M R=>∃(ord:List (Str×Str)) (a:Str),c=[.tup (ord.map aw),.str a]/\ord.length<=500 /\
 ∀L:List Str,a∈L->(∀y∈ord,y.1∈L->y.2∈L)->(∀x∈L,bA ord a x)->L.length<=ord.length+1->R (.lst (L.map .str)) M
abbrev tIn:TSd:=Gg (xu (jV (dOp eqF (mN 4) (dOp ixD (mN 2) (mN 3)))) (jV (dOp (inE true) (mN 5) (mN 2)))) (Ab (EH (mN 2) (mN 5))) AO
theorem i4{q:K1}{E:fT}{M:DH}(Q:M q=none) (ps:D) (a:Str) (ord:List (Str×Str)) (g:ord.length<=500) (i:Nat) (j:List Str) (C:i<j.length):∀(e done:List (Str×Str)) (H I:Option D) (L:List Str),ord=done++e->(∃t,L=j++t)->L.Nodup->(∀x∈L,bA ord a x)->(∀x∈L,x∈a::ord.map (·.2))->(∀y∈done,y.1=j[i]->y.2∈L) ->
  (∀(X U:Option D) (p:List Str),(∃t,p=j++t)->p.Nodup->(∀x∈p,bA ord a x)->(∀x∈p,x∈a::ord.map (·.2))->(∀y∈ord,y.1=j[i]->y.2∈p)->E.nx [some ps,some (.str a),some (.ref q),some (.int i),X,U] (aN M q (.lst (p.map .str)))) ->
  dj (iH (dB (c7 4) (dB (c7 5) kz)) 2) tIn E (e.map aw) [some ps,some (.str a),some (.ref q),some (.int i),H,I] (aN M q (.lst (L.map .str)))
 |[],done,H,I,L,G,m,o,hs,s,A,k=>by
  simp only[ao2,dj];exact k H I L m o hs s (by rw[G,ag7];exact A)
 |(b,c)::e,done,H,I,L,G,⟨t,m⟩,o,hs,s,A,k=>by
  have z:i<L.length:=by rw[m];simp;lia
  have O:L[i]=j[i]:=by subst m;simp[C]
  have J:atI (L.map D.str) (i:Int)=some (.str L[i]):=cL (by simp[z]);have Z:L.length<=ord.length+1:=by
   have:=dn L (a::ord.map (·.2)) o s;simpa using this
  simp only[L7,aw,dj,iH,dB,c7,kz,al6];refine⟨_,rfl,?_⟩;walk_at "rd";refine⟨_,J,?_⟩;walk_at "rd";have n:ord=(done++[(b,c)])++e:=by rw[G];simp
  have l:(b,c)∈ord:=by rw[G];simp
  refine aW (fun h=>?_) (fun h=>?_)
  ·have R:b=j[i]:=by rw[<-O];simpa using h
   refine⟨_,if_pos ⟨rfl,bN⟩,_,rfl,?_⟩;rw[bW]
   by_cases B:c∈L
   ·simp only[B,decide_true,Bool.xor_true,aa9,J9,if_false];exact i4 Q ps a ord g i j C e (done++[(b,c)]) _ _ L n ⟨t,m⟩ o hs s (fun y w f=>by
     rcases L4.mp w with h|h
     ·exact A y h f
     ·have:y=(b,c):=by simpa using h
      subst this;exact B) k
   ·simp only[B,decide_false,Bool.xor_false,if_true];refine⟨by rw[J0];exact K7 (by lia:L.length<1000) (sz3 1000),?_⟩;have S:L.map D.str++[D.str c]=(L++[c]).map D.str:=by simp
    rw[S];refine i4 Q ps a ord g i j C e (done++[(b,c)]) _ _ (L++[c]) n ⟨t++[c],by rw[m];simp⟩ ?_ (fun x N=>?_) (fun x N=>?_) (fun y w f=>?_) k
    ·rw[ae5];refine⟨o,by simp,fun u T v Y=>?_⟩;have:v=c:=by simpa using Y
     subst this;rintro rfl;exact B T
    ·rcases L4.mp N with h|h
     ·exact hs x h
     ·have:x=c:=by simpa using h
      subst this;exact bA.step (hs b (by rw[R,<-O];exact V6 z)) l
    ·rcases L4.mp N with h|h
     ·exact s x h
     ·have:x=c:=by simpa using h
      subst this;exact P4 _ (M7.mpr ⟨_,l,rfl⟩)
    ·rcases L4.mp w with h|h
     ·exact Q8 _ (A y h f)
     ·have:y=(b,c):=by simpa using h
      subst this;simp
  ·exact i4 Q ps a ord g i j C e (done++[(b,c)]) _ _ L n ⟨t,m⟩ o hs s (fun y w f=>by
    rcases L4.mp w with P|P
    ·exact A y P f
    ·have:y=(b,c):=by simpa using P
     subst this;exact absurd (by rw[O];simpa using f) h) k
theorem kY(F:Fun K "reached_from" "reached_from" dv f B) (T:Txt z) :aR P w K z base CX0 1 f B ["pairs","mark"] (spD K 2 dw):=by
 have l:=fG.nd;refine F.okR rfl fG (fun a0 A u s H E hr=>⟨_,(aj (aE (i:=2) l rfl (P0 rfl) (iL (af (aa 1) ag)))
   (aj (aE (i:=3) l rfl (P0 rfl) ah)
   (aj (wd P3 (aI xT (aa 3) (az bR rfl T.b_len (by kernel_rfl) (af (aa 2) ag)) nbh) (aj (cq P3 rfl (ba (aa 0)) (ix rfl (bw (aJ (i:=4) l rfl (P0 rfl)) (bw (aJ (i:=5) l rfl (P0 rfl)) gU))) (ak (aZ (gB (gz (aI (eK hr.units) (aa 4) (aU aV (aa 2) (aa 3) (fun _ _=>rfl)) nbh) (eP (aI uF (aa 5) (aa 2) rfl)))) (ak (fM (kJ (aa 2) (aa 5)))) aM)))
   (ak (Hd (i:=3) l rfl (P0 rfl) ah F3))))
   (ak (qU (aa 2)))))),fun ds M R _ hS bk=>?_⟩)
 obtain⟨ord,a,rfl,ho,k⟩:=hS;refine bk ?_;clear bk;walk_at "rd";refine⟨sz3 1,fun q Z=>?_⟩;refine⟨fun m Δ Y=>∃(i:Nat) (L:List Str) (U O:Option D),Δ=[some (D.tup (ord.map aw)),some (D.str a),some (D.ref q),some (D.int i),U,O]/\Y=aN M q (.lst (L.map .str))/\i<=L.length/\L.Nodup/\a∈L/\(∀x∈L,bA ord a x)/\(∀x∈L,x∈a::ord.map (·.2))/\(∀y∈ord,∀j,j<i->L[j]?=some y.1->y.2∈L)/\m=ord.length+1-i,
  ⟨_,0,[a],none,none,rfl,rfl,P1 _,by simp,by simp,fun x J=>by
   have:x=a:=by simpa using J
   subst this;exact bA.refl,fun x J=>by
   have:x=a:=by simpa using J
   subst this;simp,fun y _ j n=>absurd n (by lia),rfl⟩,?_⟩
 intro m Δ Y hI;refine shr fun _ bk=>?_;obtain⟨i,L,U,O,rfl,rfl,a1,hn,X,hs,hb,hp,rfl⟩:=hI;refine bk ?_;clear bk;have cP:L.length<=ord.length+1:=by
  have:=dn L (a::ord.map (·.2)) hn hb;simpa using this
 walk_at "rd";rw[J0];refine aW (fun h=>?_) (fun h=>?_)
 ·have Q:i<L.length:=by lia
  intro hz;refine i4 Z _ a ord ho i L Q ord [] U O L rfl ⟨[],by simp⟩ hn hs hb (fun y g=>absurd g (by simp)) (fun y4 y5 L' N C o S G=>?_);obtain⟨t,rfl⟩:=N;walk_at "rd";refine⟨ord.length+1-(i+1),by lia,i+1,L++t,y4,y5,?_,rfl,by simp;lia,C,Q8 _ X,o,S,fun y g j n c=>?_,rfl⟩
  ·simp
  ·by_cases p:j=i
   ·subst p;refine G y g ?_;rw[T0 Q,J6 Q]at c;exact(V0 c).symm
   ·rw[T0 (by exact K7 (by assumption) (by assumption))]at c;exact Q8 _ (hp y g j (by lia) c)
 ·rw[iD Z];refine k L X (fun y g I=>?_) hs cP;obtain⟨j,n,e⟩:=ak5.mp I;exact hp y g j (by lia) (by rw[J6 n,e])
noncomputable def ao(x:Str×Int):D:=.tup [.str x.1,.int x.2]
theorem lh{e:Type}{f:e->D}(c:∀x y,f x=f y->x=y):∀{xs a:List e},xs.map f=a.map f->xs=a
 |[],[],_=>rfl
 |[],_::_,h=>by simp at h
 |_::_,[],h=>by simp at h
 |x::xs,y::a,h=>by
  simp only[L7,S4]at h;rw[c _ _ h.1,lh c h.2]
theorem lS:∀x y,aw x=aw y->x=y:=fun z147z z147za h=>by obtain⟨a,b⟩:=z147z;obtain⟨c,d⟩:=z147za;simpa[aw]using h
def wt(ord:List (Str×Str)) (t:Int) (a b:Str):Prop:=if t % 2=0 then bA ord a b else bA ord b a
open Classical in
def rB(ord:List (Str×Str)) (a b:Str):Bool:=decide (bA ord a b)
open Classical in
def lB(ord:List (Str×Str)) (t:Int) (a b:Str):Bool:=decide (wt ord t a b)
theorem l8{ord:List (Str×Str)}{a b:Str}:rB ord a b=true↔bA ord a b:=by simp[rB]
theorem yU{ord:List (Str×Str)}{t:Int}{a b:Str}:lB ord t a b=true↔wt ord t a b:=by simp[lB]
theorem xg{ord:List (Str×Str)}{t:Int}{a b:Str}(h:t % 2=0):lB ord t a b=rB ord a b:=by rw[S8,yU,l8,wt,if_pos h]
theorem Bt{ord:List (Str×Str)}{t:Int}{a b:Str}(h:¬ t % 2=0):lB ord t a b=rB ord b a:=by rw[S8,yU,l8,wt,if_neg h]
def iS:SpD:=fun c M R=>∃(ord:List (Str×Str)) (a b:Str),c=[.tup (ord.map aw),.str a,.str b]/\ord.length<=500/\R (.bl (rB ord a b)) M
def eR:SpD:=fun c M R=>∃(ord:List (Str×Str)) (t:Int) (a b:Str),c=[.tup (ord.map aw),.int t,.str a,.str b]/\ord.length<=500/\R (.bl (lB ord t a b)) M
def gF:SpD:=fun a M R=>∃(ord:List (Str×Str)) (x y:Str×Int),a=[.tup (ord.map aw),ao x,ao y]/\ord.length<=500/\R (.bl (x.2+1==y.2&&lB ord x.2 x.1 y.1)) M
theorem o6{ord:List (Str×Str)}{a b:Str}{M:DH}{R:D->DH->Prop}:iS [.tup (ord.map aw),.str a,.str b] M R↔ord.length<=500/\R (.bl (rB ord a b)) M :=
 ⟨fun z148z=>by
  obtain⟨o,c,d,e,l,j⟩:=z148z
  simp only[S4,D.tup.injEq,D.str.injEq,and_true]at e;obtain⟨f,i,g⟩:=e;rw[lh lS f,i,g];exact⟨l,j⟩,fun h=>⟨ord,a,b,rfl,h⟩⟩
theorem l5{ord:List (Str×Str)}{t:Int}{a b:Str}{M:DH}{R:D->DH->Prop}:eR [.tup (ord.map aw),.int t,.str a,.str b] M R↔ord.length<=500/\R (.bl (lB ord t a b)) M :=
 ⟨fun z149z=>by
  obtain⟨o,u,c,d,e,m,l⟩:=z149z
  simp only[S4,D.tup.injEq,D.str.injEq,D.int.injEq,and_true]at e;obtain⟨f,g,j,i⟩:=e;rw[lh lS f,g,j,i];exact⟨m,l⟩,fun h=>⟨ord,t,a,b,rfl,h⟩⟩
theorem qZ{ord:List (Str×Str)}{a b:Str}{t u:Int}{M:DH}{R:D->DH->Prop}:gF [.tup (ord.map aw),.tup [.str a,.int t],.tup [.str b,.int u]] M R↔ord.length<=500/\R (.bl (t+1==u&&lB ord t a b)) M :=
 ⟨fun z150z=>by
  obtain⟨o,⟨c,v⟩,⟨d,w⟩,e,n,m⟩:=z150z
  simp only[ao,S4,D.tup.injEq,D.str.injEq,D.int.injEq,and_true]at e;obtain⟨f,⟨l,j⟩,i,g⟩:=e;rw[lh lS f,l,j,i,g];exact⟨n,m⟩,fun h=>⟨ord,(a,t),(b,u),rfl,h⟩⟩
theorem sf(F:Fun K "at_most" "at_most" iU f B) (T:Txt z) (j:FnD P w K z base "reached_from" 1 2 dw):aR P w K z base CX0 2 f B ["order","one","other"] (spD K 3 iS):=by
 have q:=kL.nd;refine F.okR rfl kL (fun g A c s H E n=>⟨_,(ak (aB (cC fF (aa 2) (qd j n (af (aa 0) (af (aa 1) ag))) rfl))),fun x M R _ p bk=>?_⟩);obtain⟨ord,a,b,rfl,o,k⟩:=p;refine bk ?_;clear bk;walk_at "rd";refine⟨ord,a,rfl,o,fun L m l i u=>?_⟩;refine⟨_,if_pos ⟨rfl,bN⟩,?_⟩;rw[bW];have e:(false ^^ decide (b∈L))=rB ord a b:=by
  rw[S5,S8,l8,decide_eq_true_eq];exact⟨fun h=>i b h,fun h=>iE m l h⟩
 rw[e];exact k
theorem mQ(F:Fun K "mark_leads" "mark_leads" fm f B) (T:Txt z) (c:FnD P w K z base "at_most" 2 3 iS):aR P w K z base CX0 3 f B ["order","turn","one","other"] (spD K 4 eR):=by
 have n:=gI.nd;refine F.okR rfl gI (fun l A e s H E g=>⟨_,(aj (aZ (aI (eK g.units) (ay bK (aa 1) ah) ah nbh) (ak (aB (qd c g (af (aa 0) (af (aa 2) (af (aa 3) ag)))))) aM)
   (ak (aB (qd c g (af (aa 0) (af (aa 3) (af (aa 2) ag))))))),fun o M R _ m bk=>?_⟩)
 obtain⟨ord,t,a,b,rfl,j,k⟩:=m;refine bk ?_;clear bk;walk_at "rd";simp only[o6];refine aW (fun h=>?_) (fun h=>?_)
 ·have i:t % 2=0:=by simpa using h
  rw[xg i]at k;exact⟨j,k⟩
 ·have i:¬ t % 2=0:=by simpa using h
  rw[Bt i]at k;exact⟨j,k⟩
theorem uy(F:Fun K "cancel" "cancel" jT f B) (T:Txt z) (c:FnD P w K z base "mark_leads" 3 4 eR):aR P w K z base CX0 4 f B ["order","one","other"] (spD K 3 gF):=by
 have m:=mw.nd;refine F.okR rfl mw (fun i A e s H E g=>⟨_,(ak (aB (bh (cC (eK g.units) (ay aG (aU aV (aa 1) ah (fun _ _=>rfl)) ah) (aU aV (aa 2) ah (fun _ _=>rfl)) nbh) (cf (qd c g (af (aa 0) (af (aU aV (aa 1) ah (fun _ _=>rfl)) (af (aU aV (aa 1) ah (fun _ _=>rfl)) (af (aU aV (aa 2) ah (fun _ _=>rfl)) ag))))))))),fun n M R _ l bk=>?_⟩);obtain⟨ord,⟨a,t⟩,⟨b,u⟩,rfl,j,k⟩:=l;refine bk ?_;clear bk;simp only[ao];walk_at "rd";simp only[l5];refine aW (fun h=>?_) (fun h=>?_)
 ·simp only[h,U5]at k;exact⟨j,k⟩
 ·simp only[h,R5]at k;exact k
def iu(ord:List (Str×Str)) (F:List Str):Prop:=∀p∈ord,p.1∈F->p.2∈F
noncomputable def lP(ord:List (Str×Str)) (F:List Str):Nat:=(ord.filter fun p=>decide (p.2∈F)).length
theorem qB{F G:List Str}(h:∀x∈F,x∈G):∀{ord:List (Str×Str)},lP ord F<=lP ord G
 |[]=>J7 _
 |p::ord=>by
  have ih:=qB h (ord:=ord);unfold lP at ih ⊢
  by_cases a:p.2∈F
  ·simp[V7,a,h _ a];exact ih
  ·by_cases c:p.2∈G
   ·simp[V7,a,c];exact P9 (by assumption)
   ·simp[V7,a,c];exact ih
theorem wW{F G:List Str}(h:∀x∈F,x∈G) {q:Str×Str}(j:q.2∉F) (i:q.2∈G):∀{ord:List (Str×Str)},q∈ord->lP ord F<lP ord G
 |p::ord,c=>by
  have g:=qB h (ord:=ord);rcases L1.mp c with e|c
  ·subst e;unfold lP at g ⊢;simp[V7,j,i];lia
  ·have ih:=wW h j i c;unfold lP at g ih ⊢
   by_cases a:p.2∈F
   ·simp[V7,a,h _ a];exact ih
   ·by_cases f:p.2∈G
    ·simp[V7,a,f];exact P9 (by assumption)
    ·simp[V7,a,f];exact ih
theorem BW{ord:List (Str×Str)}{F:List Str}:lP ord F<=ord.length:=af6 _ _
theorem uB{F:List Str}:∀{ord:List (Str×Str)},ord.length<=lP ord F->∀p∈ord,p.2∈F
 |p::ord,h,q,c=>by
  have f:=BW (ord:=ord) (F:=F);unfold lP at h f
  by_cases a:p.2∈F
  ·rcases L1.mp c with e|c
   ·subst e;exact a
   ·refine uB (ord:=ord) ?_ q c;unfold lP;simp[V7,a]at h;exact h
  ·simp[V7,a]at h
   lia
theorem xO{ord:List (Str×Str)}{F:List Str}(h:iu ord F∨ord.length<=lP ord F):iu ord F:=by
 rcases h with h|h
 ·exact h
 ·exact fun p a _=>uB h p a
mutual
noncomputable def ar:D->Bool
 |.tup a=>bG a
 |.lst a=>bG a
 |.str x=>decide (x.length<=1000000)
 |.scr _=>false
 |.ref _=>false
 |.box _ _=>false
 |_=>true
noncomputable def bG:List D->Bool
 |[]=>true
 |d::a=>ar d&&bG a
end
theorem bH:∀{ds:List D},bG ds=true↔∀d∈ds,ar d=true
 |[]=>by simp[bG]
 |d::ds=>by simp[bG,bH (ds:=ds)]
theorem bO{M:DH}{d:D}(h:ar d=true):rdM M d=d:=by
 cases d<;>first|rfl|(simp[ar]at h)
noncomputable def eU:D->Int->Bool
 |.tup a,n=>(a.length:Int)==n
 |_,_=>false
noncomputable def bp(x:Str):Bool:=decide (1<=x.length)&&decide (x.length<=8)&&x.cps.toList.all fun c=>decide (c∈ji)
noncomputable def cn:D->Bool
 |.str x=>bp x
 |_=>false
def bj:SpD:=fun a M R=>∃d n,a=[d,.int n]/\ar d=true/\R (.bl (eU d n)) M
theorem bF{d:D}{n:Int}{M:DH}{R:D->DH->Prop}:bj [d,.int n] M R↔ar d=true/\R (.bl (eU d n)) M :=
 ⟨fun z151z=>by obtain⟨c,a,e,h⟩:=z151z;simp only[S4,D.int.injEq,and_true]at e;rw[e.1,e.2];exact h,fun h=>⟨d,n,rfl,h⟩⟩
theorem lW(F:Fun K "is_tuple_of" "is_tuple_of" dR f B) (T:Txt z) :aR P w K z base CX0 1 f B ["thing","many"] (spD K 2 bj):=by
 have j:=gd.nd;refine F.okR rfl gd (fun e A c s H E g=>⟨_,(ak (aB (bh (cH (Tn:="tuple") (by decide) rfl T.b_isinstance rfl T.b_tuple (by kernel_rfl) (aa 0)) (cf (cC (eK g.units) (az bR rfl T.b_len (by kernel_rfl) (af (aa 0) ag)) (aa 1) nbh))))),fun h M R _ i bk=>?_⟩);obtain⟨d,n,rfl,a,k⟩:=i;refine bk ?_;clear bk;walk_at "rd";simp only[bO a];cases d with
 |tup h =>
  refine⟨true,rfl,?_⟩;walk_at "rd";exact k
 |scr _=>simp[ar]at a
 |ref _=>simp[ar]at a
 |box _ _=>simp[ar]at a
 |_=>exact⟨false,rfl,by simp only[J9,if_false];exact k⟩
def cc:SpD:=fun a M R=>∃d,a=[d]/\ar d=true/\R (.bl (cn d)) M
theorem eB{d:D}{M:DH}{R:D->DH->Prop}:cc [d] M R↔ar d=true/\R (.bl (cn d)) M :=
 ⟨fun z152z=>by obtain⟨a,e,h⟩:=z152z;simp only[S4,and_true]at e;rw[e];exact h,fun h=>⟨d,rfl,h⟩⟩
def dH:SpD:=cc
theorem dD{d:D}{M:DH}{R:D->DH->Prop}:dH [d] M R↔ar d=true/\R (.bl (cn d)) M:=eB
theorem xm:abc.cps.toList=ji:=by rw[oV,fH]
theorem cZ{bs:List Bool}:B9 (.lst (bs.map D.bl))=some (.bl (bs.all id)):=by
 have c:(bs.map D.bl).all vj=true:=by rw[W1,R8];intro _ _;rfl
 have a:(bs.map D.bl).all qR=bs.all id:=by rw[W1];rfl
 simp only[B9,c,a,if_true]
theorem jK(F:Fun K "is_short_word" "is_short_word" b7 f B) (T:Txt z) :aR P w K z base CX0 1 f B ["thing"] (spD K 1 cc):=by
 have I:=ff.nd;refine F.okR rfl ff (fun m A j s H E O=>⟨_,(ak (aB (bh (cH (Tn:="str") (by decide) rfl T.b_isinstance rfl T.b_str (by kernel_rfl) (aa 0)) (bh (qO nk nk ah (az bR rfl T.b_len (by kernel_rfl) (af (aa 0) ag)) (iB rfl T.g_MOST_LETTERS)) (cf (az (j9 rfl) rfl T.b_all (by kernel_rfl) (af (eI (ms:=[false]) (aq:=["letter"]) (aC (n0:=0) rfl (show aP (ai b7) df _ _=true from by decide +kernel)) rfl (ba (aa 0)) (aH (i:=1) (show(df++_).Nodup from by decide +kernel) rfl rfl) (fun _ _ _ _=>bP) (fun _ _ _ _=>(cC fF (aa 1) (AQ rfl T.g_SMALL_LETTERS) rfl))) ag))))))),fun Q M R _ C bk=>?_⟩);obtain⟨d,rfl,a,k⟩:=C;refine bk ?_;clear bk;walk_at "rd";simp only[bO a];cases d with
 |str x =>
  have N:x.length<=1000000:=by simpa[ar]using a
  refine⟨true,rfl,?_⟩;walk_at "rd";refine⟨_,if_pos (szB _ (by exact K4 (by assumption) (by decide))),?_⟩;walk_at "rd";have o:x.length=x.cps.toList.length:=by show x.cps.size=_;simp
  refine aW (fun u=>aW (fun p=>?_) (fun p=>?_)) (fun u=>?_)
  ·refine⟨_,if_pos (szB _ (by exact K4 (by assumption) (by decide))),fun n=>⟨n,?_⟩⟩;refine cQ (fun _=>true) (fun d=>match d with|.str y=>.bl (y.cps.toList.all fun c=>decide (c∈ji))|_=>.non) (fun l=>∃x,l=[none,x]) _ _ _ (fun d a l h=>?_) ⟨none,rfl⟩ ?_
   ·obtain⟨J,rfl⟩:=h;obtain⟨c,_,rfl⟩:=M7.mp (show d∈x.cps.toList.map fun c=>D.str (tx [c])from a);refine⟨_,rfl,⟨_,rfl⟩,fun L q=>q,fun _ G q=>?_⟩;walk_at "rd";simp only[A6,ab8,exists_eq_left',S5];rw[show(N1 "abcdefghijklmnopqrstuvwxyz").cps.toList=ji from xm];simpa[fH]using q
   ·rw[O8,Q4.mpr (fun _ _=>rfl)];have e:(L2.fY x).map (fun d=>match d with|.str y=>D.bl (y.cps.toList.all fun c=>decide (c∈ji))|_=>.non)=(x.cps.toList.map fun c=>decide (c∈ji)).map D.bl:=by
     unfold L2.fY;rw[M0,M0];apply S7;intro c _;simp
    rw[e];refine⟨_,cZ,?_⟩;have g:(x.cps.toList.map fun c=>decide (c∈ji)).all id=bp x:=by
     unfold bp;rw[W1,decide_eq_true (by lia:1<=x.length),decide_eq_true (by lia:x.length<=8)];rfl
    rw[g];exact k
  ·have g:cn (.str x)=false:=by simp only[cn,bp,decide_eq_false (by lia:¬ x.length<=8),ak8,R5]
   rw[g]at k;exact k
  ·have g:cn (.str x)=false:=by simp only[cn,bp,decide_eq_false (by lia:¬ 1<=x.length),R5]
   rw[g]at k;exact k
 |scr _=>simp[ar]at a
 |ref _=>simp[ar]at a
 |box _ _=>simp[ar]at a
 |_=>exact⟨false,rfl,by simp only[J9,if_false];exact k⟩
theorem qM(F:Fun K "is_mark" "is_mark" iC f B) (T:Txt z) (c:FnD P w K z base "is_short_word" 1 1 cc):aR P w K z base CX0 2 f B ["thing"] (spD K 1 dH):=by
 have j:=kF.nd;refine F.okR rfl kF (fun g A a s H E h=>⟨_,(ak (aB (qd c h (af (aa 0) ag)))),fun l M R _ i bk=>?_⟩);obtain⟨d,rfl,e,k⟩:=i;refine bk ?_;clear bk;walk_at "rd";exact eB.mpr ⟨e,k⟩
end
section
variable{P:M9}{w:P5}{K:J4}{B:Str->Option J3}{base:L5}{f:K1}{I:N2}
noncomputable def nR:D->Bool
 |.int _=>true
 |_=>false
noncomputable def qr:D->Bool
 |.int t=>decide (-99<=t)&&decide (t<=99)
 |_=>false
noncomputable def jy:D->Bool
 |.tup [a,b]=>cn a&&qr b
 |_=>false
noncomputable def zj:D->Bool
 |.tup a=>a.all jy
 |_=>false
def uc(f:D->Bool):SpD:=fun a M R=>∃d,a=[d]/\ar d=true/\R (.bl (f d)) M
theorem eQ{f:D->Bool}{d:D}{M:DH}{R:D->DH->Prop}:uc f [d] M R↔ar d=true/\R (.bl (f d)) M :=
 ⟨fun z153z=>by obtain⟨a,e,h⟩:=z153z;simp only[S4,and_true]at e;rw[e];exact h,fun h=>⟨d,rfl,h⟩⟩
def gq:SpD:=uc nR
def mH:SpD:=uc qr
def mG:SpD:=uc jy
def oa:SpD:=uc zj
theorem o7(F:Fun K "is_whole" "is_whole" gA f I) (T:Txt B) :aR P w K B base CX0 1 f I ["thing"] (spD K 1 gq):=by
 have h:=jz.nd;refine F.okR rfl jz (fun e A c s H E j=>⟨_,(ak (aB (bh (cH (Tn:="int") (by decide) rfl T.b_isinstance rfl T.b_int (by kernel_rfl) (aa 0)) (cf (yT (cH (Tn:="bool") (by decide) rfl T.b_isinstance rfl T.b_bool (by kernel_rfl) (aa 0))))))),fun l M R _ g bk=>?_⟩);obtain⟨d,rfl,a,k⟩:=g;refine bk ?_;clear bk;walk_at "rd";simp only[bO a];cases d with
 |int i=>exact⟨true,rfl,by simp only[if_true];exact⟨false,rfl,k⟩⟩
 |bl b=>exact⟨true,rfl,by simp only[if_true];exact⟨true,rfl,k⟩⟩
 |scr _=>simp[ar]at a
 |ref _=>simp[ar]at a
 |box _ _=>simp[ar]at a
 |_=>exact⟨false,rfl,by simp only[J9,if_false];exact k⟩
theorem qT(F:Fun K "is_turn" "is_turn" iJ f I) (T:Txt B) (g:FnD P w K B base "is_whole" 1 1 gq):aR P w K B base CX0 2 f I ["thing"] (spD K 1 mH):=by
 have l:=ke.nd;refine F.okR rfl ke (fun e A c s H E i=>⟨_,(ak (aB (bh (qd g i (af (aa 0) ag)) (cf (qO nk nk (uL vw (iB rfl T.g_MOST_TURN)) (aa 0) (iB rfl T.g_MOST_TURN)))))),fun m M R _ j bk=>?_⟩);obtain⟨d,rfl,a,k⟩:=j;refine bk ?_;clear bk;walk_at "rd";refine eQ.mpr ⟨a,?_⟩;walk_at "rd";simp only[bO a];cases d with
 |int t =>
  simp only[nR,if_true];walk_at "rd";simp only[qr]at k;refine aW (fun h=>?_) (fun h=>?_)
  ·rw[decide_eq_true h,U5]at k;exact k
  ·rw[decide_eq_false h,R5]at k;exact k
 |scr _=>simp[ar]at a
 |ref _=>simp[ar]at a
 |box _ _=>simp[ar]at a
 |_=>simp only[nR,J9,if_false];exact k
theorem qx{ds:List D}(h:¬ ds.length=2):jy (.tup ds)=false:=by
 match ds,h with
 |[],_=>rfl
 |[_],_=>rfl
 |[_,_],h=>exact absurd rfl h
 |_::_::_::_,_=>rfl
theorem rS(F:Fun K "is_sign" "is_sign" gY f I) (T:Txt B) (q:FnD P w K B base "is_tuple_of" 1 2 bj) (o:FnD P w K B base "is_mark" 2 1 dH) (i:FnD P w K B base "is_turn" 2 1 mH):aR P w K B base CX0 3 f I ["thing"] (spD K 1 mG):=by
 have u:=j8.nd;refine F.okR rfl j8 (fun n A l s H E g=>⟨_,(ak (aB (bh (qd q g (af (aa 0) (af ah ag))) (bh (qd o g (af (aU aV (aa 0) ah (fun _ _=>rfl)) ag)) (cf (qd i g (af (aU aV (aa 0) ah (fun _ _=>rfl)) ag))))))),fun j M R _ p bk=>?_⟩);obtain⟨d,rfl,c,k⟩:=p;refine bk ?_;clear bk;walk_at "rd";refine bF.mpr ⟨c,?_⟩;walk_at "rd";cases d with
 |tup j =>
  by_cases m:j.length=2
  ·match j,m,c,k with
   |[a,b],_,c,k =>
    have e:ar a=true/\ar b=true:=by simpa[ar,bG]using c
    rw[if_pos (by rfl)];walk_at "rd";refine dD.mpr ⟨e.1,?_⟩;walk_at "rd";simp only[jy]at k;refine aW (fun h=>eQ.mpr ⟨e.2,?_⟩) (fun h=>?_)
    ·rw[h,U5]at k;exact k
    ·rw[show cn a=false by simpa using h,R5]at k;exact k
  ·rw[if_neg (by simp only[eU];simp;lia)];rw[qx m]at k;exact k
 |scr _=>simp[ar]at c
 |ref _=>simp[ar]at c
 |box _ _=>simp[ar]at c
 |_=>rw[if_neg (by simp[eU])];exact k
theorem AJ{f:D->Bool}{M:DH}{Q:List D->DH->Prop}{ds:List D}{te:TEd}{Δ0:DE}{n:Nat}(e:∀d∈ds,∀x,∀a:D->DH->Prop,a (.bl (f d)) M->te ((Δ0++[x]).set Δ0.length (some d)) M a)
  (h:Q ((ds.map f).map D.bl) M):cV (c7 Δ0.length) CO te ds (Δ0++[none]) M [] Q:=by
 refine cQ (fun _=>true) (fun d=>.bl (f d)) (fun g=>∃x,g=Δ0++[x]) _ _ _ (fun d i g c=>?_) ⟨none,rfl⟩ ?_
 ·obtain⟨x,rfl⟩:=c;refine⟨_,rfl,⟨some d,by simp⟩,fun j q=>q,fun _ a q=>e d i x a q⟩
 ·rw[O8,Q4.mpr (fun _ _=>rfl)];rw[M0]at h;exact h
theorem ui(F:Fun K "is_row" "is_row" gx f I) (T:Txt B) (l:FnD P w K B base "is_sign" 3 1 mG):aR P w K B base CX0 4 f I ["thing"] (spD K 1 oa):=by
 have C:=mi.nd;refine F.okR rfl mi (fun m A g s H E p=>⟨_,(ak (aB (bh (cH (Tn:="tuple") (by decide) rfl T.b_isinstance rfl T.b_tuple (by kernel_rfl) (aa 0)) (cf (az (j9 rfl) rfl T.b_all (by kernel_rfl) (af (eI (ms:=[false]) (aq:=["sign"]) (aC (n0:=0) rfl (show aP (ai gx) j6 _ _=true from by decide +kernel)) rfl (ba (aa 0)) (aH (i:=1) (show(j6++_).Nodup from by decide +kernel) rfl rfl) (fun _ _ _ _=>bP) (fun _ _ _ _=>(qd l p (af (aa 1) ag)))) ag)))))),fun c M R _ u bk=>?_⟩);obtain⟨d,rfl,a,k⟩:=u;refine bk ?_;clear bk;walk_at "rd";simp only[bO a];cases d with
 |tup c =>
  refine⟨true,rfl,?_⟩;walk_at "rd";have j:∀d∈c,ar d=true:=bH.mp (by simpa[ar]using a);intro o;refine⟨o,AJ (f:=jy) (Δ0:=[none]) (n:=1) (fun d h x z q=>?_) ?_⟩
  ·walk_at "rd";exact eQ.mpr ⟨j d h,q⟩
  ·refine⟨_,cZ,?_⟩;have e:(c.map jy).all id=zj (.tup c):=by
    simp only[zj,W1];rfl
   rw[e];exact k
 |scr _=>simp[ar]at a
 |ref _=>simp[ar]at a
 |box _ _=>simp[ar]at a
 |_=>exact⟨false,rfl,by simp only[J9,if_false];exact k⟩
noncomputable def mx:D->Bool
 |.tup [a,b]=>cn a&&cn b
 |_=>false
noncomputable def ux:D->Bool
 |.tup a=>decide (a.length<=8)&&a.all mx
 |_=>false
def iA:SpD:=fun a M R=>∃d,a=[d]/\ar d=true/\R (.bl (mx d)) M
def gE:SpD:=fun a M R=>∃d,a=[d]/\ar d=true/\R (.bl (ux d)) M
theorem pd{d:D}{M:DH}{R:D->DH->Prop}:iA [d] M R↔ar d=true/\R (.bl (mx d)) M :=
 ⟨fun z154z=>by obtain⟨a,e,h⟩:=z154z;simp only[S4,and_true]at e;rw[e];exact h,fun h=>⟨d,rfl,h⟩⟩
theorem nK{d:D}{M:DH}{R:D->DH->Prop}:gE [d] M R↔ar d=true/\R (.bl (ux d)) M :=
 ⟨fun z155z=>by obtain⟨a,e,h⟩:=z155z;simp only[S4,and_true]at e;rw[e];exact h,fun h=>⟨d,rfl,h⟩⟩
theorem xJ{ds:List D}(h:¬ ds.length=2):mx (.tup ds)=false:=by
 match ds,h with
 |[],_=>rfl
 |[_],_=>rfl
 |[_,_],h=>exact absurd rfl h
 |_::_::_::_,_=>rfl
theorem qQ(F:Fun K "is_pair" "is_pair" iq f I) (T:Txt B) (o:FnD P w K B base "is_tuple_of" 1 2 bj) (l:FnD P w K B base "is_mark" 2 1 dH):aR P w K B base CX0 3 f I ["thing"] (spD K 1 iA):=by
 have q:=kH.nd;refine F.okR rfl kH (fun n A g s H E i=>⟨_,(ak (aB (bh (qd o i (af (aa 0) (af ah ag))) (bh (qd l i (af (aU aV (aa 0) ah (fun _ _=>rfl)) ag)) (cf (qd l i (af (aU aV (aa 0) ah (fun _ _=>rfl)) ag))))))),fun j M R _ p bk=>?_⟩);obtain⟨d,rfl,c,k⟩:=p;refine bk ?_;clear bk;walk_at "rd";refine bF.mpr ⟨c,?_⟩;walk_at "rd";cases d with
 |tup j =>
  by_cases m:j.length=2
  ·match j,m,c,k with
   |[a,b],_,c,k =>
    have e:ar a=true/\ar b=true:=by simpa[ar,bG]using c
    rw[if_pos (by rfl)];walk_at "rd";refine dD.mpr ⟨e.1,?_⟩;walk_at "rd";simp only[mx]at k;refine aW (fun h=>dD.mpr ⟨e.2,?_⟩) (fun h=>?_)
    ·rw[h,U5]at k;exact k
    ·rw[show cn a=false by simpa using h,R5]at k;exact k
  ·rw[if_neg (by simp only[eU];simp;lia)];rw[xJ m]at k;exact k
 |scr _=>simp[ar]at c
 |ref _=>simp[ar]at c
 |box _ _=>simp[ar]at c
 |_=>rw[if_neg (by simp[eU])];exact k
theorem pe(F:Fun K "is_order" "is_order" eG f I) (T:Txt B) (g:FnD P w K B base "is_pair" 3 1 iA):aR P w K B base CX0 4 f I ["thing"] (spD K 1 gE):=by
 have G:=jx.nd;refine F.okR rfl jx (fun m A h s H E u=>⟨_,(ak (aB (bh (cH (Tn:="tuple") (by decide) rfl T.b_isinstance rfl T.b_tuple (by kernel_rfl) (aa 0)) (bh (cC nk (az bR rfl T.b_len (by kernel_rfl) (af (aa 0) ag)) (iB rfl T.g_MOST_PAIRS) nbh) (cf (az (j9 rfl) rfl T.b_all (by kernel_rfl) (af (eI (ms:=[false]) (aq:=["pair"]) (aC (n0:=0) rfl (show aP (ai eG) gC _ _=true from by decide +kernel)) rfl (ba (aa 0)) (aH (i:=1) (show(gC++_).Nodup from by decide +kernel) rfl rfl) (fun _ _ _ _=>bP) (fun _ _ _ _=>(qd g u (af (aa 1) ag)))) ag))))))),fun a M R _ z bk=>?_⟩);obtain⟨d,rfl,c,k⟩:=z;refine bk ?_;clear bk;walk_at "rd";simp only[bO c];cases d with
 |tup a =>
  refine⟨true,rfl,?_⟩;walk_at "rd";have l:∀d∈a,ar d=true:=bH.mp (by simpa[ar]using c);refine aW (fun p=>fun o=>⟨o,?_⟩) (fun p=>?_)
  ·refine AJ (f:=mx) (Δ0:=[none]) (n:=1) (fun d j x C q=>?_) ?_
   ·walk_at "rd";exact pd.mpr ⟨l d j,q⟩
   ·refine⟨_,cZ,?_⟩;have e:(a.map mx).all id=ux (.tup a):=by
     simp only[ux,W1,decide_eq_true (by lia:a.length<=8),U5];rfl
    rw[e];exact k
  ·have e:ux (.tup a)=false:=by simp only[ux,decide_eq_false (by lia:¬ a.length<=8),R5]
   rw[e]at k;exact k
 |scr _=>simp[ar]at c
 |ref _=>simp[ar]at c
 |box _ _=>simp[ar]at c
 |_=>exact⟨false,rfl,by simp only[J9,if_false];exact k⟩
theorem aX{m:Type}{g:GD}{tc:TTd}{te:TEd}{M:DH}{Q:List D->DH->Prop}(i:m->D) (b:m->Bool) (y:m->D) (Ok:DE->Prop):∀(xs:List m) (f:DE) (c:List D),
  (∀x∈xs,∀ f,Ok f->∃ a,g (i x) f=some a/\Ok a/\(∀s:Bool->DH->Prop,s (b x) M->tc a M s)/\(b x=true->∀p:D->DH->Prop,p (y x) M->te a M p))->Ok f ->
  Q (c++(xs.filter b).map y) M->cV g tc te (xs.map i) f M c Q
 |[],f,c,_,_,q=>by simpa[cV]using q
 |x::xs,f,c,h,n,q=>by
  rw[L7];simp only[cV];obtain⟨a,e,l,A,w⟩:=h x (.head _) f n;refine⟨a,e,A _ ?_⟩;have ih:=fun j B=>aX (Q:=Q) i b y Ok xs a j (fun z u=>h z (.tail _ u)) l B;cases o:b x with
  |true =>
   simp only[if_true];refine w o _ (ih _ ?_);rw[Q6 o]at q;simpa using q
  |false =>
   simp only[J9,if_false];refine ih _ ?_;rw[S9 (by simp[o])]at q;exact q
theorem wO{c:Type} [DecidableEq c] (f:c->D) (e:∀x y,eqD (f x) (f y)=decide (x=y)):∀{a b:List c},dY (a.map f) (b.map f)=decide (a=b)
 |[],[]=>by simp[dY]
 |[],_::_=>by simp[dY]
 |_::_,[]=>by simp[dY]
 |x::a,y::b=>by
  rw[L7,L7,dY,wO f e (a:=a) (b:=b),e];simp
theorem nu{c:Type}(f:c->D) (g:∀x,dLe (f x) 59=true) {a:List c}:ft (a.map f) 59=true:=by
 rw[sM];intro d e;obtain⟨x,_,rfl⟩:=M7.mp e;exact g x
theorem Dd{c:Type} [DecidableEq c] (f:c->D) (g:∀x y,eqD (f x) (f y)=decide (x=y)) (e:∀x,dLe (f x) 59=true) {a b:List c}:neF (.lst (a.map f)) (.lst (b.map f))=some (.bl (!decide (a=b))):=by
 have i:dLe (.lst (a.map f)) 60=true:=nu f e;have h:dLe (.lst (b.map f)) 60=true:=nu f e;simp only[neF,i,h,and_self,if_true,eqD,wO f g]
theorem mf{e:Type}:∀{xs:List e},xs.Nodup->fR xs=xs:=by
 intro xs f;have c:∀(xs a:List e),(a++xs).Nodup->xs.foldl aS a=a++xs:=by
  intro xs
  induction xs with
  |nil=>intro a _;simp
  |cons x xs ih =>
   intro a h;have g:x∉a:=fun z=>by
    rw[ae5]at h;exact h.2.2 x z x (.head _) rfl
   rw[am3,show aS a x=a++[x]from if_neg g,ih _ (by simpa using h)];simp
 have:=c xs [] (by simpa using f);simpa[fR]using this
def cB(o:List (Str×Str)) (x y:Str×Int):Bool:=x.2+1==y.2&&lB o x.2 x.1 y.1
def sQ(x:Str×Int):Prop:=bp x.1=true/\-99<=x.2/\x.2<=99
theorem kU{r:List D}(h:r.length=2):∃a b,r=[a,b]:=by
 match r,h with
 |[a,b],_=>exact⟨a,b,rfl⟩
theorem xE{d:D}:jy d=true↔∃x,d=ao x/\sQ x:=by
 constructor
 ·intro h;cases d with
  |tup i =>
   by_cases f:i.length=2
   ·obtain⟨a,b,rfl⟩:=kU f;simp only[jy,O1]at h;obtain⟨e,c⟩:=h;cases a with
    |str a =>
     cases b with
     |int t=>simp only[cn,qr,O1,decide_eq_true_eq]at e c;exact⟨(a,t),rfl,e,c⟩
     |_=>simp[qr]at c
    |_=>simp[cn]at e
   ·rw[qx f]at h;cases h
  |_=>simp[jy]at h
 ·rintro⟨x,rfl,e,c,g⟩;simp only[ao,jy,cn,qr,e,c,g,decide_true,Bool.and_self]
noncomputable def txB:D->Str->Bool
 |.str s,a=>s==a
 |_,_=>false
def jm:SpD:=fun c M R=>∃(d:D) (a:Str),c=[d,.str a]/\ar d=true/\R (.bl (txB d a)) M
theorem oQ(F:Fun K "are_alike" "are_alike" fQ f I) (T:Txt B) :aR P w K B base CX0 1 f I ["one","other"] (spD K 2 jm):=by
 have i:=g9.nd;refine F.okR rfl g9 (fun e A c s H E g=>⟨_,(aj (aZ (gB (gV (bQ (cH (Tn:="str") (by decide) rfl T.b_isinstance rfl T.b_str (by kernel_rfl) (aa 0))) (fI (bQ (cH (Tn:="str") (by decide) rfl T.b_isinstance rfl T.b_str (by kernel_rfl) (aa 1)))))) (ak (aB (bh (cH (Tn:="str") (by decide) rfl T.b_isinstance rfl T.b_str (by kernel_rfl) (aa 0)) (bh (cH (Tn:="str") (by decide) rfl T.b_isinstance rfl T.b_str (by kernel_rfl) (aa 1)) (cf (cC (eK g.units) (aa 0) (aa 1) nbh)))))) aM)
   (ak (aB (cC fF (aa 0) (aY (af (aa 1) ag)) rfl)))),fun l M R _ h bk=>?_⟩)
 obtain⟨d,j,rfl,a,k⟩:=h;refine bk ?_;clear bk;walk_at "rd";simp only[bO a];cases d with
 |str x =>
  refine⟨true,rfl,⟨true,rfl,⟨true,rfl,?_⟩⟩⟩;walk_at "rd";exact k
 |scr _=>simp[ar]at a
 |ref _=>simp[ar]at a
 |box _ _=>simp[ar]at a
 |_=>exact⟨false,rfl,⟨true,rfl,⟨false,rfl,k⟩⟩⟩
noncomputable def jg(d:D) (a:Str) (n:Int):Bool:=match d with
 |.tup (x::r)=>((r.length+1:Nat):Int)==n&&txB x a
 |_=>false
def et:SpD:=fun c M R=>∃(d:D) (a:Str) (n:Int),c=[d,.str a,.int n]/\ar d=true/\0<n/\R (.bl (jg d a n)) M
theorem iM(F:Fun K "is_tuple_called" "is_tuple_called" cF f I) (T:Txt B) (m:FnD P w K B base "is_tuple_of" 1 2 bj) (g:FnD P w K B base "are_alike" 1 2 jm):aR P w K B base CX0 2 f I ["thing","name","many"] (spD K 3 et):=by
 have u:=dJ.nd;refine F.okR rfl dJ (fun l A c s H E i=>⟨_,(ak (aB (bh (qd m i (af (aa 0) (af (aa 2) ag))) (cf (qd g i (af (aU aV (aa 0) ah (fun _ _=>rfl)) (af (aa 1) ag))))))),fun j M R _ q bk=>?_⟩);obtain⟨d,p,n,rfl,a,z,k⟩:=q;refine bk ?_;clear bk;walk_at "rd";refine bF.mpr ⟨a,?_⟩;walk_at "rd";cases d with
 |tup j =>
  cases j with
  |nil=>rw[if_neg (by simp[eU];lia)];exact k
  |cons x r =>
   have e:eU (D.tup (x::r)) n=(((r.length+1:Nat):Int)==n):=by simp[eU]
   have o:ar x=true:=by simp only[ar,bG,O1]at a;exact a.1
   simp only[jg]at k;rw[e];refine aW (fun h=>?_) (fun h=>?_)
   ·rw[h,U5]at k;walk_at "rd";exact⟨x,p,rfl,o,k⟩
   ·rw[show(((r.length+1:Nat):Int)==n)=false by simpa using h,R5]at k;exact k
 |scr _=>simp[ar]at a
 |ref _=>simp[ar]at a
 |box _ _=>simp[ar]at a
 |_=>rw[if_neg (by simp[eU])];exact k
theorem y8{d:D}{a:Str}{n:Int}:jg d a n=true↔∃r,d=.tup (.str a::r)/\((r.length+1:Nat):Int)=n:=by
 constructor
 ·intro h;cases d with
  |tup c =>
   cases c with
   |nil=>simp[jg]at h
   |cons x r =>
    simp only[jg,O1,beq_iff_eq]at h;cases x with
    |str s=>simp only[txB,beq_iff_eq]at h;exact⟨r,by rw[h.2],h.1⟩
    |_=>simp[txB]at h
  |_=>simp[jg]at h
 ·rintro⟨r,rfl,h⟩;simp only[jg,txB,beq_self_eq_true,ai5,beq_iff_eq];exact h
theorem vb{d:D}{c:Str}:jg d c 2=true↔∃a,d=.tup [.str c,a]:=by
 rw[y8];constructor
 ·rintro⟨r,rfl,h⟩;obtain⟨a,rfl⟩:=List.length_eq_one_iff.mp (show r.length=1 by lia);exact⟨a,rfl⟩
 ·rintro⟨a,rfl⟩;exact⟨_,rfl,rfl⟩
noncomputable def sg(row:List (Str×Int)) (i:Nat):Str×Int:=row.getD i ("",0)
theorem wc{row:List (Str×Int)}{i:Nat}(h:i<row.length):atI (row.map ao) (i:Int)=some (ao (sg row i)):=by
 refine cL ?_;rw[N9,J6 h];simp[sg,h]
noncomputable def stD(s:Nat×Nat):D:=.tup [.int (s.1:Int),.int (s.2:Int)]
noncomputable def stI(s:Nat×Nat):Int×Int:=((s.1:Int),(s.2:Int))
theorem Dn{l:List (Nat×Nat)}:l.map stD=(l.map stI).map pD:=by rw[M0];rfl
theorem Dx:∀x y,stD x=stD y->x=y:=fun z156z z156za h=>by
 obtain⟨a,b⟩:=z156z;obtain⟨c,d⟩:=z156za
 simp only[stD,D.tup.injEq,S4,D.int.injEq,and_true]at h;exact ax1 (by simp only;lia) (by simp only;lia)
theorem sN{ord:List (Str×Str)}{x y:Str×Int}{M:DH}{R:D->DH->Prop}:gF [.tup (ord.map aw),ao x,ao y] M R↔ord.length<=500/\R (.bl (cB ord x y)) M:=qZ (a:=x.1) (b:=y.1) (t:=x.2) (u:=y.2)
noncomputable def lL(row:List (Str×Int)) (n:Nat):List (Key×D):=(N5 n).map fun(i:Nat)=>(.inl (i:Int),.tup [ao (sg row i),.int ((i+1:Nat):Int)])
noncomputable def lJ(row:List (Str×Int)) (n:Nat):List (Key×D):=(N5 n).map fun(i:Nat)=>(.inl ((i+1:Nat):Int),.tup [ao (sg row i),.int (i:Int)])
theorem iW{f:Nat->Int}{g:Nat->D}(h:∀i j,f i=f j->i=j):∀{n:Nat}(a:Int),cR ((N5 n).map fun(i:Nat)=>((.inl (f i):Key),g i)) (.inl a)=((N5 n).find? fun i=>decide (f i=a)).map g
 |n,a=>by
  unfold cR;rw[List.find?_map,Option.map_map];have e:((fun c:Key×D=>decide (c.1=aj1 a))∘fun(i:Nat)=>((.inl (f i):Key),g i))=fun i=>decide (f i=a):=by
   funext i;simp only[ai6,aj1.injEq]
  rw[e];rfl
theorem nG{p:Nat->Bool}:∀{n i:Nat},i<n->p i=true->(∀j,p j=true->j=i)->(N5 n).find? p=some i:=by
 intro n i e c a;rw[List.find?_eq_some_iff_getElem];refine⟨c,i,by simpa using e,by simp,fun j f=>?_⟩;simp only[List.getElem_range];cases h:p j with
 |false=>rfl
 |true=>have:=a j h;lia
theorem gG{p:Nat->Bool}{n:Nat}(h:∀i,i<n->p i=false):(N5 n).find? p=none:=by
 rw[List.find?_eq_none];intro x a;rw[h x (P6.mp a)];simp
theorem tQ{row:List (Str×Int)}{n a:Nat}(h:a<n):cR (lL row n) (.inl (a:Int))=some (.tup [ao (sg row a),.int ((a+1:Nat):Int)]):=by
 unfold lL;rw[iW (f:=fun i=>(i:Int)) (g:=fun(i:Nat)=>D.tup [ao (sg row i),.int ((i+1:Nat):Int)]) (fun i j h=>by lia),nG h (by simp) (fun j c=>by simp at c;lia)];rfl
theorem sR{row:List (Str×Int)}{n a:Nat}(h:¬ a<n):cR (lL row n) (.inl (a:Int))=none:=by
 unfold lL;rw[iW (f:=fun i=>(i:Int)) (g:=fun(i:Nat)=>D.tup [ao (sg row i),.int ((i+1:Nat):Int)]) (fun i j h=>by lia),gG (fun i c=>by simp;lia)];rfl
theorem ub{row:List (Str×Int)}{n a:Nat}(h:a<n):cR (lJ row n) (.inl ((a+1:Nat):Int))=some (.tup [ao (sg row a),.int (a:Int)]):=by
 unfold lJ;rw[iW (f:=fun i=>((i+1:Nat):Int)) (g:=fun(i:Nat)=>D.tup [ao (sg row i),.int (i:Int)]) (fun i j h=>by lia),nG h (by simp) (fun j c=>by simp at c;lia)];rfl
theorem tU{row:List (Str×Int)}{n a:Nat}(h:a=0∨n<a):cR (lJ row n) (.inl (a:Int))=none:=by
 unfold lJ;rw[iW (f:=fun i=>((i+1:Nat):Int)) (g:=fun(i:Nat)=>D.tup [ao (sg row i),.int (i:Int)]) (fun i j h=>by lia),gG (fun i c=>by simp;lia)];rfl
theorem Bj{row:List (Str×Int)}{n:Nat}:je (lL row n) (.inl (n:Int)) (.tup [ao (sg row n),.int ((n+1:Nat):Int)])=lL row (n+1):=by
 unfold je;rw[ly,sR (af2 n)];simp only[Option.isSome_none,J9,if_false];unfold lL;rw[am6,O2];rfl
theorem Ae{row:List (Str×Int)}{n:Nat}:je (lJ row n) (.inl ((n+1:Nat):Int)) (.tup [ao (sg row n),.int (n:Int)])=lJ row (n+1):=by
 unfold je;rw[ly,tU (.inr (W8 n))];simp only[Option.isSome_none,J9,if_false];unfold lJ;rw[am6,O2];rfl
noncomputable def grF(c a:List D) (p q:K1):List (Str×D):=[("asked",.lst c),("barred",.lst a),("ahead",.ref p),("behind",.ref q)]
def jL(C:K1):SpD:=fun f M R=>∃(g:K1) (a b:List D),f=[.ref g,.lst a,.lst b]/\M g=some (.ins C [])/\∀p q e,e g=some (.ins C (grF a b p q))->e p=some (.dK [])->e q=some (.dK [])->p≠q->M p=none->M q=none->(∀c o,c≠g->M c=some o->e c=some o)->R .non e
theorem tZ(F:Fun K "__init__" "Ground.__init__" jD f I) (T:Txt B) {C:K1} (Z:iG K C) :aR P w K B base CX0 1 f I ["self","asked","barred"] (spD K 3 (jL C)):=by
 have N:=mz.nd;refine F.okR rfl mz (fun z A n s H E O=>⟨_,(aj (qP Z.c Z.n_asked (aa 0) (aa 1))
   (aj (qP Z.c Z.n_barred (aa 0) (aa 2))
   (aj (qP Z.c Z.n_ahead (aa 0) F5)
   (ak (qP Z.c Z.n_behind (aa 0) F5))))),fun Q M R _ L bk=>?_⟩)
 obtain⟨g,a,b,rfl,G,k⟩:=L;refine bk ?_;clear bk;walk_at "rd";refine⟨_,G,by decide,_,rfl,by show 1<1000;decide,fun p m=>?_⟩;have e:p≠g:=by rintro rfl;rw[aA]at m;cases m
 refine⟨_,(av (ab6 e)).trans aA,by show 2<1000;decide,fun q i=>?_⟩;have h:q≠g:=by rintro rfl;rw[aA]at i;cases i
 have j:q≠p:=by rintro rfl;rw[av e,aA]at i;cases i
 refine⟨_,(av (ab6 h)).trans aA,by show 3<1000;decide,k p q _ aA ?_ ?_ (ab6 j) ?_ ?_ ?_⟩
 ·rw[av e,av (ab6 j),av e,aA]
 ·rw[av h,aA]
 ·rw[av e]at m;exact m
 ·rw[av h,av j,av h]at i;exact i
 ·intro c o l u;have x:c≠p:=by rintro rfl;rw[av l,u]at m;cases m
  have J:c≠q:=by rintro rfl;rw[av l,av x,av l,u]at i;cases i
  rw[av l,av J,av l,av x,av l];exact u
noncomputable def kP(s:Nat×Nat):List KD:=[.int s.1,.int s.2]
theorem FD{x y:Nat×Nat}(h:kP x=kP y):x=y:=by
 obtain⟨a,b⟩:=x;obtain⟨c,d⟩:=y;simp only[kP,S4,KD.int.injEq,Int.natCast_inj,and_true]at h;rw[h.1,h.2]
theorem dpN(x:Nat×Nat):dpK 8 (.tup (kP x)):=fun z a=>by
 simp only[kP,L1,R4,or_false]at a;rcases a with rfl|rfl<;>simp[dpK]
theorem Fy(ps:List (Nat×Nat)):(ps.map kP).map eM=ps.map stD:=by rw[M0];rfl
theorem Bw{ps:List (Nat×Nat)}{x:Nat×Nat}:kP x∈ps.map kP↔x∈ps:=by
 rw[M7];exact⟨fun z157z=>by obtain⟨y,h,e⟩:=z157z;exact FD e▸h,fun h=>⟨x,h,rfl⟩⟩
theorem inP{ps:List (Nat×Nat)}{x:Nat×Nat}:decide (kP x∈ps.map kP)=decide (x∈ps):=by
 rw[S8,decide_eq_true_eq,decide_eq_true_eq];exact Bw
noncomputable def u9(ps:List (Nat×Nat)):Bool:=ps.all fun x=>ps.all fun y=>!decide (x.2=y.1) || decide ((x.1,y.2)∈ps)
theorem lE{ps:List (Nat×Nat)}:u9 ps=true↔∀a b c,(a,b)∈ps->(b,c)∈ps->(a,c)∈ps:=by
 unfold u9;rw[R8];constructor
 ·intro h a b c j g;have:=R8.mp (h _ j) _ g;simpa using this
 ·intro h x i;rw[R8];intro y f
  by_cases e:x.2=y.1
  ·have:=h x.1 x.2 y.2 i (by rw[e];exact f);simp[this]
  ·simp[e]
theorem rM{i m:Type}{f:i->m}:∀{l:List i}{x y:i},(l.map f).Nodup->x∈l->y∈l->f x=f y->x=y
 |[],_,_,_,h,_,_=>by cases h
 |z::l,x,y,c,g,a,e=>by
  rw[L7,aa4]at c;rcases L1.mp g with rfl|g
  ·rcases L1.mp a with rfl|a
   ·rfl
   ·exact(c.1 (M7.mpr ⟨y,a,e.symm⟩)).elim
  ·rcases L1.mp a with j|a
   ·exact(c.1 (M7.mpr ⟨x,g,by rw[e,j]⟩)).elim
   ·exact rM c.2 g a e
def uh(M:DH) (a:K1) (ps:List (Nat×Nat)) (g:DH):Prop:=∃f:List (Nat×K1×List Nat),g a=some (.dK (f.map fun e=>((.inl (e.1:Int):Key),D.ref e.2.1)))/\(∀e∈f,g e.2.1=some (.lst (e.2.2.map fun k:Nat=>D.int (k:Int))))/\(∀e∈f,M e.2.1=none)/\(f.map (·.2.1)).Nodup/\(f.map (·.1)).Nodup/\LeM M g/\f.length<=ps.length/\(∀e∈f,e.2.2.length<=ps.length)/\∀b c,(b,c)∈ps↔∃e∈f,e.1=b/\c∈e.2.2
theorem sY{a:List (Nat×K1×List Nat)}{f:Nat×K1×List Nat->D}(hn:(a.map (·.1)).Nodup) {e:Nat×K1×List Nat}(he:e∈a):cR (a.map fun e=>((.inl (e.1:Int):Key),f e)) (.inl (e.1:Int))=some (f e):=by
 induction a with
 |nil=>cases he
 |cons x a ih =>
  rw[L7,aa4]at hn;rw[L7];rcases L1.mp he with rfl|he
  ·exact lF rfl
  ·rw[kZ (by
    intro z;simp only[aj1.injEq,Int.natCast_inj]at z;exact hn.1 (z▸M7.mpr ⟨e,he,rfl⟩))]
   exact ih hn.2 he
theorem jn{a:List (Nat×K1×List Nat)}{f:Nat×K1×List Nat->D}{b:Nat}{d:D}(h:cR (a.map fun e=>((.inl (e.1:Int):Key),f e)) (.inl (b:Int))=some d):∃e∈a,e.1=b/\d=f e:=by
 induction a with
 |nil=>cases h
 |cons x a ih =>
  rw[L7]at h
  by_cases e:x.1=b
  ·rw[lF (by rw[e])]at h;cases h;exact⟨x,.head _,e,rfl⟩
  ·rw[kZ (by
    intro z;simp only[aj1.injEq,Int.natCast_inj]at z;exact e z)]at h
   obtain⟨y,c,r⟩:=ih h;exact⟨y,.tail _ c,r⟩
theorem zr{M A:DH}{a:K1}{ps:List (Nat×Nat)}(ha:M a=none) (h:uh M a ps A) {b:Nat}{s:List (Key×D)}(U:A a=some (.dK s)) {d:D}(X:cR s (.inl (b:Int))=some d) (c:Nat) {p:K1}(i:A p=none) :
  ∃q l,d=.ref q/\aN A p (.lst []) q=some (.lst (l.map fun k:Nat=>D.int (k:Int)))/\l.length<=ps.length/\uh M a (ps++[(b,c)]) (aN (aN A p (.lst [])) q (.lst ((l++[c]).map fun k:Nat=>D.int (k:Int)))):=by
 obtain⟨u,C,B,Q,S,P,R,h7,T,Y⟩:=h;rw[C]at U;cases U;obtain⟨e,j,rfl,rfl⟩:=jn (f:=fun e=>.ref e.2.1) X;have O:e.2.1≠p:=by rintro z;rw[<-z,B e j]at i;cases i
 have L:e.2.1≠a:=by rintro z;rw[<-z,B e j]at C;cases C
 have I:a≠p:=by rintro rfl;rw[C]at i;cases i
 refine⟨e.2.1,e.2.2,rfl,by rw[av O];exact B e j,T e j,u.map fun x=>if x.1=e.1 then(x.1,x.2.1,x.2.2++[c])else x,?_,?_,?_,?_,?_,?_,?_,?_,?_⟩
 ·rw[av (ab6 L),av I,C,M0];congr 2;refine S7 fun x _=>?_;simp only[ai6]
  split<;>rfl
 ·intro y n;obtain⟨x,g,rfl⟩:=M7.mp n
  by_cases z:x.1=e.1
  ·have H:x=e:=rM P g j z;subst H;rw[if_pos rfl];exact aA
  ·rw[if_neg z];have N:x.2.1≠e.2.1:=fun w=>z (by rw[rM S g j w]);have G:x.2.1≠p:=by rintro w;rw[<-w,B x g]at i;cases i
   rw[av N,av G];exact B x g
 ·intro y n;obtain⟨x,g,rfl⟩:=M7.mp n;have:=Q x g
  split<;>exact this
 ·have J:(u.map fun x=>if x.1=e.1 then(x.1,x.2.1,x.2.2++[c])else x).map (·.2.1)=u.map (·.2.1):=by
   rw[M0];refine S7 fun x _=>?_;simp only[ai6]
   split<;>rfl
  rw[J];exact S
 ·have J:(u.map fun x=>if x.1=e.1 then(x.1,x.2.1,x.2.2++[c])else x).map (·.1)=u.map (·.1):=by
   rw[M0];refine S7 fun x _=>?_;simp only[ai6]
   split<;>rfl
  rw[J];exact P
 ·intro z o E;have n1:z≠e.2.1:=by rintro rfl;rw[Q e j]at E;cases E
  have Z:z≠p:=by rintro rfl;rw[R _ o E]at i;cases i
  rw[av n1,av Z];exact R z o E
 ·simp;exact P9 (by assumption)
 ·intro y n;obtain⟨x,g,rfl⟩:=M7.mp n;have:=T x g
  split<;>simp<;>lia
 ·intro b' c';rw[L4,Y];constructor
  ·rintro(⟨x,g,rfl,m⟩|h)
   ·refine⟨_,M7.mpr ⟨x,g,rfl⟩,?_,?_⟩
    ·split<;>rfl
    ·split
     ·exact Q8 _ m
     ·exact m
   ·simp only[K2,as9]at h;obtain⟨rfl,rfl⟩:=h;refine⟨_,M7.mpr ⟨e,j,rfl⟩,?_,?_⟩
    ·rw[if_pos rfl]
    ·rw[if_pos rfl];simp
  ·rintro⟨y,n,rfl,m⟩;obtain⟨x,g,rfl⟩:=M7.mp n
   by_cases z:x.1=e.1
   ·rw[if_pos z]at m;rw[if_pos z];rcases L4.mp m with h|h
    ·exact .inl ⟨x,g,rfl,h⟩
    ·right;rw[K2.mp h,z];simp
   ·rw[if_neg z]at m;rw[if_neg z];exact .inl ⟨x,g,rfl,m⟩
theorem yN{M s:DH}{a:K1}{ps:List (Nat×Nat)}(ha:M a=none) (h:uh M a ps s) {b:Nat}{i:List (Key×D)}(N:s a=some (.dK i)) (B:cR i (.inl (b:Int))=none) (c:Nat) {p:K1}(j:s p=none) :
  uh M a (ps++[(b,c)]) (aN (aN (aN s p (.lst [])) a (.dK (je i (.inl (b:Int)) (.ref p)))) p (.lst [.int (c:Int)])):=by
 obtain⟨J,A,w,O,S,I,L,X,U,P⟩:=h;rw[A]at N;cases N;have G:a≠p:=by rintro rfl;rw[A]at j;cases j
 have T:∀e∈J,e.1≠b:=fun e g z=>by
  rw[<-z,sY (f:=fun e=>.ref e.2.1) I g]at B;cases B
 have n:M p=none:=L.none j;refine⟨J++[(b,p,[c])],?_,?_,?_,?_,?_,?_,?_,?_,?_⟩
 ·rw[av G,aA,O2];congr 2;unfold je;rw[ly,B];simp
 ·intro e g;rcases L4.mp g with h|h
  ·have q:e.2.1≠p:=by rintro z;rw[<-z,w e h]at j;cases j
   have C:e.2.1≠a:=by rintro z;rw[<-z,w e h]at A;cases A
   rw[av q,av C,av q];exact w e h
  ·rw[K2.mp h];exact aA
 ·intro e g;rcases L4.mp g with h|h
  ·exact O e h
  ·rw[K2.mp h];exact n
 ·rw[O2,ae5];refine⟨S,by simp,fun u E v H=>?_⟩;obtain⟨e,g,rfl⟩:=M7.mp E;obtain rfl:v=p:=by simpa using H
  rintro z;rw[<-z,w e g]at j;cases j
 ·rw[O2,ae5];refine⟨I,by simp,fun u E v H=>?_⟩;obtain⟨e,g,rfl⟩:=M7.mp E;obtain rfl:v=b:=by simpa using H
  exact T e g
 ·intro z o l;have q:z≠p:=by rintro rfl;rw[n]at l;cases l
  have C:z≠a:=by rintro rfl;rw[ha]at l;cases l
  rw[av q,av C,av q];exact L z o l
 ·simp;exact X
 ·intro e g;rcases L4.mp g with h|h
  ·have:=U e h;simp;exact P9 (by assumption)
  ·rw[K2.mp h];simp
 ·intro Z Y;rw[L4,P];constructor
  ·rintro(⟨x,Q,rfl,m⟩|h)
   ·exact⟨x,Q8 _ Q,rfl,m⟩
   ·simp only[K2,as9]at h;obtain⟨rfl,rfl⟩:=h;exact⟨_,N6 _ (.head _),rfl,by simp⟩
  ·rintro⟨y,R,rfl,m⟩;rcases L4.mp R with h|h
   ·exact .inl ⟨y,h,rfl,m⟩
   ·rw[K2.mp h]at m ⊢;right;simpa using m
def fj(w:P5):SpD:=fun f M R=>∃(a:K1) (e:List V->L5->Prop) (c:List (Nat×Nat)),f=[kT a e (c.map kP)]/\AR w a (c.map kP) e/\c.length<=100/\R (.bl (u9 c)) M
theorem jf(F:Fun K "are_all_linked" "are_all_linked" cM f I) (T:Txt B) :aR P w K B base CX0 1 f I ["there"] (spD K 1 (fj w)):=by
 have nd:=eF.nd;refine F.okR rfl eF (fun b2 A a4 s H E hr=>⟨_,(aj (aE (i:=1) nd rfl (P0 rfl) F5)
   (aj (cq P3 rfl (Fv (w:=w) (aa 0)) (ix rfl (bw (aJ (i:=2) nd rfl (P0 rfl)) (bw (aJ (i:=3) nd rfl (P0 rfl)) gU))) (ak (fM (kJ (AD (aa 1) (aa 2) (iL ag) ⟨rfl,rfl,rfl,rfl⟩) (aa 3)))))
   (IA 1 (aj (cq P3 rfl (Fv (w:=w) (aa 0)) (ix rfl (bw (aJ (i:=2) nd rfl (P0 rfl)) (bw (aJ (i:=3) nd rfl (P0 rfl)) gU))) (ak (cq P3 rfl (ba (CV hr.units1 (aa 1) (aa 3) (iw ag) ⟨rfl,rfl,rfl,rfl⟩)) (aJ (i:=4) nd rfl (P0 rfl)) (ak (aZ (Fw (w:=w) true rfl hr.units (aY (af (aa 2) (af (aa 4) ag))) (aa 0) rfl) (ak (ik eO)) aM)))))
   (ak (ik eO)))))),fun ds M R _ hS bk=>?_⟩)
 obtain⟨a,φ,g,rfl,Y,hl,k⟩:=hS;refine bk ?_;clear bk;walk_at "rd";refine fun p hp=>?_;refine⟨a,φ,g.map kP,rfl,Y,?_⟩;rw[Fy];refine aL (fun i m u=>∃U S:Option D,m=[some (kT a φ (g.map kP)),some (.ref p),U,S,none]/\uh M p (g.take i) u) ⟨none,none,rfl,[],aA,(fun _ h=>by cases h),(fun _ h=>by cases h),by simp,by simp,mW hp,by simp,(fun _ h=>by cases h),fun b c=>⟨fun h=>by simp at h,fun z158z=>by obtain⟨_,h,_⟩:=z158z;cases h⟩⟩ ?_ ?_
 ·rintro i d m u X N ⟨U,S,rfl,hE⟩ k';obtain⟨⟨b,c⟩,hy,rfl⟩:=fC N;have J:g.take (i+1)=g.take i++[(b,c)]:=by rw[X6,hy];rfl
  have hi:i<g.length:=(L6.mp hy).1;simp only[stD,iH,dB,c7,kz,al6];refine⟨_,rfl,?_⟩;walk_at "rd";have a6:=hE;obtain⟨Q,G,h2,h3,h4,h5,h6,h7,h8,h9⟩:=a6;have b1:(g.take i).length<=100:=by rw[R3];lia
  refine⟨_,G,sz3 0,fun p' C=>?_⟩;have a0:p≠p':=by rintro rfl;rw[G]at C;cases C
  refine⟨_,by rw[av a0];exact G,by rw[J0];exact K7 (by lia:Q.length<1000) (sz3 1000),fun d N=>?_,fun hn=>?_⟩
  ·obtain⟨q,l,rfl,hq,a5,a1⟩:=zr hp hE G N c C;refine⟨q,rfl,_,hq,_,hq,by rw[J0];exact K7 (by lia:l.length<1000) (sz3 1000),k' _ _ ⟨_,_,rfl,?_⟩⟩;rw[J];rw[O2]at a1;exact a1
  ·refine⟨_,av (ab6 a0) |>.trans aA,_,av (ab6 a0) |>.trans aA,K7 (by decide:0<1000) (sz3 1000),k' _ _ ⟨_,_,rfl,?_⟩⟩;rw[J];exact yN hp hE G hn c C
 ·rintro m u ⟨U,S,rfl,hE⟩;rw[J0,ad7]at hE;obtain⟨Q,G,h2,h3,h4,h5,h6,h7,h8,h9⟩:=hE;refine⟨p,Q.map fun e=>((.inl (e.1:Int):Key),e.2.1,e.2.2.map fun k:Nat=>D.int (k:Int)),rfl,by rw[G,M0];rfl,fun e n=>?_,?_⟩
  ·obtain⟨x,hx,rfl⟩:=M7.mp n;exact h2 x hx
  rw[M0,M0];obtain⟨M2,e2⟩:∃M2,M2=aN (lw u (Q.map ((fun e=>e.2.1)∘fun e:Nat×K1×List Nat=>((.inl (e.1:Int):Key),e.2.1,e.2.2.map fun k:Nat=>D.int (k:Int))))) p (.dK (Q.map (BI∘fun e:Nat×K1×List Nat=>((.inl (e.1:Int):Key),e.2.1,e.2.2.map fun k:Nat=>D.int (k:Int))))):=⟨_,rfl⟩;have hk:M2 p=some (.dK (Q.map fun e=>((.inl (e.1:Int):Key),D.lst (e.2.2.map fun k:Nat=>D.int (k:Int))))):=by rw[e2,aA];rfl
  have a2:LeM M M2:=by
   intro z o hz;have n1:z≠p:=by rintro rfl;rw[hp]at hz;cases hz
   rw[e2,av n1,qo (fun hm=>by
    obtain⟨x,hx,rfl⟩:=M7.mp hm;have:=h3 x hx;simp only[ai6]at hz;rw[this]at hz;cases hz)]
   exact h6 z o hz
  rw[<-e2];clear e2;walk_at "rd";refine⟨a,φ,g.map kP,rfl,Y,?_⟩;rw[Fy];refine aL (fun i m u=>∃U S Z:Option D,m=[some (kT a φ (g.map kP)),some (.ref p),U,S,Z]/\u=M2/\∀b c d,(b,c)∈g.take i->(c,d)∈g->(b,d)∈g) ⟨_,_,_,rfl,rfl,fun b c d h=>by simp at h⟩ ?_ ?_
  ·rintro i d m u X N ⟨U,S,Z,rfl,rfl,hI⟩ k';obtain⟨⟨b,c⟩,hy,rfl⟩:=fC N;have J:g.take (i+1)=g.take i++[(b,c)]:=by rw[X6,hy];rfl
   have b0:(b,c)∈g:=O5 hy;simp only[stD,iH,dB,c7,kz,al6];refine⟨_,rfl,?_⟩;walk_at "rd";obtain⟨l,hv,hm,a5⟩:∃l:List Nat,(cR (Q.map fun e=>((.inl (e.1:Int):Key),D.lst (e.2.2.map fun k:Nat=>D.int (k:Int)))) (.inl (c:Int))).getD (.lst [])=.lst (l.map fun k:Nat=>D.int (k:Int))/\(∀d,d∈l↔(c,d)∈g)/\l.length<=100:=by
    cases q:cR (Q.map fun e=>((.inl (e.1:Int):Key),D.lst (e.2.2.map fun k:Nat=>D.int (k:Int)))) (.inl (c:Int))with
    |none =>
     refine⟨[],rfl,fun d=>⟨(fun h=>by cases h),fun h=>?_⟩,by simp⟩;obtain⟨e,n,rfl,_⟩:=(h9 c d).mp h;rw[sY (f:=fun e=>D.lst (e.2.2.map fun k:Nat=>D.int (k:Int))) h5 n]at q;cases q
    |some z =>
     obtain⟨e,n,rfl,rfl⟩:=jn (f:=fun e=>D.lst (e.2.2.map fun k:Nat=>D.int (k:Int))) q;refine⟨e.2.2,rfl,fun d=>⟨fun h=>(h9 _ d).mpr ⟨e,n,rfl,h⟩,fun h=>?_⟩,by have:=h8 e n;exact K4 (by assumption) (by assumption)⟩;obtain⟨x,hx,a',a9⟩:=(h9 _ d).mp h;have:x=e:=rM h5 hx n a';subst this;exact a9
   refine⟨_,hk,sz3 0,_,hk,?_⟩;rw[hv];refine⟨_,rfl,fun _=>?_⟩;refine aL (fun j m M3=>∃Z:Option D,m=[some (kT a φ (g.map kP)),some (.ref p),some (.int (b:Int)),some (.int (c:Int)),Z]/\M3=u/\∀d∈l.take j,(b,d)∈g) ⟨_,rfl,rfl,fun d h=>by simp at h⟩ ?_ ?_
   ·rintro j d m M3 X2 a7 ⟨Z,rfl,rfl,hJ⟩ k2;obtain⟨e,n,rfl⟩:=fC a7;have a8:l.take (j+1)=l.take j++[e]:=by rw[X6,n];rfl
    refine⟨_,rfl,?_⟩;walk_at "rd";refine⟨sz3 2,a,φ,g.map kP,rfl,Y,kP (b,e),rfl,dpN _,by rw[J0];lia,?_⟩;rw[inP]
    by_cases h:(b,e)∈g
    ·rw[decide_eq_true h,if_neg (by simp)];refine k2 _ _ ⟨_,rfl,rfl,fun d N=>?_⟩;rw[a8]at N;rcases L4.mp N with L|L
     ·exact hJ d L
     ·rw[K2.mp L];exact h
    ·rw[decide_eq_false h,if_pos (by simp)];refine⟨M,a2,?_⟩;have hf:u9 g=false:=by
      cases q:u9 g with
      |false=>rfl
      |true=>exact(h (lE.mp q b c e b0 ((hm e).mp (O5 n)))).elim
     rw[hf]at k;exact k
   ·rintro m M3 ⟨Z,rfl,rfl,hJ⟩;rw[J0,ad7]at hJ;refine k' _ _ ⟨_,_,_,rfl,rfl,fun b' c' d O a3=>?_⟩;rw[J]at O;rcases L4.mp O with L|L
    ·exact hI b' c' d L a3
    ·simp only[K2,as9]at L;obtain⟨rfl,rfl⟩:=L;exact hJ d ((hm d).mpr a3)
  ·rintro m u ⟨U,S,Z,rfl,rfl,hI⟩;walk_at "rd";refine⟨M,a2,?_⟩;rw[J0,ad7]at hI;rw[lE.mpr (fun a b c G h2=>hI a b c G h2)]at k;exact k
noncomputable def ltN(x y:Nat×Nat):Bool:=decide (x.1<y.1∨(x.1=y.1/\x.2<y.2))
noncomputable def lI:List (Nat×Nat)->Bool
 |x::y::r=>ltN x y&&lI (y::r)
 |_=>true
theorem yK{x y z:Nat×Nat}(c:ltN x y=true) (a:ltN y z=true):ltN x z=true:=by
 simp only[ltN,decide_eq_true_eq]at *;lia
theorem k9:∀{ps:List (Nat×Nat)},lI ps=true↔ps.Pairwise fun x y=>ltN x y=true
 |[]=>by simp[lI]
 |[x]=>by simp[lI]
 |x::y::r=>by
  simp only[lI,O1];rw[k9 (ps:=y::r)];refine⟨fun⟨h,t⟩=>aj0.mpr ⟨fun z a=>?_,t⟩,fun t=>⟨(aj0.mp t).1 y (.head _),(aj0.mp t).2⟩⟩;rcases L1.mp a with rfl|a
  ·exact h
  ·exact yK h ((aj0.mp t).1 z a)
theorem rh{ps:List (Nat×Nat)}(h:lI ps=true):ps.Nodup:=(k9.mp h).imp fun {a b} h e=>by
 subst e;simp only[ltN,decide_eq_true_eq]at h;lia
theorem wB:∀{ps:List (Nat×Nat)},((ps.zip (ps.drop 1)).all fun p=>ltN p.1 p.2)=lI ps
 |[]=>rfl
 |[x]=>rfl
 |x::y::r=>by
  have ih:=wB (ps:=y::r);simp only[List.drop_succ_cons,List.drop_zero,List.zip_cons_cons,ah7,lI]at ih ⊢;rw[ih]
def tO:SpD:=fun c M R=>∃a:List (Nat×Nat),c=[.tup (a.map stD)]/\a.length<=100/\R (.bl (lI a)) M
theorem ym(F:Fun K "rise" "rise" lC f I) (T:Txt B) :aR P w K B base CX0 1 f I ["pairs"] (spD K 1 tO):=by
 have G:=pU.nd;refine F.okR rfl pU (fun l A g s H E o=>⟨_,(ak (aB (az (j9 rfl) rfl T.b_all (by kernel_rfl) (af (eI (ms:=[false]) (aq:=["one","other"]) (aC (n0:=0) rfl (show aP (ai lC) k7 _ _=true from by decide +kernel)) rfl (Gi rfl T.b_zip (af (aa 0) (af (bu (aa 0) (br ah) da) ag))) (j0 (n:=2) rfl (bZ (aH (i:=1) (show(k7++_).Nodup from by decide +kernel) rfl rfl) (bZ (aH (i:=2) (show(k7++_).Nodup from by decide +kernel) rfl rfl) jU))) (fun _ _ _ _=>bP) (fun _ _ _ _=>(cC (Hf o.units) (aa 1) (aa 2) nbh))) ag)))),fun N M R _ u bk=>?_⟩);obtain⟨a,rfl,m,k⟩:=u;refine bk ?_;clear bk;walk_at "rd";refine⟨_,_,⟨rfl,rfl⟩,_,_,_,rfl,_,rfl,?_⟩;rw[show L2.cj (a.map stD) (some 1) none=(a.map stD).drop 1 from gj (n:=1),<-ap1];have z:lg (a.map stD) ((a.drop 1).map stD)=(a.zip (a.drop 1)).map fun p=>D.tup [stD p.1,stD p.2]:=by
  generalize a.drop 1=h;clear k m
  induction a generalizing h with
  |nil=>rfl
  |cons x a ih =>
   cases h with
   |nil=>rfl
   |cons y h=>simp only[L7,lg,List.zip_cons_cons,ih]
 rw[z];refine⟨by rw[J0,List.length_zip];exact sz3 _ (by lia),aX (fun p:(Nat×Nat)×(Nat×Nat)=>D.tup [stD p.1,stD p.2]) (fun _=>true) (fun p=>D.bl (ltN p.1 p.2)) (fun j=>∃x y,j=[none,x,y]) _ _ _ (fun p L j c=>?_) ⟨none,none,rfl⟩ ?_⟩
 ·obtain⟨x,y,rfl⟩:=c;refine⟨_,rfl,⟨_,_,rfl⟩,fun J q=>q,fun _ C q=>?_⟩;walk_at "rd";refine⟨_,FI,?_⟩;have e:decide ((p.1.1:Int)<p.2.1∨((p.1.1:Int)=p.2.1/\(p.1.2:Int)<p.2.2))=ltN p.1 p.2:=by
   unfold ltN;rw[S8,decide_eq_true_eq,decide_eq_true_eq];lia
  rw[e];exact q
 ·rw[O8,Q4.mpr (fun _ _=>rfl)];have e:((a.zip (a.drop 1)).map fun p=>D.bl (ltN p.1 p.2))=((a.zip (a.drop 1)).map fun p=>ltN p.1 p.2).map D.bl:=by rw[M0];rfl
  rw[e];refine⟨_,cZ,?_⟩;rw[W1];rw[<-wB]at k;exact k
def arn(o:List (Str×Str)) (row:List (Str×Int)) (x:Nat×Nat):Option (Nat×Nat):=if 0<x.1/\x.2<row.length/\cB o (sg row (x.1-1)) (sg row x.2)=true then some (x.1-1,x.2+1)else none
noncomputable def oN:Option (Nat×Nat)->D
 |none=>.non
 |some x=>stD x
structure C3(C:K1) (M:DH) (g:K1) (row:List (Str×Int)) (asked barred:List D):Prop where
 ex:∃p q,M g=some (.ins C (grF asked barred p q))/\M p=some (.dK (lJ row row.length))/\M q=some (.dK (lL row row.length))
def gL(C:K1):SpD:=fun e M R=>∃(o:List (Str×Str)) (g:K1) (c:List (Str×Int)) (a b:List D) (x:Nat×Nat),e=[.tup (o.map aw),.ref g,stD x]/\o.length<=500/\C3 C M g c a b/\x.1<=c.length/\x.2<=c.length/\R (oN (arn o c x)) M
theorem lK(F:Fun K "pair_around" "pair_around" dZ f I) (T:Txt B) {C:K1} (Z:iG K C) (G:FnD P w K B base "cancel" 4 3 gF):aR P w K B base CX0 5 f I ["order","ground","pair"] (spD K 3 (gL C)):=by
 have j:=gb.nd;refine F.okR rfl gb (fun N A u s H E m=>⟨_,(aj (uf (aa 2) (ix rfl (bw (aJ (i:=3) j rfl (P0 rfl)) (bw (aJ (i:=4) j rfl (P0 rfl)) gU))))
   (aj (aZ (gB (gV (AH true rfl m.units1 (aa 3) (mm Z.c Z.n_ahead (aa 1)) rfl) (fI (AH true rfl m.units1 (aa 4) (mm Z.c Z.n_behind (aa 1)) rfl)))) (ak (aB wx)) aM)
   (aj (uf (zF m.units1 (mm Z.c Z.n_ahead (aa 1)) (aa 3) (fun _ _=>rfl)) (ix rfl (bw (aJ (i:=5) j rfl (P0 rfl)) (bw (aJ (i:=6) j rfl (P0 rfl)) gU))))
   (aj (uf (zF m.units1 (mm Z.c Z.n_behind (aa 1)) (aa 4) (fun _ _=>rfl)) (ix rfl (bw (aJ (i:=7) j rfl (P0 rfl)) (bw (aJ (i:=8) j rfl (P0 rfl)) gU))))
   (ak (aB (HJ (bQ (qd G m (af (aa 0) (af (aa 5) (af (aa 7) ag))))) (aY (af (aa 6) (af (aa 8) ag))) wx))))))),fun ds M R _ hS bk=>?_⟩)
 obtain⟨o,g,c,a,b,⟨x,y⟩,rfl,Y,O,S,X,k⟩:=hS;obtain⟨p,q,n,L,J⟩:=O.ex;refine bk ?_;clear bk;simp only[stD];walk_at "rd";refine⟨_,rfl,_,rfl,_,rfl,g,rfl,_,n,_,rfl,p,rfl,_,L,.inl (x:Int),rfl,?_⟩;have l:(x=0∨¬ y<c.length)->arn o c (x,y)=none:=fun h=>if_neg (by rintro⟨U,Q,_⟩;simp only at U Q;lia);cases x with
 |zero =>
  rw[tU (.inl rfl)];rw[l (.inl rfl)]at k;rw[if_pos (by simp)];exact k
 |succ x =>
  simp only at S X;rw[ub (by assumption),if_neg (by simp)];refine⟨_,rfl,_,rfl,g,rfl,_,n,_,rfl,q,rfl,_,J,.inl (y:Int),rfl,?_⟩
  by_cases e:y<c.length
  ·rw[tQ e,if_neg (by simp)];simp only[List.set_cons_zero,List.set_cons_succ];refine⟨_,rfl,g,rfl,_,n,_,rfl,_,rfl,_,v4 L,.inl ((x+1:Nat):Int),rfl,_,ub (by assumption),_,rfl,_,rfl,g,rfl,_,n,_,rfl,_,rfl,_,v4 J,.inl (y:Int),rfl,_,tQ e,_,rfl,?_⟩;simp only[List.set_cons_zero,List.set_cons_succ];walk_at "rd";refine sN.mpr ⟨Y,_,rfl,aW (fun z=>⟨sz3 2,?_⟩) (fun z=>?_)⟩
   ·rw[show arn o c (x+1,y)=some (x,y+1)from if_pos ⟨by simp,e,z⟩]at k;exact k
   ·rw[show arn o c (x+1,y)=none from if_neg fun h=>z h.2.2]at k;exact k
  ·rw[sR e];rw[l (.inr e)]at k;rw[if_pos (by simp)];exact k
def E1(o:List (Str×Str)) (row:List (Str×Int)) (ps:List (Nat×Nat)):Bool:=ps.all fun x=>match arn o row x with|none=>true|some y=>decide (y∈ps)
def eV(w:P5) (C:K1):SpD:=fun h M R=>∃(o:List (Str×Str)) (g:K1) (c:List (Str×Int)) (i bs:List D) (a:K1) (f:List V->L5->Prop) (e:List (Nat×Nat)),h=[.tup (o.map aw),.ref g,kT a f (e.map kP)]/\o.length<=500/\C3 C M g c i bs/\AR w a (e.map kP) f/\e.length<=100/\(∀x∈e,x.1<=x.2/\x.2<=c.length)/\R (.bl (E1 o c e)) M
theorem jd(F:Fun K "are_all_around" "are_all_around" bv f I) (T:Txt B) {C:K1} (p:FnD P w K B base "pair_around" 5 3 (gL C)):aR P w K B base CX0 6 f I ["order","ground","there"] (spD K 3 (eV w C)):=by
 have U:=eA.nd;refine F.okR rfl eA (fun Q A u s H E O=>⟨_,(aj (CM (i:=3) U rfl rfl rfl (ms:=[true,true,false,false]) (aq:=["pair"]) (aC rfl (show aP (ai bv) bx _ _=true from by decide +kernel)) rfl (Fv (w:=w) (aa 2)) (aH (i:=4) (show(bx++_).Nodup from by decide +kernel) rfl rfl) (fun _ _ _ _=>bP) (fun _ _ _ _=>(qd p O (af (aa 0) (af (aa 1) (af (aa 4) ag))))))
   (ak (aB (az (j9 rfl) rfl T.b_all (by kernel_rfl) (af (eI (ms:=[false,false,true,false]) (aq:=["pair"]) (aC rfl (show aP (ai bv) bx _ _=true from by decide +kernel)) rfl (ba (aa 3)) (aH (i:=4) (show(bx++_).Nodup from by decide +kernel) rfl rfl) (fun _ _ _ _=>bP) (fun _ _ _ _=>(Jx (cC Je (aa 4) wx nbh) (cf (zM (w:=w) false rfl O.units (aa 4) (aa 2) rfl))))) ag))))),fun ds M R _ hS bk=>?_⟩)
 obtain⟨o,g,c,Z,bs,a,J,j,rfl,ho,Y,n,hl,G,k⟩:=hS;refine bk ?_;clear bk;walk_at "rd";refine⟨a,J,j.map kP,rfl,n,?_⟩;rw[Fy];refine⟨by rw[J0];exact sz3 _ (by exact K4 (by assumption) (by decide)),aX stD (fun _=>true) (fun x=>oN (arn o c x)) (fun m=>∃x,m=[some (.tup (o.map aw)),some (.ref g),none,none,x]) j _ _ (fun x L m l=>?_) ⟨none,rfl⟩ ?_⟩
 ·obtain⟨z,rfl⟩:=l;refine⟨_,rfl,⟨_,rfl⟩,fun X q=>q,fun _ S q=>?_⟩;walk_at "rd";have:=G x L;exact⟨o,g,c,Z,bs,x,rfl,ho,Y,by lia,by lia,q⟩
 rw[O8,Q4.mpr (fun _ _=>rfl)];intro _;refine⟨by rw[J0];exact sz3 _ (by exact K4 (by assumption) (by decide)),aX (fun x=>oN (arn o c x)) (fun _=>true) (fun x=>D.bl (match arn o c x with|none=>true|some y=>decide (y∈j))) (fun m=>∃x,m=[none,none,some (kT a J (j.map kP)),none,x]) j _ _ (fun x L m l=>?_) ⟨none,rfl⟩ ?_⟩
 ·obtain⟨z,rfl⟩:=l;refine⟨_,rfl,⟨_,rfl⟩,fun X q=>q,fun _ S q=>?_⟩;walk_at "rd";cases N:arn o c x with
  |none =>
   rw[N]at q;exact aW (fun _=>q) (fun h=>(h rfl).elim)
  |some y =>
   rw[N]at q;refine aW (fun h=>by cases h) (fun _=>⟨a,J,j.map kP,rfl,n,kP y,rfl,dpN _,by rw[J0];lia,?_⟩);rw[inP,S5];exact q
 rw[O8,Q4.mpr (fun _ _=>rfl)];have e:(j.map fun x=>D.bl (match arn o c x with|none=>true|some y=>decide (y∈j)))=(j.map fun x=>match arn o c x with|none=>true|some y=>decide (y∈j)).map D.bl:=by rw[M0];rfl
 rw[e];refine⟨_,cZ,?_⟩;rw[W1];exact k
noncomputable def Be(n:Nat):List D:=(N5 (n+1)).map fun i=>stD (i,i)
noncomputable def Cv(n:Nat):List D:=[stD (0,n)]
def qW(o:List (Str×Str)) (row:List (Str×Int)) (ps:List (Nat×Nat)):Prop :=
 lI ps=true/\(∀i,i<=row.length->(i,i)∈ps)/\(0,row.length)∉ps/\(∀x∈ps,∀y,arn o row x=some y->y∈ps)/\∀a b c,(a,b)∈ps->(b,c)∈ps->(a,c)∈ps
open Classical in
def n6(o:List (Str×Str)) (row:List (Str×Int)) (ps:List (Nat×Nat)):Bool:=decide (qW o row ps)
theorem uE{o:List (Str×Str)}{row:List (Str×Int)}{ps:List (Nat×Nat)}:E1 o row ps=true↔∀x∈ps,∀y,arn o row x=some y->y∈ps:=by
 unfold E1;rw[R8];refine⟨fun h x a y c=>?_,fun h x a=>?_⟩
 ·have:=h x a;rw[c]at this;simpa using this
 ·cases e:arn o row x with
  |none=>rfl
  |some y=>simpa using h x a y e
theorem wI{m:Type}{w:P5}{p:K1}{g:GD}{tk tv:TEd}{M:DH}{Q:DH->Prop}(i:m->D) (row:m->List KD) (Ok:DE->Prop):∀(xs:List m) (f:DE) (a:List (List KD)),
  (∀x∈xs,∀ f,Ok f->∃ c,g (i x) f=some c/\Ok c/\(∀M2 (j:D->DH->Prop),j (eM (row x)) M2->tk c M2 j)/\(∀M2 (j:D->DH->Prop),j (.bl true) M2->tv c M2 j))->(∀x∈xs,dpK 8 (.tup (row x)))->a.length+xs.length<1000000->Ok f ->
  Q (aN M p (dRw w p ((xs.map row).foldl aS a)))->jF w g tk tv p (xs.map i) f (aN M p (dRw w p a)) Q
 |[],f,a,_,_,_,_,q=>by simpa[jF]using q
 |x::xs,f,a,h,s,u,n,q=>by
  rw[L7];simp only[jF];obtain⟨c,e,l,B,A⟩:=h x (.head _) f n;refine⟨c,e,B _ _ (A _ _ ⟨a,row x,rfl,rfl,aA,s x (.head _),by simp at u;lia,?_⟩)⟩;rw[n9];refine wI i row Ok xs c (aS a (row x)) (fun z o=>h z (.tail _ o)) (fun z o=>s z (.tail _ o)) ?_ l q;have:(aS a (row x)).length<=a.length+1:=by
   unfold aS;split<;>simp
  simp at u;lia
theorem CD{bs:List Bool}:Dc (.lst (bs.map D.bl))=some (.bl (bs.any id)):=by
 have c:(bs.map D.bl).all vj=true:=by rw[W1,R8];intro _ _;rfl
 have a:(bs.map D.bl).any qR=bs.any id:=by rw[List.any_map];rfl
 simp only[Dc,c,a,if_true]
theorem wH:∀{ps:List (Nat×Nat)},ps.Nodup->(ps.map kP).Nodup
 |[],_=>by simp
 |x::ps,h=>by
  rw[aa4]at h;rw[L7,aa4];exact⟨fun z=>h.1 (Bw.mp z),wH h.2⟩
def js(C:K1):SpD:=fun e M R=>∃(o:List (Str×Str)) (g:K1) (a:List (Str×Int)) (c:List (Nat×Nat)),e=[.tup (o.map aw),.ref g,.tup (c.map stD)]/\o.length<=500/\C3 C M g a (Be a.length) (Cv a.length)/\a.length<=100/\c.length<=100/\(∀x∈c,x.1<=x.2/\x.2<=a.length)/\R (.bl (n6 o a c)) M
theorem oT(F:Fun K "is_closed" "is_closed" bX f I) (T:Txt B) {C:K1} (Z:iG K C) (a2:FnD P w K B base "rise" 1 1 tO) (Y:FnD P w K B base "are_all_around" 6 3 (eV w C)) (a0:FnD P w K B base "are_all_linked" 1 1 (fj w)):aR P w K B base CX0 7 f I ["order","ground","pairs"] (spD K 3 (js C)):=by
 have nd:=iR.nd;refine F.okR rfl iR (fun a5 A a1 s H E m=>⟨_,(aj (aE (i:=3) nd rfl (at1 rfl) (Fn (w:=w) (ms:=[false,false,false,false]) (aq:=["pair"]) m.units (aC rfl (show aP (ai bX) bI _ _=true from by decide +kernel)) rfl (ba (aa 2)) (aH (i:=4) (show(bI++_).Nodup from by decide +kernel) rfl rfl) (fun _ _ _ _=>(aa 4)) (fun _ _ _ _=>eO)))
   (HQ (w:=w) 3 (ak (aB (bh (qd a2 m (af (aa 2) ag)) (bh (az (j9 rfl) rfl T.b_all (by kernel_rfl) (af (eI (ms:=[false,false,false,true]) (aq:=["pair"]) (aC rfl (show aP (ai bX) bI _ _=true from by decide +kernel)) rfl (ba (mm Z.c Z.n_asked (aa 1))) (aH (i:=4) (show(bI++_).Nodup from by decide +kernel) rfl rfl) (fun _ _ _ _=>bP) (fun _ _ _ _=>(zM (w:=w) false rfl m.units (aa 4) (aa 3) rfl))) ag)) (bh (yT (az (IF rfl) rfl T.b_any (by kernel_rfl) (af (eI (ms:=[false,false,false,true]) (aq:=["pair"]) (aC rfl (show aP (ai bX) bI _ _=true from by decide +kernel)) rfl (ba (mm Z.c Z.n_barred (aa 1))) (aH (i:=4) (show(bI++_).Nodup from by decide +kernel) rfl rfl) (fun _ _ _ _=>bP) (fun _ _ _ _=>(zM (w:=w) false rfl m.units (aa 4) (aa 3) rfl))) ag))) (bh (qd Y m (af (aa 0) (af (aa 1) (af (aa 3) ag)))) (cf (qd a0 m (af (aa 3) ag))))))))))),fun ds M R _ hS bk=>?_⟩)
 obtain⟨o,g,c,a,rfl,ho,hG,a3,Q,S,k⟩:=hS;refine bk ?_;clear bk;have no:¬ qW o c a->R (.bl false) M:=fun h=>by
  have e:n6 o c a=false:=by unfold n6;exact @decide_eq_false _ (ae2 _) h
  rw[e]at k;exact k
 walk_at "rd";intro hz p hp;refine wI stD kP (fun n=>∃x,n=[none,none,none,none,x]) a _ [] (fun x hx n l=>?_) (fun x _=>dpN x) (by simp;lia) ⟨none,rfl⟩ ?_
 ·obtain⟨z,rfl⟩:=l;refine⟨_,rfl,⟨_,rfl⟩,fun M2 N q=>?_,fun M2 N q=>?_⟩
  ·walk_at "rd";exact q
  ·walk_at "rd";exact q
 refine⟨_,aA,fun u j=>?_⟩;rw[iD hp];refine⟨a,rfl,Q,_,rfl,?_⟩;refine aW (fun m=>?_) (fun m=>no fun h=>m h.1);have X:(a.map kP).Nodup:=wH (rh m);have ek:(a.map kP).foldl aS []=a.map kP:=mf X;rw[ek]at j ⊢;obtain⟨pp,qq,hg,a6,a4⟩:=hG.ex;refine⟨_,hg,_,rfl,_,rfl,fun _=>⟨by rw[Be,J0,V2];exact sz3 _ (by lia),?_⟩⟩;refine aX (fun i=>stD (i,i)) (fun _=>true) (fun i=>D.bl (decide ((i,i)∈a))) (fun n=>∃x,n=[none,none,none,some (kT p u (a.map kP)),x]) _ _ _ (fun i J n l=>?_) ⟨none,rfl⟩ ?_
 ·obtain⟨z,rfl⟩:=l;refine⟨_,rfl,⟨_,rfl⟩,fun Q1 q=>q,fun _ N q=>?_⟩;walk_at "rd";refine⟨p,u,a.map kP,rfl,j,kP (i,i),rfl,dpN _,by rw[J0];lia,?_⟩;rw[inP,S5];exact q
 rw[O8,Q4.mpr (fun _ _=>rfl)];have e1:((N5 (c.length+1)).map fun i=>D.bl (decide ((i,i)∈a)))=((N5 (c.length+1)).map fun i=>decide ((i,i)∈a)).map D.bl:=by rw[M0];rfl
 rw[e1];refine⟨_,cZ,_,rfl,aW (fun L=>?_) (fun L=>no fun h=>L ?_)⟩
 rotate_left
 ·rw[W1,R8];intro i J;have:=h.2.1 i (by have:=P6.mp J;lia);simpa using this
 have U:∀i,i<=c.length->(i,i)∈a:=fun i J=>by
  rw[W1,R8]at L;have:=L i (P6.mpr (by lia));simpa using this
 refine⟨_,hg,_,rfl,_,rfl,fun _=>⟨sz3 1,?_⟩⟩;refine aX stD (fun _=>true) (fun x=>D.bl (decide (x∈a))) (fun n=>∃x,n=[none,none,none,some (kT p u (a.map kP)),x]) [(0,c.length)] _ _ (fun i J n l=>?_) ⟨none,rfl⟩ ?_
 ·obtain⟨z,rfl⟩:=l;refine⟨_,rfl,⟨_,rfl⟩,fun Q1 q=>q,fun _ N q=>?_⟩;walk_at "rd";refine⟨p,u,a.map kP,rfl,j,kP i,rfl,dpN _,by rw[J0];lia,?_⟩;rw[inP,S5];exact q
 rw[O8,Q4.mpr (fun _ _=>rfl)];refine⟨_,CD (bs:=[decide ((0,c.length)∈a)]),_,rfl,aW (fun O=>?_) (fun O=>no fun h=>O (by simpa using h.2.2.1))⟩;refine⟨o,g,c,_,_,p,u,a,rfl,ho,hG,j,Q,S,_,rfl,aW (fun h3=>?_) (fun h3=>no fun h=>h3 (uE.mpr h.2.2.2.1))⟩;refine⟨p,u,a,rfl,j,Q,?_⟩
 by_cases G:u9 a=true
 ·have e:n6 o c a=true:=by unfold n6;exact @decide_eq_true _ (ae2 _) ⟨m,U,by simpa using O,uE.mp h3,lE.mp G⟩
  rw[e]at k;rw[G];exact k
 ·rw[show u9 a=false by simpa using G];exact no fun h=>G (lE.mpr h.2.2.2.2)
def lj(C:K1):SpD:=fun e M R=>∃(g:K1) (c:List (Str×Int)) (n:Nat) (a b:List D) (p q:K1),e=[.ref g,ao (sg c n),.int (n:Int),.int ((n+1:Nat):Int)]/\n<=100/\p≠q/\M g=some (.ins C (grF a b p q))/\M p=some (.dK (lJ c n))/\M q=some (.dK (lL c n))/\R .non (aN (aN M q (.dK (lL c (n+1)))) p (.dK (lJ c (n+1))))
theorem pq(F:Fun K "put_sign" "put_sign" gn f I) (T:Txt B) {C:K1} (Z:iG K C) :aR P w K B base CX0 1 f I ["ground","sign","place","onward"] (spD K 4 (lj C)):=by
 have J:=jt.nd;refine F.okR rfl jt (fun o A h s H E m=>⟨_,(aj (yX m.units1 (mm Z.c Z.n_behind (aa 0)) (aa 2) (aY (af (aa 1) (af (aa 3) ag))))
   (ak (yX m.units1 (mm Z.c Z.n_ahead (aa 0)) (aa 3) (aY (af (aa 1) (af (aa 2) ag)))))),fun L M R _ z bk=>?_⟩)
 obtain⟨g,c,n,a,b,p,q,rfl,N,j,e,u,i,k⟩:=z;refine bk ?_;clear bk;have l:g≠q:=by rintro rfl;rw[e]at i;cases i
 have G:(lL c n).length<K0:=by unfold lL;rw[J0,V2];exact K7 (by lia:n<1000) (sz3 1000)
 have x:(lJ c n).length<K0:=by unfold lJ;rw[J0,V2];exact K7 (by lia:n<1000) (sz3 1000)
 walk_at "rd";refine⟨sz3 2,_,e,_,rfl,q,rfl,_,i,G,sz3 2,_,(av l).trans e,_,rfl,p,rfl,_,(av j).trans u,x,?_⟩;rw[Bj,Ae];exact k
def fw(C:K1):SpD:=fun e M R=>∃a:List (Str×Int),e=[.tup (a.map ao)]/\a.length<=100/\∀g c,C3 C c g a (Be a.length) (Cv a.length)->LeM M c->R (.ref g) c
theorem jC(F:Fun K "ground_of_row" "ground_of_row" bY f I) (T:Txt B) {C:K1} (S:MkD P w K B base "Ground" C 1 3 (jL C)) (a0:FnD P w K B base "put_sign" 1 4 (lj C)):aR P w K B base CX0 3 f I ["row"] (spD K 1 (fw C)):=by
 have U:=eY.nd;refine F.okR rfl eY (fun a3 A a2 s H E hr=>⟨_,(aj (aE (i:=2) U rfl (P0 rfl) (Fc S (hr.mono (by decide)) rfl (af (eI (ms:=[false,false,false,false]) (aq:=[]) (aC (n0:=0) rfl (show aP (ai bY) cY _ _=true from by decide +kernel)) rfl (dG rfl T.b_range (af (ay aG (az bR rfl T.b_len (by kernel_rfl) (af (aa 0) ag)) ah) ag)) (aH (i:=1) (show(cY++_).Nodup from by decide +kernel) rfl rfl) (fun _ _ _ _=>bP) (fun _ _ _ _=>(aY (af (aa 1) (af (aa 1) ag))))) (af (iw (af (aY (af ah (af (az bR rfl T.b_len (by kernel_rfl) (af (aa 0) ag)) ag))) ag)) ag))))
   (aj (cq P3 rfl (DF rfl T.b_enumerate (af (aa 0) ag)) (ix rfl (bw (aJ (i:=1) U rfl (P0 rfl)) (bw (aJ (i:=3) U rfl (P0 rfl)) gU))) (ak (fM (qd a0 hr (af (aa 2) (af (aa 3) (af (aa 1) (af (ay aG (aa 1) ah) ag))))))))
   (ak (aB (aa 2))))),fun ds M R _ hS bk=>?_⟩)
 obtain⟨a,rfl,hl,k⟩:=hS;refine bk ?_;clear bk;walk_at "rd";rw[J0];have en:((a.length:Int)+1).toNat=a.length+1:=by lia
 rw[en];refine⟨by lia,by lia,by rw[bM];exact sz3 _ (by lia),?_⟩;have er:oO 0 (a.length+1)=(N5 (a.length+1)).map fun(k:Nat)=>D.int (0+(k:Int)):=rfl;rw[er];refine aX (fun(k:Nat)=>D.int (0+(k:Int))) (fun _=>true) (fun i=>stD (i,i)) (fun m=>∃x,m=[none,x,none,none]) _ _ _ (fun i Z m a1=>?_) ⟨none,rfl⟩ ?_
 ·obtain⟨z,rfl⟩:=a1;refine⟨_,rfl,⟨_,rfl⟩,fun Q1 q=>q,fun _ Q2 q=>?_⟩;walk_at "rd";rw[Int.zero_add];exact⟨sz3 2,q⟩
 rw[O8,Q4.mpr (fun _ _=>rfl)];refine⟨sz3 2,sz3 1,fun g n=>⟨g,Be a.length,Cv a.length,rfl,aA,fun p q M' h1 h2 h3 h4 N L h7=>⟨rfl,fun hz=>?_⟩⟩⟩;have G:p≠g:=by rintro rfl;rw[aA]at N;cases N
 have u:q≠g:=by rintro rfl;rw[aA]at L;cases L
 rw[av G]at N;rw[av u]at L;refine aL (fun i m M2=>∃x1 Y:Option D,m=[some (.tup (a.map ao)),x1,some (.ref g),Y]/\M2 g=some (.ins C (grF (Be a.length) (Cv a.length) p q))/\M2 p=some (.dK (lJ a i))/\M2 q=some (.dK (lL a i))/\LeM M M2) ⟨_,_,rfl,h1,h2,h3,fun c o e=>h7 c o (by rintro rfl;rw[n]at e;cases e) (by rw[av (by rintro rfl;rw[n]at e;cases e)];exact e)⟩ ?_ ?_
 ·rintro i d m M2 X l ⟨x1,Y,rfl,Q,J,O,j⟩ k';rw[oS,N9]at l;obtain⟨Z,hs⟩:∃h:i<a.length,d=.tup [.int (i:Int),ao (sg a i)]:=by
   cases q:a[i]? with
   |none=>rw[q]at l;cases l
   |some x =>
    have Z:i<a.length:=(L6.mp q).1;rw[q]at l;simp only[aq0,ab8,Nat.zero_add]at l;refine⟨Z,?_⟩;rw[<-l];have:sg a i=x:=by
     unfold sg;rw[Q3,q];rfl
    rw[this]
  subst hs;refine⟨_,rfl,?_⟩;walk_at "rd";refine⟨g,a,i,_,_,p,q,rfl,by lia,h4,Q,J,O,k' _ _ ⟨_,_,rfl,?_,aA,(av (ab6 h4)).trans aA,?_⟩⟩
  ·rw[av (ab6 G),av (ab6 u)];exact Q
  ·intro c o e;have n1:c≠p:=by rintro rfl;rw[N]at e;cases e
   have n2:c≠q:=by rintro rfl;rw[L]at e;cases e
   rw[av n1,av n2];exact j c o e
 ·rintro m M2 ⟨x1,Y,rfl,Q,J,O,j⟩;rw[oB,J0]at J O;walk_at "rd";exact k g M2 ⟨p,q,Q,J,O⟩ j
noncomputable def leB(n:Int):D->D->Bool
 |.int a,.int b=>decide (0<=a)&&decide (a<=b)&&decide (b<=n)
 |_,_=>false
noncomputable def fO(n:Int):D->Bool
 |.tup [a,b]=>leB n a b
 |_=>false
theorem oi{n:Int}{ds:List D}(h:¬ ds.length=2):fO n (.tup ds)=false:=by
 match ds,h with
 |[],_=>rfl
 |[_],_=>rfl
 |[_,_],h=>exact absurd rfl h
 |_::_::_::_,_=>rfl
def gS:SpD:=fun a M R=>∃(d:D) (n:Int),a=[d,.int n]/\ar d=true/\R (.bl (fO n d)) M
theorem mS(F:Fun K "is_stretch" "is_stretch" eW f I) (T:Txt B) (u:FnD P w K B base "is_tuple_of" 1 2 bj) (p:FnD P w K B base "is_whole" 1 1 gq):aR P w K B base CX0 2 f I ["thing","many"] (spD K 2 gS):=by
 have C:=gM.nd;refine F.okR rfl gM (fun q A e s H E j=>⟨_,(ak (aB (bh (qd u j (af (aa 0) (af ah ag))) (bh (qd p j (af (aU aV (aa 0) ah (fun _ _=>rfl)) ag)) (bh (qd p j (af (aU aV (aa 0) ah (fun _ _=>rfl)) ag)) (cf (Ag nk nk nk ah (aU aV (aa 0) ah (fun _ _=>rfl)) (aU aV (aa 0) ah (fun _ _=>rfl)) (aa 1)))))))),fun G M R _ z bk=>?_⟩);obtain⟨d,n,rfl,m,k⟩:=z;refine bk ?_;clear bk;walk_at "rd";refine bF.mpr ⟨m,_,rfl,?_⟩;have l:eU d 2=false->fO n d=false:=fun h=>by
  cases d with
  |tup o=>exact oi (by simp[eU]at h;lia)
  |_=>rfl
 refine aW (fun h=>?_) (fun h=>by rw[l (by simpa using h)]at k;exact k);obtain⟨a,b,rfl⟩:∃a b,d=.tup [a,b]:=by
  cases d with
  |tup o =>
   obtain⟨a,b,rfl⟩:=kU (r:=o) (by simp[eU]at h;lia);exact⟨a,b,rfl⟩
  |_=>simp[eU]at h
 have c:ar a=true/\ar b=true:=by simpa[ar,bG]using m
 walk_at "rd";refine eQ.mpr ⟨c.1,_,rfl,?_⟩;cases a with
 |int x =>
  simp only[nR,if_true];refine eQ.mpr ⟨c.2,_,rfl,?_⟩;cases b with
  |int y =>
   simp only[nR,if_true];walk_at "rd";simp only[fO,leB]at k;refine aW (fun i=>aW (fun g=>?_) (fun g=>?_)) (fun i=>?_)
   ·rw[decide_eq_true i,decide_eq_true g,U5,U5]at k;exact k
   ·rw[decide_eq_false g,ak8,R5]at k;exact k
   ·rw[decide_eq_false i,R5,R5]at k;exact k
  |_=>exact k
 |_=>exact k
open Classical in
def sG(o:List (Str×Str)) (row:List (Str×Int)) (d:D):Bool:=decide (∃a:List (Nat×Nat),d=.tup (a.map stD)/\(∀x∈a,x.1<=x.2/\x.2<=row.length)/\qW o row a)
theorem vP{n:Nat}:∀{ds:List D},ds.all (fO (n:Int))=true->∃ps:List (Nat×Nat),ds=ps.map stD/\∀x∈ps,x.1<=x.2/\x.2<=n
 |[],_=>⟨[],rfl,fun _ h=>nomatch h⟩
 |d::ds,h=>by
  rw[ah7,O1]at h;obtain⟨ps,rfl,g⟩:=vP (ds:=ds) h.2;have c:=h.1;cases d with
  |tup i =>
   by_cases f:i.length=2
   ·obtain⟨a,b,rfl⟩:=kU f;simp only[fO]at c;cases a with
    |int a =>
     cases b with
     |int b =>
      simp only[leB,O1,decide_eq_true_eq]at c;refine⟨(a.toNat,b.toNat)::ps,?_,fun x e=>?_⟩
      ·rw[L7];congr 1;simp only[stD];rw[show((a.toNat:Nat):Int)=a by lia,show((b.toNat:Nat):Int)=b by lia]
      ·rcases L1.mp e with rfl|e
       ·simp only;lia
       ·exact g x e
     |_=>simp[leB]at c
    |_=>simp[leB]at c
   ·rw[oi f]at c;cases c
  |_=>simp[fO]at c
theorem wX{n:Nat}{ps:List (Nat×Nat)}(h:∀x∈ps,x.1<=x.2/\x.2<=n):(ps.map stD).all (fO (n:Int))=true:=by
 rw[W1,R8];intro x a;have:=h x a;simp only[ai6,stD,fO,leB,O1,decide_eq_true_eq]
 lia
theorem ve{o:List (Str×Str)}{row:List (Str×Int)}{d:D}(h:¬ ∃ps:List (Nat×Nat),d=.tup (ps.map stD)/\(∀x∈ps,x.1<=x.2/\x.2<=row.length)/\qW o row ps):sG o row d=false:=by unfold sG;exact @decide_eq_false _ (ae2 _) h
theorem y7{o:List (Str×Str)}{row:List (Str×Int)}{ps:List (Nat×Nat)}(h:∀x∈ps,x.1<=x.2/\x.2<=row.length):sG o row (.tup (ps.map stD))=n6 o row ps:=by
 unfold sG n6;rw[decide_eq_decide];refine⟨fun z160z=>?_,fun a=>⟨ps,rfl,h,a⟩⟩;obtain⟨c,e,_,a⟩:=z160z;rw[lh Dx (D.tup.inj e)];exact a
def tM(d:D):Prop:=ar d=true/\∀a,d=.tup a->a.length<=60
def cA(C:K1):SpD:=fun c M R=>∃(o:List (Str×Str)) (a:List (Str×Int)) (d:D),c=[.tup (o.map aw),.tup (a.map ao),d]/\o.length<=500/\a.length<=60/\tM d/\R (.bl (sG o a d)) M
theorem fc(F:Fun K "are_pairs_against_row" "are_pairs_against_row" bb f I) (T:Txt B) {C:K1} (J:FnD P w K B base "is_closed" 7 3 (js C)) (O:FnD P w K B base "ground_of_row" 3 1 (fw C)) (u:FnD P w K B base "is_stretch" 2 2 gS):aR P w K B base CX0 8 f I ["order","row","thing"] (spD K 3 (cA C)):=by
 have nd:=ck.nd;refine F.okR rfl ck (fun a0 A N s H E Q=>⟨_,(ak (ik (bh (cH (Tn:="tuple") (by decide) rfl T.b_isinstance rfl T.b_tuple (by kernel_rfl) (aa 2)) (bh (az (j9 rfl) rfl T.b_all (by kernel_rfl) (af (eI (ms:=[false,true,false]) (aq:=["pair"]) (aC rfl (show aP (ai bb) bC _ _=true from by decide +kernel)) rfl (ba (aa 2)) (aH (i:=3) (show(bC++_).Nodup from by decide +kernel) rfl rfl) (fun _ _ _ _=>bP) (fun _ _ _ _=>(qd u Q (af (aa 3) (af (az bR rfl T.b_len (by kernel_rfl) (af (aa 1) ag)) ag))))) ag)) (cf (qd J Q (af (aa 0) (af (qd O Q (af (aa 1) ag)) (af (aa 2) ag))))))))),fun ds M R _ hS bk=>?_⟩);obtain⟨o,a,d,rfl,Z,hl,j,k⟩:=hS;refine bk ?_;clear bk;have nt:(∀l,d≠.tup l)->R (.bl false) M:=fun h=>by
  rw[ve (fun z161z=>by obtain⟨G,e,_⟩:=z161z;exact h _ e)]at k;exact k
 walk_at "rd";simp only[bO j.1];cases d with
 |tup l =>
  have hg:∀d∈l,ar d=true:=bH.mp (by simpa[ar]using j.1);have p:=j.2 l rfl;refine⟨true,rfl,?_⟩;rw[if_pos rfl];refine⟨_,rfl,fun hz=>⟨hz,cQ (fun _=>true) (fun d=>.bl (fO (a.length:Int) d)) (fun U=>∃x,U=[none,some (.tup (a.map ao)),none,x]) l _ _ (fun d j U L=>?_) ⟨none,rfl⟩ ?_⟩⟩
  ·obtain⟨z,rfl⟩:=L;refine⟨_,rfl,⟨_,rfl⟩,fun Q1 q=>q,fun _ Q2 q=>?_⟩;walk_at "rd";rw[J0];exact⟨d,_,rfl,hg d j,q⟩
  rw[O8,Q4.mpr (fun _ _=>rfl)];have Y:(l.map fun d=>D.bl (fO (a.length:Int) d))=(l.map (fO (a.length:Int))).map D.bl:=by rw[M0];rfl
  rw[Y];refine⟨_,cZ,_,rfl,aW (fun m=>?_) (fun m=>⟨M,fun _ _ h=>h,?_⟩)⟩
  ·rw[W1]at m;obtain⟨G,rfl,c⟩:=vP (n:=a.length) m;rw[J0]at p;rw[y7 c]at k;exact⟨a,rfl,by exact K4 (by assumption) (by decide),fun g M' X S=>⟨o,g,a,G,rfl,Z,X,by exact K4 (by assumption) (by decide),by exact K4 (by assumption) (by decide),c,M,S,k⟩⟩
  ·rw[ve (fun z162z=>by obtain⟨G,e,c,_⟩:=z162z;exact m (by cases e;rw[W1];exact wX c))]at k;exact k
 |scr _=>exact absurd j.1 (by simp[ar])
 |ref _=>exact absurd j.1 (by simp[ar])
 |box _ _=>exact absurd j.1 (by simp[ar])
 |_=>exact⟨false,rfl,by rw[if_neg (by simp)];exact⟨M,fun _ _ h=>h,nt (fun l e=>by cases e)⟩⟩
noncomputable def sw(ord:List (Str×Str)):List (Str×Str):=ord++ord.map fun y=>(y.2,y.1)
def fU:SpD:=fun c M R=>∃(ord:List (Str×Str)) (a:Str),c=[.tup (ord.map aw),.str a]/\ord.length<=200/\∀L:List Str,L.length<=401->(∀x,x∈L↔bA (sw ord) a x)->R (.lst (L.map .str)) M
theorem kK(F:Fun K "hanging_with" "hanging_with" cx f I) (T:Txt B) (m:FnD P w K B base "reached_from" 1 2 dw):aR P w K B base CX0 2 f I ["order","mark"] (spD K 2 fU):=by
 have O:=fA.nd;refine F.okR rfl fA (fun j A g s H E C=>⟨_,(ak (aB (qd m C (af (ay aG (aa 0) (bg cb rfl T.b_tuple (by kernel_rfl) (af (eI (ms:=[false,false]) (aq:=["low","high"]) (aC (n0:=0) rfl (show aP (ai cx) cy _ _=true from by decide +kernel)) rfl (ba (aa 0)) (j0 (n:=2) rfl (bZ (aH (i:=2) (show(cy++_).Nodup from by decide +kernel) rfl rfl) (bZ (aH (i:=3) (show(cy++_).Nodup from by decide +kernel) rfl rfl) jU))) (fun _ _ _ _=>bP) (fun _ _ _ _=>(aY (af (aa 3) (af (aa 2) ag))))) ag))) (af (aa 1) ag))))),fun U M R _ G bk=>?_⟩);obtain⟨ord,a,rfl,X,k⟩:=G;refine bk ?_;clear bk;walk_at "rd";refine fun o=>⟨o,aX aw (fun _=>true) (fun y=>aw (y.2,y.1)) (fun h=>∃x y,h=[none,none,x,y]) _ _ _ (fun y S h c=>?_) ⟨none,none,rfl⟩ ?_⟩
 ·obtain⟨x,z,rfl⟩:=c;refine⟨_,rfl,⟨_,_,rfl⟩,fun Q q=>q,fun _ N q=>?_⟩;walk_at "rd";exact⟨sz3 2,q⟩
 ·rw[O8,Q4.mpr (fun _ _=>rfl)];have e:ord.map (fun y=>aw (y.2,y.1))=(ord.map fun y=>(y.2,y.1)).map aw:=by rw[M0];rfl
  rw[e,<-O2,J0,J0,J0];refine⟨_,if_pos (sz3 _ (by lia)),_,a,rfl,by simp;lia,fun L u p l J=>k L ?_ fun x=>⟨l x,iE u p⟩⟩;simp at J;lia
def hs(ord:List (Str×Str)) (row:List (Str×Int)) (a:Str):Int:=((row.filter fun y=>rB (sw ord) a y.1).map fun y=>if y.2 % 2=1 then(1:Int)else -1).sum
def mE:SpD:=fun e M R=>∃(ord:List (Str×Str)) (a:Str) (L:List Str) (c:List (Str×Int)),e=[.lst (L.map .str),.tup (c.map ao)]/\L.length<=401/\c.length<=24/\(∀x,x∈L↔bA (sw ord) a x)/\R (.int (hs ord c a)) M
theorem qS(F:Fun K "surplus" "surplus" fB f I) (T:Txt B) :aR P w K B base CX0 1 f I ["marks","row"] (spD K 2 mE):=by
 have O:=ka.nd;refine F.okR rfl ka (fun m A h s H E G=>⟨_,(ak (aB (az (G9 rfl) rfl T.b_sum (by kernel_rfl) (af (eI (ms:=[true,false]) (aq:=["mark","turn"]) (aC rfl (show aP (ai fB) fu _ _=true from by decide +kernel)) rfl (ba (aa 1)) (j0 (n:=2) rfl (bZ (aH (i:=2) (show(fu++_).Nodup from by decide +kernel) rfl rfl) (bZ (aH (i:=3) (show(fu++_).Nodup from by decide +kernel) rfl rfl) jU))) (fun _ _ _ _=>(nv (aI fF (aa 2) (aa 0) rfl))) (fun _ _ _ _=>(HJ (aI (eK G.units) (ay bK (aa 3) ah) ah nbh) ah (uL vw ah)))) ag)))),fun X M R _ J bk=>?_⟩);obtain⟨ord,a,L,o,rfl,Y,U,p,k⟩:=J;refine bk ?_;clear bk;walk_at "rd";refine fun u=>⟨u,aX ao (fun y=>decide (y.1∈L)) (fun y=>D.int (if y.2 % 2=1 then 1 else -1)) (fun j=>∃x y,j=[some (D.lst (L.map .str)),none,x,y]) _ _ _ (fun y S j g=>?_) ⟨none,none,rfl⟩ ?_⟩
 ·obtain⟨x,z,rfl⟩:=g;refine⟨_,rfl,⟨_,_,rfl⟩,fun Q q=>?_,fun _ N q=>?_⟩
  ·walk_at "rd";refine⟨_,if_pos ⟨rfl,bN⟩,_,rfl,?_⟩;rw[bW,S5];exact q
  ·walk_at "rd"
   by_cases c:y.2 % 2=1
   ·rw[if_pos c]at q;rw[if_pos (by simpa using c)];exact q
   ·rw[if_neg c]at q;rw[if_neg (by simpa using c)];exact q
 ·rw[O8];have e:∀l:List (Str×Int),l.map (fun y=>D.int (if y.2 % 2=1 then 1 else -1))=(l.map fun y=>if y.2 % 2=1 then(1:Int)else -1).map D.int:=fun l=>by rw[M0];rfl
  have C:(fun y:Str×Int=>decide (y.1∈L))=fun y=>rB (sw ord) a y.1:=by
   funext y;rw[S8,decide_eq_true_eq,l8,p]
  rw[e,C];exact⟨_,EC,k⟩
def jr:SpD:=fun e M R=>∃(ord:List (Str×Str)) (c:List (Str×Int)) (a:Str),e=[.tup (ord.map aw),.tup (c.map ao),.str a]/\ord.length<=200/\c.length<=24/\R (.bl (!decide (hs ord c a=0))) M
theorem ny(F:Fun K "is_uneven" "is_uneven" fP f I) (T:Txt B) (j:FnD P w K B base "surplus" 1 2 mE) (g:FnD P w K B base "hanging_with" 2 2 fU):aR P w K B base CX0 3 f I ["order","row","mark"] (spD K 3 jr):=by
 have u:=gX.nd;refine F.okR rfl gX (fun l A h s H E i=>⟨_,(ak (aB (cC (pL i.units) (qd j i (af (qd g i (af (aa 0) (af (aa 2) ag))) (af (aa 1) ag))) ah nbh))),fun x M R _ p bk=>?_⟩);obtain⟨ord,c,a,rfl,o,n,k⟩:=p;refine bk ?_;clear bk;walk_at "rd";refine⟨ord,a,rfl,o,fun L q m=>⟨ord,a,L,c,rfl,q,n,m,_,yP,?_⟩⟩;have e:(!(hs ord c a==0))=!decide (hs ord c a=0):=by rfl
 first|exact k|(rw[e];exact k)|(simpa using k)
noncomputable def wsh(row:List (Str×Int)):List (Str×Int):=row.reverse.map fun x=>(x.1,x.2+1)
def iQ:SpD:=fun c M Q=>∃a:List (Str×Int),c=[.tup (a.map ao)]/\a.length<=24/\Q (.tup ((wsh a).map ao)) M
theorem mT(F:Fun K "right_wish" "right_wish" c8 f I) (T:Txt B) :aR P w K B base CX0 1 f I ["row"] (spD K 1 iQ):=by
 have p:=gH.nd;refine F.okR rfl gH (fun g A c s H E G=>⟨_,(ak (aB (bg cb rfl T.b_tuple (by kernel_rfl) (af (eI (ms:=[false]) (aq:=["mark","turn"]) (aC (n0:=0) rfl (show aP (ai c8) cU _ _=true from by decide +kernel)) rfl (Fm rfl T.b_reversed (af (aa 0) ag)) (j0 (n:=2) rfl (bZ (aH (i:=1) (show(cU++_).Nodup from by decide +kernel) rfl rfl) (bZ (aH (i:=2) (show(cU++_).Nodup from by decide +kernel) rfl rfl) jU))) (fun _ _ _ _=>bP) (fun _ _ _ _=>(aY (af (aa 1) (af (ay aG (aa 2) ah) ag))))) ag)))),fun J M R _ l bk=>?_⟩);obtain⟨h,rfl,C,k⟩:=l;refine bk ?_;clear bk;walk_at "rd";intro j;refine⟨by rw[List.length_reverse];exact j,?_⟩;rw[<-List.map_reverse];refine aX ao (fun _=>true) (fun x=>ao (x.1,x.2+1)) (fun e=>∃x y,e=[none,x,y]) _ _ _ (fun m z e a=>?_) ⟨none,none,rfl⟩ ?_
 ·obtain⟨x,y,rfl⟩:=a;refine⟨_,rfl,⟨_,_,rfl⟩,fun u q=>q,fun _ o q=>?_⟩;walk_at "rd";exact⟨sz3 2,q⟩
 ·rw[O8,Q4.mpr (fun _ _=>rfl)];unfold wsh at k;rw[M0]at k;exact k
noncomputable def ED:D->D
 |.tup [_,x]=>x
 |_=>.non
def unB(o:List (Str×Str)) (row:List (Str×Int)):D->Bool
 |.str m=>bp m&&!decide (hs o row m=0)
 |_=>false
def oG(o:List (Str×Str)) (row:List (Str×Int)) (d:D):Bool:=if jg d (N1 "counted") 2=true then unB o row (ED d)else jg d (N1 "closed") 2&&sG o row (ED d)
def rj(d:D):Prop:=ar d=true/\∀a c,d=.tup [a,.tup c]->c.length<=60
def cK(C:K1):SpD:=fun c M R=>∃(o:List (Str×Str)) (a:List (Str×Int)) (d:D),c=[.tup (o.map aw),.tup (a.map ao),d]/\o.length<=200/\a.length<=24/\rj d/\R (.bl (oG o a d)) M
theorem fq(F:Fun K "is_paper_against_row" "is_paper_against_row" bJ f I) (T:Txt B) {C:K1} (q:FnD P w K B base "is_tuple_called" 2 3 et) (z:FnD P w K B base "is_mark" 2 1 dH) (l:FnD P w K B base "is_uneven" 3 3 jr) (O:FnD P w K B base "are_pairs_against_row" 8 3 (cA C)):aR P w K B base CX0 9 f I ["order","row","thing"] (spD K 3 (cK C)):=by
 have Q:=cz.nd;refine F.okR rfl cz (fun u A n s H E j=>⟨_,(aj (aZ (bQ (qd q j (af (aa 2) (af dI (af ah ag))))) (ak (aB (bh (qd z j (af (aU aV (aa 2) ah (fun _ _=>rfl)) ag)) (cf (qd l j (af (aa 0) (af (aa 1) (af (aU aV (aa 2) ah (fun _ _=>rfl)) ag)))))))) aM)
   (ak (aB (bh (qd q j (af (aa 2) (af dI (af ah ag)))) (cf (qd O j (af (aa 0) (af (aa 1) (af (aU aV (aa 2) ah (fun _ _=>rfl)) ag))))))))),fun S M R _ N bk=>?_⟩)
 obtain⟨o,i,d,rfl,L,G,g,k⟩:=N;refine bk ?_;clear bk;walk_at "rd";refine⟨d,_,_,rfl,g.1,by decide,_,rfl,?_⟩;unfold oG at k
 by_cases h:jg d (N1 "counted") 2=true
 ·rw[if_pos h]at k;rw[if_pos h];obtain⟨x,rfl⟩:=vb.mp h;have p:ar x=true:=by have:=g.1;simp only[ar,bG,O1]at this;exact this.2.1
  walk_at "rd";refine dD.mpr ⟨p,_,rfl,?_⟩;cases x with
  |str m =>
   simp only[ED,unB]at k;refine aW (fun a=>?_) (fun a=>?_)
   ·have c:bp m=true:=a;rw[c,U5]at k;exact⟨o,i,m,rfl,L,G,k⟩
   ·have c:bp m=false:=by simpa[cn]using a
    rw[c,R5]at k;exact k
  |_=>exact k
 ·rw[if_neg h]at k;rw[if_neg h];refine⟨d,_,_,rfl,g.1,by decide,_,rfl,aW (fun a=>?_) (fun a=>?_)⟩
  ·rw[a,U5]at k;obtain⟨x,rfl⟩:=vb.mp a;have p:ar x=true:=by have:=g.1;simp only[ar,bG,O1]at this;exact this.2.1
   walk_at "rd";exact⟨o,i,x,rfl,by exact K4 (by assumption) (by decide),by exact K4 (by assumption) (by decide),⟨p,fun J e=>g.2 _ J (by rw[e])⟩,k⟩
  ·rw[show jg d (N1 "closed") 2=false by simpa using a,R5]at k;exact k
def nJ(o:List (Str×Str)):Prop:=o.length<=8/\∀x∈o,bp x.1=true/\bp x.2=true
def ic(row:List (Str×Int)):Prop:=row.length<=10/\∀x∈row,sQ x
theorem xP{x:Str}(h:bp x=true):x.length<=8:=by
 unfold bp at h;rw[O1,O1,decide_eq_true_eq,decide_eq_true_eq]at h;exact h.1.2
theorem nA{x:Str}(h:bp x=true):ar (.str x)=true:=by
 have:=xP h;simp only[ar,decide_eq_true_eq];exact K4 (by assumption) (by decide)
theorem ya{x:Str×Int}(h:bp x.1=true):ar (ao x)=true:=by
 simp only[ao,ar,bG,ai5];have:=nA h;simpa only[ar]using this
theorem nO{row:List (Str×Int)}(h:∀x∈row,sQ x):ar (.tup (row.map ao))=true:=by
 simp only[ar];rw[bH];intro d a;obtain⟨x,c,rfl⟩:=M7.mp a;exact ya (h x c).1
theorem tX{o:List (Str×Str)}(h:nJ o):ar (.tup (o.map aw))=true:=by
 simp only[ar];rw[bH];intro d f;obtain⟨x,c,rfl⟩:=M7.mp f;have e:=nA (h.2 x c).1;have a:=nA (h.2 x c).2;simp only[ar]at e a;simp only[aw,ar,bG,e,a,ai5]
theorem CK{o:List (Str×Str)}(h:nJ o):ux (.tup (o.map aw))=true:=by
 simp only[ux,J0,decide_eq_true h.1,U5];rw[W1,R8];intro x a;simp only[ai6,aw,mx,cn,(h.2 x a).1,(h.2 x a).2,Bool.and_self]
theorem Ca{row:List (Str×Int)}(h:∀x∈row,sQ x):zj (.tup (row.map ao))=true:=by
 simp only[zj];rw[W1,R8];intro x a;exact xE.mpr ⟨x,rfl,h x a⟩
def fZ:SpD:=fun c M R=>∃a:List (Str×Int),c=[.tup (a.map ao)]/\ic a/\R (.bl true) M
theorem ki(F:Fun K "is_row_taken" "is_row_taken" dA f I) (T:Txt B) (h:FnD P w K B base "is_row" 4 1 oa):aR P w K B base CX0 5 f I ["thing"] (spD K 1 fZ):=by
 have l:=fE.nd;refine F.okR rfl fE (fun e A c s H E i=>⟨_,(ak (aB (bh (qd h i (af (aa 0) ag)) (cf (cC nk (az bR rfl T.b_len (by kernel_rfl) (af (aa 0) ag)) (iB rfl T.g_MOST_SIGNS_OF_ROW) nbh))))),fun m M R _ j bk=>?_⟩);obtain⟨g,rfl,a,k⟩:=j;refine bk ?_;clear bk;walk_at "rd";refine eQ.mpr ⟨nO a.2,?_⟩;rw[Ca a.2];walk_at "rd";rw[J0,decide_eq_true (by have:=a.1;lia)];exact k
def fb:SpD:=fun e M R=>∃(o:List (Str×Str)) (a c:List (Str×Int)),e=[.tup (o.map aw),.tup (a.map ao),.tup (c.map ao)]/\nJ o/\ic a/\ic c/\R (.bl true) M
theorem jj(F:Fun K "are_rows_taken" "are_rows_taken" cN f I) (T:Txt B) (e:FnD P w K B base "is_order" 4 1 gE) (h:FnD P w K B base "is_row_taken" 5 1 fZ):aR P w K B base CX0 6 f I ["order","one","other"] (spD K 3 fb):=by
 have q:=eE.nd;refine F.okR rfl eE (fun j A c s H E g=>⟨_,(ak (aB (bh (qd e g (af (aa 0) ag)) (bh (qd h g (af (aa 1) ag)) (cf (qd h g (af (aa 2) ag))))))),fun u M R _ n bk=>?_⟩);obtain⟨o,a,p,rfl,i,m,l,k⟩:=n;refine bk ?_;clear bk;walk_at "rd";refine nK.mpr ⟨tX i,?_⟩;rw[CK i];walk_at "rd";refine⟨a,rfl,m,?_⟩;walk_at "rd";exact⟨p,rfl,l,k⟩
def eC(C:K1):SpD:=fun e M R=>∃(o:List (Str×Str)) (a c:List (Str×Int)) (d:D),e=[.tup [.tup (o.map aw),.tup (a.map ao),.tup (c.map ao)],d]/\nJ o/\ic a/\ic c/\rj d/\R (.bl (oG o (a++wsh c) d)) M
theorem ir(F:Fun K "takes_comes_not" "takes_comes_not" cG f I) (T:Txt B) {C:K1} (O:FnD P w K B base "is_tuple_of" 1 2 bj) (q:FnD P w K B base "are_rows_taken" 6 3 fb) (J:FnD P w K B base "is_paper_against_row" 9 3 (cK C)) (l:FnD P w K B base "right_wish" 1 1 iQ):aR P w K B base CX0 10 f I ["parts","paper"] (spD K 2 (eC C)):=by
 have m:=dM.nd;refine F.okR rfl dM (fun z A n s H E g=>⟨_,(aj (aZ (dQ (bQ (qd O g (af (aa 0) (af ah ag))))) (ak (aB eO)) aM)
   (aj (uf (aa 0) (ix rfl (bw (aJ (i:=2) m rfl (P0 rfl)) (bw (aJ (i:=3) m rfl (P0 rfl)) (bw (aJ (i:=4) m rfl (P0 rfl)) gU)))))
   (ak (aB (bh (qd q g (af (aa 2) (af (aa 3) (af (aa 4) ag)))) (cf (qd J g (af (aa 2) (af (ay aG (aa 3) (qd l g (af (aa 4) ag))) (af (aa 1) ag)))))))))),fun Q M R _ N bk=>?_⟩)
 obtain⟨o,e,h,d,rfl,p,j,u,x,k⟩:=N;have G:=j.1;have L:=u.1;refine bk ?_;clear bk;walk_at "rd";refine bF.mpr ⟨?_,?_⟩
 ·have a:=tX p;have b:=nO j.2;have c:=nO u.2;simp only[ar]at a b c;simp only[ar,bG,a,b,c,Bool.and_self]
 ·rw[show eU (.tup [.tup (o.map aw),.tup (e.map ao),.tup (h.map ao)]) 3=true from rfl];walk_at "rd";refine⟨_,rfl,?_⟩;walk_at "rd";refine⟨o,e,h,rfl,p,j,u,?_⟩;walk_at "rd";refine⟨h,rfl,by exact K4 (by assumption) (by decide),_,if_pos (by rw[J0,J0];exact sz3 _ (by simp[wsh];lia)),o,e++wsh h,d,?_,by have:=p.1;exact K4 (by assumption) (by decide),by simp[wsh];lia,x,k⟩;rw[O2]
def qk(C:K1):SpD:=fun e M R=>∃(o:List (Str×Str)) (a c:List (Str×Int)) (d:D),e=[.tup [.str "comes not",.tup (o.map aw),.tup (a.map ao),.tup (c.map ao)],d]/\nJ o/\ic a/\ic c/\rj d/\R (.bl (oG o (a++wsh c) d)) M
theorem vQ(F:Fun K "holds" "holds" md f I) (T:Txt B) (j:kM w K B "CHECKS" Gr) {C:K1} (h:FnD P w K B base "takes_comes_not" 10 2 (eC C)):aR P w K B base CX0 11 f I ["claim","paper"] (spD K 2 (qk C)):=by
 have x:=og.nd;refine F.okR rfl og (fun q A g s H E c=>⟨_,(aj (aZ (gB (gV (dQ (bQ (cH (Tn:="tuple") (by decide) rfl T.b_isinstance rfl T.b_tuple (by kernel_rfl) (aa 0)))) (fI (aI (eK c.units) (az bR rfl T.b_len (by kernel_rfl) (af (aa 0) ag)) ah nbh)))) (ak (aB eO)) aM)
   (aj (aZ (gB (gV (dQ (bQ (cH (Tn:="str") (by decide) rfl T.b_isinstance rfl T.b_str (by kernel_rfl) (aU aV (aa 0) ah (fun _ _=>rfl))))) (fI (Dw rfl j (aU aV (aa 0) ah (fun _ _=>rfl)))))) (ak (aB eO)) aM)
   (aj (aE (i:=2) x rfl (P0 rfl) (FW c.units1 rfl j (aU aV (aa 0) ah (fun _ _=>rfl)) (fun _ _=>rfl)))
   (ak (aB (BX 2 h c (af (bu (aa 0) (br ah) da) (af (aa 1) ag)))))))),fun N M R _ J bk=>?_⟩)
 obtain⟨o,a,l,d,rfl,G,m,L,p,k⟩:=J;refine bk ?_;clear bk;walk_at "rd";refine⟨true,rfl,?_⟩;rw[if_neg (by decide),if_neg (by decide)];refine⟨true,rfl,?_⟩;have e:jW Gr (N1 "comes not")=some "takes_comes_not":=by decide +kernel
 rw[if_neg (by decide),e];obtain⟨u,_,_,_,z,_⟩:=h.ex;refine⟨_,rfl,u,z,rfl,o,a,l,d,?_,G,m,L,p,k⟩;rw[show L2.cj [D.str (N1 "comes not"),D.tup (o.map aw),D.tup (a.map ao),D.tup (l.map ao)] (some 1) none=_ from gj (n:=1)];rfl
def qg(C:K1):SpD:=fun e M R=>∃(o:List (Str×Str)) (a c:List (Str×Int)) (d:D),e=[.tup [.str "comes not",.tup (o.map aw),.tup (a.map ao),.tup (c.map ao)],d,.bl (oG o (a++wsh c) d)]/\nJ o/\ic a/\ic c/\rj d/\R (.bl true) M
theorem vK(F:Fun K "_law_taken" "_law_taken" lN f I) (T:Txt B) {C:K1} (e:FnD P w K B base "holds" 11 2 (qk C)):aR P w K B base CX0 12 f I ["_law_claim","_law_paper","_law_due"] (spD K 3 (qg C)):=by
 have l:=nE.nd;refine F.okR rfl nE (fun j A c s H E g=>⟨_,(aj (aE (i:=3) l rfl (P0 rfl) (qd e g (af (aa 0) (af (aa 1) ag))))
   (ak (aB (bh (cH (Tn:="bool") (by decide) rfl T.b_isinstance rfl T.b_bool (by kernel_rfl) (aa 3)) (cf (cC (eK g.units) (aa 3) (aa 2) nbh)))))),fun x M R _ q bk=>?_⟩)
 obtain⟨o,a,u,d,rfl,p,n,m,h,k⟩:=q;refine bk ?_;clear bk;walk_at "rd";refine⟨o,a,u,d,rfl,p,n,m,h,?_⟩;walk_at "rd";simp only[beq_self_eq_true];exact k
def lu(n:Nat) (xs:List Int):Prop:=xs.length=n/\∀x∈xs,0<=x/\x<1000000
theorem lu.snoc{n:Nat}{xs:List Int}{x:Int}(h:lu n xs) (h0:0<=x) (c:x<1000000):lu (n+1) (xs++[x]):=by
 refine⟨by rw[N7,h.1];rfl,fun y a=>?_⟩;rcases L4.mp a with q|q
 ·exact h.2 y q
 ·have:y=x:=by simpa using q
  subst this;exact⟨h0,c⟩
theorem lu.at{n:Nat}{xs:List Int}(h:lu n xs) (i:Nat) (c:i<n):∃x:Int,atI (xs.map D.int) (i:Int)=some (.int x)/\0<=x/\x<1000000:=by
 have a:i<xs.length:=by rw[h.1];exact c
 exact⟨xs[i],cL (by simp[a]),h.2 _ (V6 a)⟩
def mB:SpD:=fun e M R=>∃(c:List Int) (k n:Nat),e=[.scr (c.map D.int),.int k,.int n]/\n<=100/\∀a,lu n a->R (.lst (a.map D.int)) M
theorem rO(F:Fun K "_law_numbers" "_law_numbers" iP f I) (T:Txt B) :aR P w K B base CX0 1 f I ["_law_script","_law_k","_law_size"] (spD K 3 mB):=by
 have l:=kB.nd;refine F.okR rfl kB (fun O A x s H E hr=>⟨_,(aj (aE (i:=3) l rfl (P0 rfl) ah)
   (aj (aZ (aI xT (aa 1) (az bR rfl T.b_len (by kernel_rfl) (af (aa 0) ag)) nbh) (ak (aE (i:=3) l rfl (P0 rfl) (aU aV (aa 0) (aa 1) (fun _ _=>rfl)))) aM)
   (aj (aE (i:=4) l rfl (P0 rfl) ah)
   (aj (aZ (gB (gV (aI xT (aa 3) ah nbh) (fI (aI Jd (aa 3) (ay wD ah ah) nbh)))) (ak (aE (i:=4) l rfl (P0 rfl) (az Gy rfl T.b_abs (by kernel_rfl) (af (aa 3) ag)))) aM)
   (aj (aE (i:=5) l rfl (P0 rfl) (ay bK (ay aG (aa 3) (ay jG ah (aa 1))) ah))
   (aj (aE (i:=6) l rfl (P0 rfl) (iL ag))
   (aj (cq P3 rfl (dG rfl T.b_range (af (aa 2) ag)) (aJ (i:=7) l rfl (P0 rfl)) (aj (aE (i:=5) l rfl (P0 rfl) (ay bK (ay aG (ay aG (ay jG (aa 5) ah) (ay jG ah (ay aG (aa 7) ah))) ah) ah))
   (ak (aZ (aI Er (aa 4) ah nbh) (aj (fM (kJ (aa 6) (ay bK (aa 4) (ay wD ah ah))))
   (ak (aE (i:=4) l rfl (P0 rfl) (ay jS (aa 4) (ay wD ah ah))))) (ak (fM (kJ (aa 6) (ay bK (ay bK (ay aG (ay jG (aa 5) ah) (ay jS (aa 5) ah)) ah) (ay wD ah ah)))))))))
   (ak (qU (aa 6)))))))))),fun ds M R _ Z bk=>?_⟩)
 obtain⟨m,o,n,rfl,hn,k⟩:=Z;refine bk ?_;clear bk;refine bz (fun e j=>e=[some (.scr (m.map D.int)),some (.int o),some (.int n),some (.int 0),none,none,none,none]/\M=j) (fun u g=>?_) ?_
 ·walk_at "rd";exact g _ _ ⟨rfl,rfl⟩
 rintro _ _ ⟨rfl,rfl⟩;refine bz (fun e j=>(∃c:Int,e=[some (.scr (m.map D.int)),some (.int o),some (.int n),some (.int c),none,none,none,none])/\M=j) (fun u g=>?_) ?_
 ·walk_at "rd";refine aW (fun h=>?_) (fun h=>g _ _ ⟨⟨_,rfl⟩,rfl⟩);have hk:o<m.length:=by rw[J0]at h;lia
  exact⟨_,cL (by rw[N9,J6 hk];rfl),g _ _ ⟨⟨_,rfl⟩,rfl⟩⟩
 rintro _ _ ⟨⟨c,rfl⟩,rfl⟩;refine bz (fun e j=>e=[some (.scr (m.map D.int)),some (.int o),some (.int n),some (.int c),some (.int 0),none,none,none]/\M=j) (fun u g=>?_) ?_
 ·walk_at "rd";exact g _ _ ⟨rfl,rfl⟩
 rintro _ _ ⟨rfl,rfl⟩;refine bz (fun e j=>(∃r:Int,0<=r/\e=[some (.scr (m.map D.int)),some (.int o),some (.int n),some (.int c),some (.int r),none,none,none])/\M=j) (fun u g=>?_) ?_
 ·walk_at "rd";refine aW (fun h=>g _ _ ⟨⟨_,?_,rfl⟩,rfl⟩) (fun h=>aW (fun Q=>g _ _ ⟨⟨_,?_,rfl⟩,rfl⟩) (fun Q=>g _ _ ⟨⟨0,by decide,rfl⟩,rfl⟩))
  ·split<;>lia
  ·split<;>lia
 rintro _ _ ⟨⟨r,z,rfl⟩,rfl⟩;walk_at "rd";rw[V8];refine⟨sz3 0,fun p Y=>⟨by lia,by lia,?_⟩⟩;refine aL (fun i C j=>∃(r w:Int) (a:List Int) (G:Option D),C=[some (.scr (m.map D.int)),some (.int o),some (.int n),some (.int c),some (.int r),some (.int w),some (.ref p),G]/\j=aN M p (.lst (a.map D.int))/\lu i a/\0<=r/\0<=w/\w<2147483587) ⟨r,_,[],none,rfl,rfl,⟨rfl,fun _ h=>by cases h⟩,z,by lia,by lia⟩ ?_ ?_
 ·rintro i d C j X N ⟨r,w,a,G,rfl,rfl,q,L,S,U⟩ g;obtain⟨hi,rfl⟩:=cm N;refine⟨_,rfl,?_⟩;walk_at "rd";have J:a.length<K0:=by rw[q.1];exact K7 (by lia:i<1000) (sz3 1000)
  rw[J0];refine aW (fun h=>⟨J,g _ _ ⟨_,_,a++[r % 1000000],_,rfl,by rw[O2];rfl,q.snoc (by lia) (by lia),by lia,by lia,by lia⟩⟩) (fun h=>⟨J,g _ _ ⟨_,_,a++[((w*41201+32452843*(0+(i:Int)+1)+11) % 2147483587*50021+(w*41201+32452843*(0+(i:Int)+1)+11) % 2147483587 / 32768) % 998244353 % 1000000],_,rfl,by rw[O2];rfl,q.snoc (by lia) (by lia),L,by lia,by lia⟩⟩)
 ·rintro C j ⟨r,w,a,G,rfl,rfl,q,L,S,U⟩;walk_at "rd";rw[iD Y];rw[bM]at q;exact k a q
theorem IS{a:List Nat}(h:a.length=3):vn (.str (tx a)) (.int 3)=some (.str (tx (a++a++a))):=by
 have c:(tx a).length=3:=by rw[fK,h]
 have e:Txt.mul (tx a) 3=tx (a++a++a):=by
  unfold Txt.mul;rw[if_neg (by decide),c,if_neg (by decide)];simp[tx,O0]
 simp only[vn];rw[if_pos (by rw[c];decide),e]
theorem yi{a:List Nat}{n:Nat}(h:a.length=3) (f:∀c∈a,qF c) (i:1<=n) (g:n<=8):eh (tx ((a++a++a).take n)):=by
 unfold eh;rw[fH,R3,N7,N7,h];refine⟨by lia,by lia,fun c e=>f c ?_⟩;have:=ab0 e;simpa using this
noncomputable def zW(k:Nat):Str:=tx [122,97+k]
theorem Ia{k:Nat}(h:k<26):ixD (.str abc) (.int k)=some (.str (tx [97+k])):=by
 rw[DV,if_pos (by rw[oV,fK];exact sz3 _),oV,fH,cL (v:=97+k) (by unfold ji;rw[List.getElem?_range' (by assumption)];simp)];rfl
theorem BQ{k:Nat}(h:k<26):eh (zW k):=by
 unfold eh zW;rw[fH];refine⟨by simp,by simp,fun c a=>?_⟩;unfold qF;simp at a
 lia
theorem Hj{k:Nat}:rn (.str (N1 "z")) (.str (tx [97+k]))=some (.str (zW k)):=by
 rw[show N1 "z"=tx [122]by decide +kernel,wq,if_pos (by rw[fK,fK];exact sz3 2),Bh];rfl
theorem GH{k:Nat}{L:List Str}(h:∀j,j<k->zW j∈L):k<=L.length:=by
 have:=dn ((N5 k).map zW) L ?_ (fun x f=>by
  obtain⟨j,e,rfl⟩:=M7.mp f;exact h j (P6.mp e))
 ·simpa using this
 ·exact ak3.mpr (ar8.imp (fun {a b} c z=>c (by
   have:=Es.mp z;simp at this;exact this)) List.nodup_range)
def qC:SpD:=fun e M R=>∃a:List Int,e=[.lst (a.map D.int)]/\a.length<=8/\(∀x∈a,0<=x)/\∀c:List Str,c.length=a.length->(∀w∈c,eh w)->R (.lst (c.map D.str)) M
theorem vy(F:Fun K "_law_names" "_law_names" lO f I) (T:Txt B) :aR P w K B base CX0 1 f I ["_law_numbers_here"] (spD K 1 qC):=by
 have g:=nS.nd;refine F.okR rfl nS (fun a3 A a1 s H E hr=>⟨_,(aj (aE (i:=1) g rfl (P0 rfl) dI)
   (aj (aE (i:=2) g rfl (P0 rfl) (iL ag))
   (aj (cq P3 rfl (ba (aa 0)) (aJ (i:=3) g rfl (P0 rfl)) (aj (aE (i:=4) g rfl (P0 rfl) dI)
   (aj (cq P3 rfl (ba (iw (af ah (af ah (af ah ag))))) (aJ (i:=5) g rfl (P0 rfl)) (ak (aE (i:=4) g rfl (P0 rfl) (ay aG (aa 4) (aU aV (aa 1) (ay bK (ay jS (aa 3) (aa 5)) ah) (fun _ _=>rfl))))))
   (aj (aE (i:=4) g rfl (P0 rfl) (bu (ay jG (aa 4) ah) da (br (ay aG ah (ay bK (aa 3) ah)))))
   (aj (aE (i:=6) g rfl (P0 rfl) ah)
   (aj (wd P3 (aI fF (aa 4) (aa 2) rfl) (aj (aE (i:=4) g rfl (P0 rfl) (ay aG dI (aU aV (aa 1) (aa 6) (fun _ _=>rfl))))
   (ak (aE (i:=6) g rfl (P0 rfl) (ay aG (aa 6) ah)))))
   (ak (fM (kJ (aa 2) (aa 4))))))))))
   (ak (qU (aa 2)))))),fun ds M R _ hS bk=>?_⟩)
 obtain⟨U,rfl,hl,hx,k⟩:=hS;refine bk ?_;clear bk;walk_at "rd";refine⟨sz3 0,fun p hp Y=>?_⟩;refine aL (fun i o l=>∃(a:List Str) (x3 x4 x5 x6:Option D),o=[some (.lst (U.map D.int)),some (.str abc),some (.ref p),x3,x4,x5,x6]/\l=aN M p (.lst (a.map D.str))/\a.length=i/\∀w∈a,eh w) ⟨[],none,none,none,none,rfl,rfl,rfl,fun _ h=>by cases h⟩ ?_ ?_
 ·rintro i d o l X hd ⟨a,x3,x4,x5,x6,rfl,rfl,hw,hW⟩ k';obtain⟨x,Q,rfl⟩:=fC hd;have a4:0<=x:=hx x (O5 Q);have hi:i<U.length:=(L6.mp Q).1;refine⟨_,rfl,?_⟩;walk_at "rd";refine⟨sz3 3,fun _=>?_⟩;refine aL (fun j o l=>∃(u:List Nat) (y5:Option D),o=[some (.lst (U.map D.int)),some (.str abc),some (.ref p),some (.int x),some (.str (tx u)),y5,x6]/\l=aN M p (.lst (a.map D.str))/\u.length=j/\∀c∈u,qF c) ⟨[],x5,by rw[HM],rfl,rfl,fun _ h=>by cases h⟩ ?_ ?_
  ·rintro j d o l X2 N ⟨u,y5,rfl,rfl,Z,hC⟩ k2;obtain⟨st,rfl,s0,s1⟩:∃st:Int,d=.int st/\0<st/\st<10000:=by
    match j,N with
    |0,h=>cases h;exact⟨8,rfl,by decide,by decide⟩
    |1,h=>cases h;exact⟨208,rfl,by decide,by decide⟩
    |2,h=>cases h;exact⟨5408,rfl,by decide,by decide⟩
    |j+3,h=>cases h
   have hj:j<3:=(L6.mp N).1;refine⟨_,rfl,?_⟩;walk_at "rd";have hd:rG x st:=⟨s0,by lia⟩;simp only[hd];walk_at "rd";obtain⟨c,a0,e⟩:=Fk (v:=x / st % 26) (by lia) (by lia);refine⟨_,e,?_⟩;walk_at "rd";refine⟨_,if_pos (by rw[fK,fK,Z];exact sz3 _ (by simp;lia)),k2 _ _ ⟨u++[c],_,by rw[Bh],rfl,by simp[Z],fun z Y=>?_⟩⟩;rcases L4.mp Y with h|h
   ·exact hC z h
   ·rw[K2.mp h];exact a0
  ·rintro o l ⟨u,y5,rfl,rfl,Z,hC⟩;have O:u.length=3:=Z;walk_at "rd";simp only[IS O];walk_at "rd";have en:1+x % 8=((1+x % 8).toNat:Int):=by lia
   rw[en,vN];refine⟨_,if_pos (by rw[fK];simp;exact sz3 _ (by lia)),?_⟩;have S:=yi (n:=(1+x % 8).toNat) O hC (by lia) (by lia);generalize tx ((u++u++u).take (1+x % 8).toNat)=w0 at S;refine⟨fun m o l=>∃(q:Nat) (w:Str),o=[some (.lst (U.map D.int)),some (.str abc),some (.ref p),some (.int x),some (.str w),y5,some (.int q)]/\l=aN M p (.lst (a.map D.str))/\eh w/\(∀j,j+1<q->zW j∈a)/\(0<q->w=zW (q-1))/\m=20-q,⟨_,0,w0,rfl,rfl,S,fun j h=>by lia,fun h=>by lia,rfl⟩,?_⟩;rintro m o l ⟨q,w,rfl,rfl,a2,C,G,rfl⟩;walk_at "rd";refine⟨_,if_pos ⟨rfl,bN⟩,_,rfl,?_⟩;rw[bW,S5];refine aW (fun h=>?_) (fun h=>?_)
   ·have J:w∈a:=by simpa using h
    have hq:q<=a.length+1:=by
     have:=GH (k:=q) (L:=a) (fun j hj=>?_)
     ·exact P9 (by assumption)
     ·by_cases e:j+1<q
      ·exact C j e
      ·rw[show j=q-1 by lia,<-G (by lia)];exact J
    refine⟨_,Ia (k:=q) (by lia),?_⟩;walk_at "rd";refine⟨_,Hj,20-(q+1),by lia,q+1,zW q,?_,BQ (by lia),fun j hj=>?_,fun _=>rfl,rfl⟩
    ·simp
    ·by_cases e:j+1<q
     ·exact C j e
     ·rw[show j=q-1 by lia,<-G (by lia)];exact J
   ·refine⟨by rw[J0];exact K7 (by lia:a.length<1000) (sz3 1000),k' _ _ ⟨a++[w],_,_,_,_,rfl,by rw[O2];rfl,by simp[hw],fun z Y=>?_⟩⟩;rcases L4.mp Y with h|h
    ·exact hW z h
    ·rw[K2.mp h];exact a2
 ·rintro o l ⟨a,x3,x4,x5,x6,rfl,rfl,hw,hW⟩;walk_at "rd";rw[iD hp];rw[J0]at hw;exact k a hw hW
def ml:SpD:=fun c M R=>∃(ord:List (Str×Str)) (a:Str),c=[.tup (ord.map aw),.str a]/\ord.length<=500 /\
 ∀L:List Str,a∈L->iu ord L->(∀x∈L,bA ord a x)->R (.lst (L.map .str)) M
theorem rT(F:Fun K "_law_reached" "_law_reached" ip f I) (T:Txt B) :aR P w K B base CX0 1 f I ["_law_order_here","_law_one"] (spD K 2 ml):=by
 have nd:=k8.nd;refine F.okR rfl k8 (fun a6 A a2 s H E hr=>⟨_,(aj (aE (i:=2) nd rfl (P0 rfl) (iL (af (aa 1) ag)))
   (aj (cq P3 rfl (dG rfl T.b_range (af (az bR rfl T.b_len (by kernel_rfl) (af (aa 0) ag)) ag)) (aJ (i:=3) nd rfl (P0 rfl)) (ak (cq P3 rfl (ba (aa 0)) (ix rfl (bw (aJ (i:=4) nd rfl (P0 rfl)) (bw (aJ (i:=5) nd rfl (P0 rfl)) gU))) (ak (aZ (gB (gz (aI fF (aa 4) (aa 2) rfl) (eP (aI uF (aa 5) (aa 2) rfl)))) (ak (fM (kJ (aa 2) (aa 5)))) aM)))))
   (ak (qU (aa 2))))),fun ds M R _ hS bk=>?_⟩)
 obtain⟨ord,a,rfl,ho,k⟩:=hS;refine bk ?_;clear bk;walk_at "rd";rw[J0];refine⟨sz3 1,fun q hq=>⟨by lia,by lia,?_⟩⟩;refine aL (fun i Δ M'=>∃(x3 x4 x5:Option D) (L:List Str),Δ=[some (D.tup (ord.map aw)),some (D.str a),some (D.ref q),x3,x4,x5]/\M'=aN M q (.lst (L.map .str))/\a∈L/\L.Nodup/\(∀x∈L,bA ord a x)/\(∀x∈L,x∈a::ord.map (·.2))/\(iu ord L∨i<=lP ord L))
  ⟨_,_,_,[a],rfl,rfl,by simp,by simp,fun x U=>by rw[K2.mp U];exact bA.refl,fun x U=>by rw[K2.mp U];simp,.inr (P1 _)⟩ ?_ ?_
 ·rintro i d Δ M' X hd ⟨x3,x4,x5,Z,rfl,rfl,ha,hn,hs,hb,hC⟩ k';simp only[c7];walk_at "rd";intro hz;refine aL (fun j Δ M'=>∃(x4 x5:Option D) (L:List Str),Δ=[some (D.tup (ord.map aw)),some (D.str a),some (D.ref q),some d,x4,x5]/\M'=aN M q (.lst (L.map .str))/\(∀x∈Z,x∈L)/\L.Nodup/\(∀x∈L,bA ord a x)/\(∀x∈L,x∈a::ord.map (·.2))/\(∀n y,n<j->ord[n]?=some y->y.1∈Z->y.2∈L)/\(iu ord Z->L=Z))
   ⟨_,_,Z,rfl,rfl,fun _ h=>h,hn,hs,hb,fun n y h=>absurd h (by lia),fun _=>rfl⟩ ?_ ?_
  ·rintro j d2 Δ M' X2 a3 ⟨y4,y5,L,rfl,rfl,g,o,C,z,S,hc⟩ k2;obtain⟨⟨b,c⟩,Y,rfl⟩:=fC a3;have Q:(b,c)∈ord:=O5 Y;have cP:L.length<=ord.length+1:=by
    have:=dn L (a::ord.map (·.2)) o z;simpa using this
   simp only[aw,iH,dB,c7,kz,al6];refine⟨_,rfl,?_⟩;walk_at "rd";refine⟨_,if_pos ⟨rfl,bN⟩,_,rfl,?_⟩;rw[bW];simp only[S5]
   by_cases J:b∈L
   ·simp only[J,decide_true,if_true];refine⟨_,if_pos ⟨rfl,bN⟩,_,rfl,?_⟩;rw[bW]
    by_cases N:c∈L
    ·simp only[N,decide_true,Bool.xor_true,aa9,J9,if_false];refine k2 _ _ ⟨_,_,L,rfl,rfl,g,o,C,z,fun n y a1 O G=>?_,hc⟩
     by_cases l:n<j
     ·exact S n y l O G
     ·have:n=j:=by lia
      subst this;rw[Y]at O;cases O;exact N
    ·simp only[N,decide_false,Bool.xor_false,if_true];refine⟨by rw[J0];exact K7 (by lia:L.length<1000) (sz3 1000),?_⟩;have ea:L.map D.str++[D.str c]=(L++[c]).map D.str:=by simp
     rw[ea];refine k2 _ _ ⟨_,_,L++[c],rfl,rfl,fun x U=>Q8 _ (g x U),?_,fun x U=>?_,fun x U=>?_,fun n y a1 O G=>?_,fun m=>?_⟩
     ·rw[ae5];refine⟨o,by simp,fun u hu v hv=>?_⟩;have:v=c:=by simpa using hv
      subst this;rintro rfl;exact N hu
     ·rcases L4.mp U with h|h
      ·exact C x h
      ·have:x=c:=by simpa using h
       subst this;exact bA.step (C b J) Q
     ·rcases L4.mp U with h|h
      ·exact z x h
      ·have:x=c:=by simpa using h
       subst this;exact P4 _ (M7.mpr ⟨_,Q,rfl⟩)
     ·by_cases l:n<j
      ·exact Q8 _ (S n y l O G)
      ·have:n=j:=by lia
       subst this;rw[Y]at O;cases O;simp
     ·have e:=hc m;rw[e]at J N;exact absurd (m _ Q J) N
   ·simp only[J,decide_false,J9,if_false];refine k2 _ _ ⟨_,_,L,rfl,rfl,g,o,C,z,fun n y a1 O G=>?_,hc⟩
    by_cases l:n<j
    ·exact S n y l O G
    ·have:n=j:=by lia
     subst this;rw[Y]at O;cases O;exact absurd (g _ G) J
  ·rintro Δ M' ⟨y4,y5,L,rfl,rfl,g,o,C,z,S,hc⟩;refine k' _ _ ⟨_,_,_,L,rfl,rfl,g a ha,o,C,z,?_⟩
   by_cases m:iu ord Z
   ·rw[hc m];exact .inl m
   ·right;have hk:=hC.resolve_left m;have:∃p∈ord,p.1∈Z/\p.2∉Z:=Z3 fun hn=>m fun p hp h1=>Z3 fun h2=>hn ⟨p,hp,h1,h2⟩;obtain⟨p,hp,h1,h2⟩:=this;obtain⟨n,a0,en⟩:=ak5.mp hp;have a5:p.2∈L:=S n p (by rw[J0];exact a0) (by rw[J6 a0,en]) h1;have:=wW g h2 a5 hp
    lia
 ·rintro Δ M' ⟨x3,x4,x5,L,rfl,rfl,ha,hn,hs,hb,hC⟩;have a4:iu ord L:=xO (by rw[bM]at hC;rcases hC with h|h;exact .inl h;right;assumption);walk_at "rd";rw[iD hq];exact k L ha a4 hs
theorem wL{l:List Int}{v:Int}(h0:0<=v) (c:v<(l.length:Int)):∃t∈l,atI (l.map D.int) v=some (.int t):=by
 obtain⟨n,rfl⟩:=ah9 h0;have a:n<l.length:=by lia
 exact⟨l[n],V6 a,cL (by simp[a])⟩
def qe:SpD:=fun e M R=>∃(c:List Int) (a:List Str),e=[.lst (c.map D.int),.lst (a.map D.str)]/\lu 7 c/\a≠[]/\a.length<=8/\∀o:List (Str×Str),o.length<=3->(∀x∈o,x.1∈a/\x.2∈a)->R (.tup (o.map aw)) M
theorem vO(F:Fun K "_law_order" "_law_order" lR f I) (T:Txt B) :aR P w K B base CX0 1 f I ["_law_numbers_here","_law_marks"] (spD K 2 qe):=by
 have G:=oF.nd;refine F.okR rfl oF (fun O A e s H E hr=>⟨_,(aj (aE (i:=2) G rfl (P0 rfl) (iL ag))
   (aj (cq P3 rfl (dG rfl T.b_range (af (ay bK (aU aV (aa 0) ah (fun _ _=>rfl)) ah) ag)) (aJ (i:=3) G rfl (P0 rfl)) (ak (fM (kJ (aa 2) (aY (af (aU aV (aa 1) (ay bK (aU aV (aa 0) (ay aG ah (ay jG ah (aa 3))) (fun _ _=>rfl)) (az bR rfl T.b_len (by kernel_rfl) (af (aa 1) ag))) (fun _ _=>rfl)) (af (aU aV (aa 1) (ay bK (aU aV (aa 0) (ay aG ah (ay jG ah (aa 3))) (fun _ _=>rfl)) (az bR rfl T.b_len (by kernel_rfl) (af (aa 1) ag))) (fun _ _=>rfl)) ag)))))))
   (ak (ik (bg cb rfl T.b_tuple (by kernel_rfl) (af (aa 2) ag)))))),fun ds M R _ hS bk=>?_⟩)
 obtain⟨Q,a,rfl,C,hw,a2,k⟩:=hS;obtain⟨x0,e0,a0,a1⟩:=C.at 0 (by decide);refine bk ?_;clear bk;have a3:=List.length_pos_iff.mpr hw;walk_at "rd";refine⟨sz3 0,fun p hp=>⟨_,e0,?_⟩⟩;walk_at "rd";refine⟨by lia,by lia,?_⟩;refine aL (fun i n j=>∃(o:List (Str×Str)) (g:Option D),n=[some (.lst (Q.map D.int)),some (.lst (a.map D.str)),some (.ref p),g]/\j=aN M p (.lst (o.map aw))/\o.length=i/\∀x∈o,x.1∈a/\x.2∈a) ⟨[],none,rfl,rfl,rfl,fun _ h=>by cases h⟩ ?_ ?_
 ·rintro i d n j X L ⟨o,g,rfl,rfl,q,c⟩ J;obtain⟨hi,rfl⟩:=cm L;refine⟨_,rfl,?_⟩;walk_at "rd";obtain⟨U,e1,b0,b1⟩:=C.at (1+2*i) (by lia);obtain⟨x2,Z,c0,c1⟩:=C.at (2+2*i) (by lia);rw[show(1:Int)+2*(0+(i:Int))=((1+2*i:Nat):Int)by lia,show(2:Int)+2*(0+(i:Int))=((2+2*i:Nat):Int)by lia];refine⟨_,e1,?_⟩;have u:(0:Int)<((a.map D.str).length:Int):=by rw[J0];lia
  walk_at "rd";simp only[u];walk_at "rd";rw[J0];obtain⟨m1,m,S⟩:=kX (ko:=a) (v:=U % a.length) (ac9 _ (by lia)) (ad5 _ (by lia));obtain⟨m2,l,N⟩:=kX (ko:=a) (v:=x2 % a.length) (ac9 _ (by lia)) (ad5 _ (by lia));refine⟨_,S,_,Z,?_⟩;walk_at "rd";refine⟨_,if_pos (by lia),_,N,?_⟩;refine⟨sz3 2,by rw[J0];exact K7 (by lia:o.length<1000) (sz3 1000),J _ _ ⟨o++[(m1,m2)],_,rfl,by rw[O2];rfl,by simp[q],fun z Y=>?_⟩⟩;rcases L4.mp Y with h|h
  ·exact c z h
  ·rw[K2.mp h];exact⟨m,l⟩
 ·rintro n j ⟨o,g,rfl,rfl,q,c⟩;walk_at "rd";rw[bM]at q;exact⟨_,mW hp,k o (by lia) c⟩
def sj:SpD:=fun c M R=>∃(n:Int) (a:List Str),c=[.int n,.lst (a.map D.str)]/\0<=n/\a≠[]/\a.length<=8/\∀s:Str×Int,s.1∈a->-2<=s.2->s.2<=2->R (ao s) M
theorem yL(F:Fun K "_law_sign" "_law_sign" oM f I) (T:Txt B) :aR P w K B base CX0 1 f I ["_law_number","_law_marks"] (spD K 2 sj):=by
 have C:=p7.nd;refine F.okR rfl p7 (fun j A a s H E G=>⟨_,(ak (aB (aY (af (aU aV (aa 1) (ay bK (aa 0) (az bR rfl T.b_len (by kernel_rfl) (af (aa 1) ag))) (fun _ _=>rfl)) (af (aU aV (iw (af ah (af ah (af (uL vw ah) (af ah (af ah (af (uL vw ah) (af ah (af (uL vw ah) ag))))))))) (ay bK (ay jS (aa 0) ah) ah) (fun _ _=>rfl)) ag))))),fun J M R _ z bk=>?_⟩);obtain⟨n,e,rfl,L,p,o,k⟩:=z;refine bk ?_;clear bk;have x:=List.length_pos_iff.mpr p;have g:(0:Int)<((e.map D.str).length:Int):=by rw[J0];lia
 walk_at "rd";simp only[g];walk_at "rd";rw[J0];obtain⟨q,c,m⟩:=kX (ko:=e) (v:=n % e.length) (ac9 _ (by lia)) (ad5 _ (by lia));obtain⟨u,h,i⟩:=wL (l:=[0,1,-1,0,1,-1,2,-2]) (v:=n / 7 % 8) (by lia) (by simp;lia);refine⟨_,m,sz3 8,_,i,sz3 2,k (q,u) c ?_ ?_⟩
 ·simp at h;simp only;lia
 ·simp at h;simp only;lia
def j7:SpD:=fun a M R=>∃(ord:List (Str×Str)) (x y:Str×Int),a=[.tup (ord.map aw),ao x,ao y]/\ord.length<=500/\R (.bl (x.2+1==y.2&&lB ord x.2 x.1 y.1)) M
theorem ue{ord:List (Str×Str)}{a b:Str}{L:List Str}(f:a∈L) (e:iu ord L) (c:∀x∈L,bA ord a x):(false ^^ decide (b∈L))=rB ord a b:=by
 rw[S5,S8,l8,decide_eq_true_eq];exact⟨fun h=>c b h,fun h=>iE f e h⟩
theorem ua(F:Fun K "_law_cancel" "_law_cancel" jR f I) (T:Txt B) (c:FnD P w K B base "_law_reached" 1 2 ml):aR P w K B base CX0 2 f I ["_law_order_here","_law_one","_law_other"] (spD K 3 j7):=by
 have x:=my.nd;refine F.okR rfl my (fun p A g s H E e=>⟨_,(aj (aZ (aI (pL e.units) (aU aV (aa 2) ah (fun _ _=>rfl)) (ay aG (aU aV (aa 1) ah (fun _ _=>rfl)) ah) nbh) (ak (aB eO)) aM)
   (aj (aZ (aI (eK e.units) (ay bK (aU aV (aa 1) ah (fun _ _=>rfl)) ah) ah nbh) (ak (aB (cC fF (aU aV (aa 2) ah (fun _ _=>rfl)) (qd c e (af (aa 0) (af (aU aV (aa 1) ah (fun _ _=>rfl)) ag))) rfl))) aM)
   (ak (aB (cC fF (aU aV (aa 1) ah (fun _ _=>rfl)) (qd c e (af (aa 0) (af (aU aV (aa 2) ah (fun _ _=>rfl)) ag))) rfl))))),fun z M R _ q bk=>?_⟩)
 obtain⟨ord,⟨a,t⟩,⟨b,u⟩,rfl,o,k⟩:=q;refine bk ?_;clear bk;simp only[ao];walk_at "rd";refine aW (fun h=>?_) (fun h=>?_)
 ·have m:(t+1==u)=false:=by simp at h ⊢;lia
  simp only[m,R5]at k;exact k
 ·have m:(t+1==u)=true:=by simp at h ⊢;lia
  simp only[m,U5]at k;refine aW (fun l=>?_) (fun l=>?_)
  ·rw[xg (by simpa using l)]at k;refine⟨ord,a,rfl,o,fun L n i j=>?_⟩;walk_at "rd";refine⟨_,if_pos ⟨rfl,bN⟩,?_⟩;rw[bW,ue n i j];exact k
  ·rw[Bt (by simpa using l)]at k;refine⟨ord,b,rfl,o,fun L n i j=>?_⟩;walk_at "rd";refine⟨_,if_pos ⟨rfl,bN⟩,?_⟩;rw[bW,ue n i j];exact k
noncomputable def JG(x:Int×Int):List Key:=[.inl x.1,.inl x.2]
def iy(n c:Nat) (a:List (List Key×D)):Prop:=∃e:List (Int×Int),a.map (fun p=>p.1)=e.map JG/\e.length<=c/\∀p∈e,0<=p.1/\p.1<=p.2/\p.2<=(n:Int)
theorem iy.le{n c d:Nat}{a:List (List Key×D)}(h:iy n c a) (g:c<=d):iy n d a:=let⟨j,i,f,e⟩:=h;⟨j,i,K4 f g,e⟩
theorem iy.len{n c:Nat}{a:List (List Key×D)}(h:iy n c a):a.length<=c:=by
 obtain⟨g,e,f,_⟩:=h;have:=congrArg al7 e;simp only[J0]at this
 lia
theorem iy.put{n c:Nat}{f:List (List Key×D)}{a b:Int}{v:D}(h:iy n c f) (o:0<=a) (m:a<=b) (l:b<=(n:Int)):iy n (c+1) (je f [.inl a,.inl b] v):=by
 obtain⟨j,e,q,i⟩:=h;unfold je
 split
 ·refine⟨j,?_,by exact P9 (by assumption),i⟩;rw[M0,<-e];refine S7 fun p _=>?_;simp only[ai6]
  split<;>rfl
 ·refine⟨j++[(a,b)],by rw[O2,O2,e];rfl,by simp;assumption,fun p g=>?_⟩;rcases L4.mp g with h|h
  ·exact i p h
  ·rw[K2.mp h];exact⟨o,m,l⟩
noncomputable def tri(n:Nat):Nat->Nat
 |0=>0
 |i+1=>tri n i+(n+1-i)
theorem vT{n:Nat}(h:n<=8):∀{i:Nat},tri n i<=9*i
 |0=>J7 _
 |i+1=>by
  have:=vT h (i:=i);simp only[tri];lia
theorem vX{n:Nat}(h:n<=8):tri n (n+1)<=45:=(show ∀n,n<=8->tri n (n+1)<=45 by decide) n h
def jA:SpD:=fun e M R=>∃(o:List (Str×Str)) (a:List (Str×Int)),e=[.tup (o.map aw),.tup (a.map ao)]/\o.length<=500/\a.length<=8/\∀(p:K1) (c:List (List Key×D)),M p=none->iy a.length 45 c->R (.ref p) (aN M p (.dT c))
theorem nQ(F:Fun K "_law_stretches" "_law_stretches" fJ f I) (T:Txt B) (S:FnD P w K B base "_law_cancel" 2 3 j7):aR P w K B base CX0 3 f I ["_law_order_here","_law_row"] (spD K 2 jA):=by
 have C:=hV.nd;refine F.okR rfl hV (fun a3 A U s H E O=>⟨_,(aj (aE (i:=2) C rfl (P0 rfl) JC)
   (aj (cq P3 rfl (dG rfl T.b_range (af (ay aG (az bR rfl T.b_len (by kernel_rfl) (af (aa 1) ag)) ah) ag)) (aJ (i:=3) C rfl (P0 rfl)) (ak (cq P3 rfl (dG rfl T.b_range (af (ay mh (ay aG (az bR rfl T.b_len (by kernel_rfl) (af (aa 1) ag)) ah) (aa 3)) ag)) (aJ (i:=4) C rfl (P0 rfl)) (aj (aE (i:=5) C rfl (P0 rfl) (ay aG (aa 4) (aa 3)))
   (aj (aE (i:=6) C rfl (P0 rfl) (cC (eK O.units) (aa 3) ah nbh))
   (aj (cq P3 rfl (kn rfl T.b_range (af (ay aG (aa 4) ah) (af (aa 5) ag))) (aJ (i:=7) C rfl (P0 rfl)) (aj (aE (i:=8) C rfl (P0 rfl) (bh (D5 false rfl O.units1 (af (ay aG (aa 4) ah) (af (aa 7) ag)) (aa 2) rfl) (cf (D5 false rfl O.units1 (af (ay aG (aa 7) ah) (af (aa 5) ag)) (aa 2) rfl))))
   (ak (aZ (gB (gz (bQ (aa 8)) (eP (bQ (qd S O (af (aa 0) (af (aU aV (aa 1) (aa 4) (fun _ _=>rfl)) (af (aU aV (aa 1) (aa 7) (fun _ _=>rfl)) ag)))))))) (ak (aE (i:=6) C rfl (P0 rfl) eO)) aM))))
   (ak (aZ (bQ (aa 6)) (ak (Gq O.units1 (aa 2) (af (aa 4) (af (aa 5) ag)) eO)) aM))))))))
   (ak (aB (aa 2))))),fun ds M R _ hS bk=>?_⟩)
 obtain⟨o,a,rfl,ho,hl,k⟩:=hS;refine bk ?_;clear bk;walk_at "rd";intro p hp;rw[J0,show((a.length:Int)+1).toNat=a.length+1 by lia];refine⟨by lia,by lia,?_⟩;refine aL (fun i x J=>∃(c:List (List Key×D)) (Y N L G m l:Option D),x=[some (.tup (o.map aw)),some (.tup (a.map ao)),some (.ref p),Y,N,L,G,m,l]/\J=aN M p (.dT c)/\iy a.length (tri a.length i) c) ⟨[],_,_,_,_,_,_,rfl,rfl,[],rfl,P1 _,fun _ h=>nomatch h⟩ ?_ ?_
 ·rintro i d x J X hd ⟨c,Y,N,L,G,m,l,rfl,rfl,z⟩ k';obtain⟨hi,rfl⟩:=cm hd;refine⟨_,rfl,?_⟩;walk_at "rd";rw[J0,show((a.length:Int)+1-(0+(i:Int))).toNat=a.length+1-i by lia];refine⟨by lia,by lia,?_⟩;refine aL (fun j x J=>∃(c:List (List Key×D)) (N L G m l:Option D),x=[some (.tup (o.map aw)),some (.tup (a.map ao)),some (.ref p),some (.int (0+(i:Int))),N,L,G,m,l]/\J=aN M p (.dT c)/\iy a.length (tri a.length i+j) c) ⟨c,_,_,_,_,_,rfl,rfl,z⟩ ?_ ?_
  ·rintro j d x J X2 a1 ⟨c,N,L,G,m,l,rfl,rfl,e⟩ k2;obtain⟨hj,rfl⟩:=cm a1;refine⟨_,rfl,?_⟩;refine bz (fun q M2=>q=[some (.tup (o.map aw)),some (.tup (a.map ao)),some (.ref p),some (.int (0+(i:Int))),some (.int (0+(j:Int))),some (.int (0+(j:Int)+(0+(i:Int)))),G,m,l]/\aN M p (.dT c)=M2) (fun nx u=>?_) ?_
   ·walk_at "rd";exact u _ _ ⟨rfl,rfl⟩
   rintro _ _ ⟨rfl,rfl⟩;refine bz (fun q M2=>(∃g:Bool,q=[some (.tup (o.map aw)),some (.tup (a.map ao)),some (.ref p),some (.int (0+(i:Int))),some (.int (0+(j:Int))),some (.int (0+(j:Int)+(0+(i:Int)))),some (.bl g),m,l])/\aN M p (.dT c)=M2) (fun nx u=>?_) ?_
   ·walk_at "rd";exact u _ _ ⟨⟨_,rfl⟩,rfl⟩
   rintro _ _ ⟨⟨g,rfl⟩,rfl⟩;refine bz (fun q M2=>(∃(g:Bool) (m l:Option D),q=[some (.tup (o.map aw)),some (.tup (a.map ao)),some (.ref p),some (.int (0+(i:Int))),some (.int (0+(j:Int))),some (.int (0+(j:Int)+(0+(i:Int)))),some (.bl g),m,l])/\aN M p (.dT c)=M2) (fun nx u=>?_) ?_
   ·walk_at "rd";refine⟨_,_,⟨rfl,rfl⟩,⟨by lia,by lia,by lia,by lia⟩,?_⟩;refine aL (fun _ x M2=>(∃(g:Bool) (m l:Option D),x=[some (.tup (o.map aw)),some (.tup (a.map ao)),some (.ref p),some (.int (0+(i:Int))),some (.int (0+(j:Int))),some (.int (0+(j:Int)+(0+(i:Int)))),some (.bl g),m,l])/\aN M p (.dT c)=M2) ⟨⟨g,_,_,rfl⟩,rfl⟩ ?_ ?_
    ·rintro t d x M2 X3 a2 ⟨⟨g,m,l,rfl⟩,rfl⟩ Q;obtain⟨ht,rfl⟩:=cm a2;refine⟨_,rfl,?_⟩;walk_at "rd";refine⟨sz3 2,aW (fun _=>⟨sz3 2,aW (fun _=>?_) (fun _=>Q _ _ ⟨⟨_,_,_,rfl⟩,rfl⟩)⟩) (fun _=>Q _ _ ⟨⟨_,_,_,rfl⟩,rfl⟩)⟩;have a0:atI (a.map ao) (0+(j:Int))=some (ao (sg a j)):=by rw[show(0:Int)+(j:Int)=((j:Nat):Int)by lia];exact wc (by lia)
     have Z:atI (a.map ao) (0+(j:Int)+1+(t:Int))=some (ao (sg a (j+1+t))):=by rw[show(0:Int)+(j:Int)+1+(t:Int)=((j+1+t:Nat):Int)by lia];exact wc (by lia)
     exact⟨_,a0,_,Z,o,_,_,rfl,ho,_,rfl,aW (fun _=>Q _ _ ⟨⟨_,_,_,rfl⟩,rfl⟩) (fun _=>Q _ _ ⟨⟨_,_,_,rfl⟩,rfl⟩)⟩
    ·rintro x M2 ⟨⟨g,m,l,rfl⟩,rfl⟩;exact u _ _ ⟨⟨g,m,l,rfl⟩,rfl⟩
   rintro _ _ ⟨⟨g,m,l,rfl⟩,rfl⟩;walk_at "rd";refine aW (fun _=>⟨sz3 2,K7 (by have:=e.len;have:=vT (n:=a.length) (i:=i) hl;lia:c.length<1000) (sz3 1000),k2 _ _ ⟨_,_,_,_,_,_,rfl,rfl,?_⟩⟩) (fun _=>k2 _ _ ⟨c,_,_,_,_,_,rfl,rfl,e.le (by lia)⟩);exact e.put (by lia) (by lia) (by lia)
  ·rintro x J ⟨c,N,L,G,m,l,rfl,rfl,e⟩;rw[bM]at e;exact k' _ _ ⟨c,_,_,_,_,_,_,rfl,rfl,e⟩
 ·rintro x J ⟨c,Y,N,L,G,m,l,rfl,rfl,z⟩;rw[bM]at z;walk_at "rd";exact k p c hp (z.le (vX hl))
def tW:SpD:=fun c M Q=>∃a:List (Str×Int),c=[.tup (a.map ao)]/\a.length<=24/\Q (.tup ((wsh a).map ao)) M
theorem yD(F:Fun K "_law_wish" "_law_wish" kc f I) (T:Txt B) :aR P w K B base CX0 1 f I ["_law_row"] (spD K 1 tW):=by
 have p:=pR.nd;refine F.okR rfl pR (fun g A c s H E G=>⟨_,(ak (aB (bg cb rfl T.b_tuple (by kernel_rfl) (af (eI (ms:=[false]) (aq:=["_law_mark","_law_turn"]) (aC (n0:=0) rfl (show aP (ai kc) lr _ _=true from by decide +kernel)) rfl (ba (tL (aa 0) (uL vw ah))) (j0 (n:=2) rfl (bZ (aH (i:=1) (show(lr++_).Nodup from by decide +kernel) rfl rfl) (bZ (aH (i:=2) (show(lr++_).Nodup from by decide +kernel) rfl rfl) jU))) (fun _ _ _ _=>bP) (fun _ _ _ _=>(aY (af (aa 1) (af (ay aG (aa 2) ah) ag))))) ag)))),fun J M R _ l bk=>?_⟩);obtain⟨h,rfl,C,k⟩:=l;refine bk ?_;clear bk;walk_at "rd";intro j;refine⟨j,?_⟩;rw[<-List.map_reverse];refine aX ao (fun _=>true) (fun x=>ao (x.1,x.2+1)) (fun e=>∃x y,e=[none,x,y]) _ _ _ (fun m z e a=>?_) ⟨none,none,rfl⟩ ?_
 ·obtain⟨x,y,rfl⟩:=a;refine⟨_,rfl,⟨_,_,rfl⟩,fun u q=>q,fun _ o q=>?_⟩;walk_at "rd";exact⟨sz3 2,q⟩
 ·rw[O8,Q4.mpr (fun _ _=>rfl)];unfold wsh at k;rw[M0]at k;exact k
noncomputable def lX(n:Int):D->Bool
 |.int a=>decide (0<=a)&&decide (a<=n)
 |_=>false
def nM:SpD:=fun a M R=>∃(d:D) (n:Int),a=[d,.int n]/\ar d=true/\R (.bl (lX n d)) M
theorem tS(F:Fun K "_law_is_end" "_law_is_end" jI f I) (T:Txt B) :aR P w K B base CX0 1 f I ["_law_thing","_law_size_of"] (spD K 2 nM):=by
 have i:=mj.nd;refine F.okR rfl mj (fun e A c s H E j=>⟨_,(ak (aB (bh (cH (Tn:="int") (by decide) rfl T.b_isinstance rfl T.b_int (by kernel_rfl) (aa 0)) (bh (yT (cH (Tn:="bool") (by decide) rfl T.b_isinstance rfl T.b_bool (by kernel_rfl) (aa 0))) (cf (qO nk nk ah (aa 0) (aa 1))))))),fun l M R _ g bk=>?_⟩);obtain⟨d,n,rfl,a,k⟩:=g;refine bk ?_;clear bk;walk_at "rd";simp only[bO a];cases d with
 |int t =>
  refine⟨true,rfl,?_⟩;simp only[if_true];refine⟨false,rfl,?_⟩;simp only[lX]at k;rw[if_pos (by decide)];walk_at "rd";refine aW (fun h=>?_) (fun h=>?_)
  ·rw[decide_eq_true h,U5]at k;exact k
  ·rw[decide_eq_false h,R5]at k;exact k
 |bl b=>exact⟨true,rfl,by simp only[if_true];exact⟨true,rfl,k⟩⟩
 |scr _=>simp[ar]at a
 |ref _=>simp[ar]at a
 |box _ _=>simp[ar]at a
 |_=>exact⟨false,rfl,by simp only[J9,if_false];exact k⟩
theorem uC{ord:List (Str×Str)}{a x y:Str}(h:bA (sw ord) a x) (c:(x,y)∈ord∨(y,x)∈ord):bA (sw ord) a y:=by
 refine bA.step h ?_;unfold sw;rcases c with z|z
 ·exact Q8 _ z
 ·exact N6 _ (M7.mpr ⟨_,z,rfl⟩)
def Bf(ord:List (Str×Str)) (L:List Str):Prop:=∀y∈ord,y.1∈L↔y.2∈L
theorem sy{ord:List (Str×Str)}{L:List Str}(h:Bf ord L):∀y∈sw ord,y.1∈L->y.2∈L:=fun y a c=>by
 unfold sw at a;rcases L4.mp a with z|z
 ·exact(h y z).mp c
 ·obtain⟨x,e,rfl⟩:=M7.mp z;exact(h x e).mpr c
noncomputable def bo(ord:List (Str×Str)) (F:List Str):Nat:=(ord.filter fun p=>decide (p.1∈F)&&decide (p.2∈F)).length
theorem v7{F G:List Str}(h:∀x∈F,x∈G):∀{ord:List (Str×Str)},bo ord F<=bo ord G
 |[]=>J7 _
 |p::ord=>by
  have ih:=v7 h (ord:=ord);unfold bo at ih ⊢
  by_cases a:p.1∈F/\p.2∈F
  ·rw[Q6 (by simpa using a),Q6 (by simpa using⟨h _ a.1,h _ a.2⟩)];rw[M8,M8];lia
  ·rw[S9 (by simpa using a)]
   by_cases c:p.1∈G/\p.2∈G
   ·rw[Q6 (by simpa using c)];rw[M8];exact P9 (by assumption)
   ·rw[S9 (by simpa using c)];exact ih
theorem D1{F G:List Str}(h:∀x∈F,x∈G) {q:Str×Str}(j:¬ (q.1∈F/\q.2∈F)) (i:q.1∈G/\q.2∈G):∀{ord:List (Str×Str)},q∈ord->bo ord F<bo ord G
 |p::ord,c=>by
  have g:=v7 h (ord:=ord);rcases L1.mp c with e|c
  ·subst e;unfold bo at g ⊢;rw[S9 (by simpa using j),Q6 (by simpa using i)];rw[M8];lia
  ·have ih:=D1 h j i c;unfold bo at g ih ⊢
   by_cases a:p.1∈F/\p.2∈F
   ·rw[Q6 (by simpa using a),Q6 (by simpa using⟨h _ a.1,h _ a.2⟩)];rw[M8,M8];lia
   ·rw[S9 (by simpa using a)]
    by_cases f:p.1∈G/\p.2∈G
    ·rw[Q6 (by simpa using f)];rw[M8];exact P9 (by assumption)
    ·rw[S9 (by simpa using f)];exact ih
theorem uU{F:List Str}:∀{ord:List (Str×Str)},ord.length<=bo ord F->∀p∈ord,p.1∈F/\p.2∈F
 |p::ord,h,q,c=>by
  have f:bo ord F<=ord.length:=af6 _ _;unfold bo at h f
  by_cases a:p.1∈F/\p.2∈F
  ·rcases L1.mp c with e|c
   ·subst e;exact a
   ·refine uU (ord:=ord) ?_ q c;unfold bo;rw[Q6 (by simpa using a)]at h;rw[M8,M8]at h;lia
  ·rw[S9 (by simpa using a)]at h;rw[M8]at h;lia
noncomputable def bth(ord:List (Str×Str)):List Str:=ord.flatMap fun y=>[y.1,y.2]
theorem wa(ord:List (Str×Str)):(bth ord).length=2*ord.length:=by
 unfold bth
 induction ord with
 |nil=>rfl
 |cons y ord ih=>rw[List.flatMap_cons,N7,ih];simp;lia
theorem v8{ord:List (Str×Str)}{y:Str×Str}(h:y∈ord):y.1∈bth ord/\y.2∈bth ord:=⟨List.mem_flatMap.mpr ⟨y,h,by simp⟩,List.mem_flatMap.mpr ⟨y,h,by simp⟩⟩
def tT:SpD:=fun c M Q=>∃(ord:List (Str×Str)) (a:Str),c=[.tup (ord.map aw),.str a]/\ord.length<=20 /\
 ∀L:List Str,L.length<=100->(∀x,x∈L↔bA (sw ord) a x)->Q (.lst (L.map .str)) M
theorem yj(F:Fun K "_law_hang" "_law_hang" nH f I) (T:Txt B) :aR P w K B base CX0 1 f I ["_law_order_here","_law_mark"] (spD K 2 tT):=by
 have Z:=qH.nd;refine F.okR rfl qH (fun a9 A a3 s H E hr=>⟨_,(aj (aE (i:=2) Z rfl (P0 rfl) (iw (af (aa 1) ag)))
   (aj (cq P3 rfl (dG rfl T.b_range (af (az bR rfl T.b_len (by kernel_rfl) (af (aa 0) ag)) ag)) (aJ (i:=3) Z rfl (P0 rfl)) (ak (cq P3 rfl (ba (aa 0)) (ix rfl (bw (aJ (i:=4) Z rfl (P0 rfl)) (bw (aJ (i:=5) Z rfl (P0 rfl)) gU))) (ak (aZ (aI (pL hr.units) (cC fF (aa 4) (aa 2) rfl) (cC fF (aa 5) (aa 2) rfl) nbh) (ak (aE (i:=2) Z rfl (P0 rfl) (ay aG (aa 2) (iw (af (aU aV (iw (af (aa 4) (af (aa 5) ag))) (bg Ih rfl T.b_int (by kernel_rfl) (af (cC fF (aa 4) (aa 2) rfl) ag)) (fun _ _=>rfl)) ag))))) aM)))))
   (ak (aB (aa 2))))),fun ds M R _ hS bk=>?_⟩)
 obtain⟨ord,a,rfl,ho,k⟩:=hS;refine bk ?_;clear bk;walk_at "rd";rw[J0];refine⟨sz3 1,by lia,by lia,?_⟩;refine aL (fun t S M'=>∃(L:List Str) (x3 N Q:Option D),S=[some (.tup (ord.map aw)),some (.str a),some (.lst (L.map .str)),x3,N,Q]/\M'=M/\L.Nodup/\a∈L/\(∀x∈L,bA (sw ord) a x)/\(∀x∈L,x∈a::bth ord)/\(Bf ord L∨t<=bo ord L)) ⟨[a],_,_,_,rfl,rfl,by simp,by simp,fun x p=>by rw[K2.mp p];exact bA.refl,fun x p=>by rw[K2.mp p];simp,.inr (P1 _)⟩ ?_ ?_
 ·rintro t d S M' X hd ⟨C,x3,N,Q,rfl,rfl,a6,U,a0,a4,a2⟩ k2;simp only[c7];refine⟨_,rfl,?_⟩;walk_at "rd";intro hz;refine aL (fun j S M2=>∃(L:List Str) (N Q:Option D),S=[some (.tup (ord.map aw)),some (.str a),some (.lst (L.map .str)),some d,N,Q]/\M2=M'/\(∀x∈C,x∈L)/\L.Nodup/\(∀x∈L,bA (sw ord) a x)/\(∀x∈L,x∈a::bth ord)/\(L=C/\(∀y∈ord.take j,y.1∈C↔y.2∈C)∨bo ord C<bo ord L)) ⟨C,_,_,rfl,rfl,fun _ h=>h,a6,a0,a4,.inl ⟨rfl,fun y o=>by simp at o⟩⟩ ?_ ?_
  ·rintro j d2 S M2 X2 a5 ⟨L,N,Q,rfl,rfl,l,O,hs,J,q⟩ k3;obtain⟨⟨b,c⟩,o,rfl⟩:=fC a5;have n:(b,c)∈ord:=O5 o;have a7:ord.take (j+1)=ord.take j++[(b,c)]:=by rw[X6,o];rfl
   have cP:L.length<=2*ord.length+1:=by
    have:=dn L (a::bth ord) O J;rw[M8,wa]at this;exact this
   simp only[aw,iH,dB,c7,kz,al6];refine⟨_,rfl,?_⟩;walk_at "rd";refine⟨_,if_pos ⟨rfl,bN⟩,_,if_pos ⟨rfl,bN⟩,_,Ak,_,rfl,?_⟩;rw[bW,bW,S5,S5];have same:(b∈L↔c∈L)->X2 [some (D.tup (aq8 aw ord)),some (D.str a),some (D.lst (aq8 D.str L)),some d,some (D.str b),some (D.str c)] M2:=fun a8=>by
    refine k3 _ _ ⟨L,_,_,rfl,rfl,l,O,hs,J,?_⟩;rcases q with⟨rfl,h⟩|h
    ·refine .inl ⟨rfl,fun y o=>?_⟩;rw[a7]at o;rcases L4.mp o with z|z
     ·exact h y z
     ·rw[K2.mp z];exact a8
    ·exact .inr h
   have more:∀m,m∉L->bA (sw ord) a m->m∈bth ord->¬ (b∈L/\c∈L)->(b∈L++[m]/\c∈L++[m])->X2 [some (D.tup (aq8 aw ord)),some (D.str a),some (D.lst (aq8 D.str L++[D.str m])),some d,some (D.str b),some (D.str c)] M2:=fun m hm hr a1 Y h2=>by
    refine k3 _ _ ⟨L++[m],_,_,by rw[O2];rfl,rfl,fun x p=>Q8 _ (l x p),?_,fun x p=>?_,fun x p=>?_,.inr ?_⟩
    ·rw[ae5];refine⟨O,by simp,fun u hu v hv=>?_⟩;rw[K2.mp hv];rintro rfl;exact hm hu
    ·rcases L4.mp p with z|z
     ·exact hs x z
     ·rw[K2.mp z];exact hr
    ·rcases L4.mp p with z|z
     ·exact J x z
     ·rw[K2.mp z];exact P4 _ a1
    ·have h3:=D1 (F:=L) (G:=L++[m]) (fun x p=>Q8 _ p) Y h2 n;rcases q with⟨rfl,_⟩|h
     ·exact h3
     ·lia
   by_cases g:b∈L
   ·by_cases e:c∈L
    ·simp only[g,e,decide_true];exact same (by simp[g,e])
    ·simp only[g,e,decide_true,decide_false];refine⟨sz3 2,_,if_pos ⟨rfl,bN⟩,.int 1,?_,.str c,rfl,sz3 1,_,if_pos (by rw[J0];exact sz3 _ (by lia)),more c e (uC (hs b g) (.inl n)) (v8 n).2 (fun h=>e h.2) ⟨Q8 _ g,by simp⟩⟩;rfl
   ·by_cases e:c∈L
    ·simp only[g,e,decide_true,decide_false];refine⟨sz3 2,_,if_pos ⟨rfl,bN⟩,.int 0,?_,.str b,rfl,sz3 1,_,if_pos (by rw[J0];exact sz3 _ (by lia)),more b g (uC (hs c e) (.inr n)) (v8 n).1 (fun h=>g h.1) ⟨by simp,Q8 _ e⟩⟩;rfl
    ·simp only[g,e,decide_false];exact same (by simp[g,e])
  ·rintro S M2 ⟨L,N,Q,rfl,rfl,l,O,hs,J,q⟩;rw[J0,ad7]at q;refine k2 _ _ ⟨L,_,_,_,rfl,rfl,O,l a U,hs,J,?_⟩;rcases q with⟨rfl,h⟩|h
   ·exact .inl h
   ·rcases a2 with h0|h0
    ·left;have cl:∀x,bA (sw ord) a x->x∈C:=fun x p=>iE U (sy h0) p;exact fun y o=>⟨fun Y=>l _ ((h0 y o).mp (cl _ (hs _ Y))),fun Y=>l _ ((h0 y o).mpr (cl _ (hs _ Y)))⟩
    ·right;lia
 ·rintro S M' ⟨L,x3,N,Q,rfl,rfl,O,ha,hs,J,q⟩;rw[bM]at q;have hE:Bf ord L:=by
   rcases q with h|h
   ·exact h
   ·exact fun y o=>⟨fun _=>(uU (by assumption) y o).2,fun _=>(uU (by assumption) y o).1⟩
  have cP:L.length<=2*ord.length+1:=by
   have:=dn L (a::bth ord) O J;rw[M8,wa]at this;exact this
  walk_at "rd";exact k L (by lia) fun x=>⟨hs x,iE ha (sy hE)⟩
theorem AL{ord:List (Str×Str)}{a:Str}:∀{row:List (Str×Int)},hs ord row a=((row.filter fun y=>rB (sw ord) a y.1&&(y.2 % 2==1)).length:Int)-((row.filter fun y=>rB (sw ord) a y.1&&(y.2 % 2==0)).length:Int)
 |[]=>rfl
 |y::row=>by
  have ih:=AL (ord:=ord) (a:=a) (row:=row);unfold hs at ih ⊢;cases c:rB (sw ord) a y.1 with
  |false=>simpa[V7,c]using ih
  |true =>
   rw[Q6 (p:=fun y:Str×Int=>rB (sw ord) a y.1) c,L7,List.sum_cons,ih]
   by_cases h:y.2 % 2=1
   ·rw[Q6 (by simp[c,h]),S9 (by simp[c,h]),if_pos h,M8]
    lia
   ·have e:y.2 % 2=0:=by lia
    rw[S9 (by simp[c,e]),Q6 (by simp[c,e]),if_neg h,M8]
    lia
def mI:SpD:=fun e M Q=>∃(ord:List (Str×Str)) (c:List (Str×Int)) (a:Str),e=[.tup (ord.map aw),.tup (c.map ao),.str a]/\ord.length<=20/\c.length<=24/\Q (.bl (!decide (hs ord c a=0))) M
theorem sd(F:Fun K "_law_counted" "_law_counted" dO f I) (T:Txt B) (C:FnD P w K B base "_law_hang" 1 2 tT):aR P w K B base CX0 2 f I ["_law_order_here","_law_row","_law_mark"] (spD K 3 mI):=by
 have G:=kR.nd;refine F.okR rfl kR (fun N A p s H E m=>⟨_,(aj (aE (i:=3) G rfl (at1 rfl) (qd C m (af (aa 0) (af (aa 2) ag))))
   (aj (aE (i:=4) G rfl (P0 rfl) (az bR rfl T.b_len (by kernel_rfl) (af (eI (ms:=[false,false,false,true,false]) (aq:=["_law_one","_law_turn"]) (aC rfl (show aP (ai dO) cu _ _=true from by decide +kernel)) rfl (ba (aa 1)) (j0 (n:=2) rfl (bZ (aH (i:=5) (show(cu++_).Nodup from by decide +kernel) rfl rfl) (bZ (aH (i:=6) (show(cu++_).Nodup from by decide +kernel) rfl rfl) jU))) (fun _ _ _ _=>(nv (gB (gz (aI fF (aa 5) (aa 3) rfl) (eP (aI (eK m.units) (ay bK (aa 6) ah) ah nbh)))))) (fun _ _ _ _=>ah)) ag)))
   (ak (aB (cC (pL m.units) (aa 4) (az bR rfl T.b_len (by kernel_rfl) (af (eI (ms:=[false,false,false,true,false]) (aq:=["_law_one","_law_turn"]) (aC rfl (show aP (ai dO) cu _ _=true from by decide +kernel)) rfl (ba (aa 1)) (j0 (n:=2) rfl (bZ (aH (i:=5) (show(cu++_).Nodup from by decide +kernel) rfl rfl) (bZ (aH (i:=6) (show(cu++_).Nodup from by decide +kernel) rfl rfl) jU))) (fun _ _ _ _=>(nv (gB (gz (aI fF (aa 5) (aa 3) rfl) (eP (aI (eK m.units) (ay bK (aa 6) ah) ah nbh)))))) (fun _ _ _ _=>ah)) ag)) nbh))))),fun ds M R _ U bk=>?_⟩)
 obtain⟨ord,g,a,rfl,S,hl,k⟩:=U;refine bk ?_;clear bk;walk_at "rd";refine⟨ord,a,rfl,S,fun L hL O=>?_⟩;have X:∀y:Str×Int,decide (y.1∈L)=rB (sw ord) a y.1:=fun y=>by rw[S8,decide_eq_true_eq,l8,O]
 have one:∀(c:Int) (z:Option D) (l:List D->DH->Prop),l ((g.filter fun y=>rB (sw ord) a y.1&&(y.2 % 2==c)).map fun _=>D.int 1) M->cV (iH (dB (c7 5) (dB (c7 6) kz)) 2)
   (xu (jV (dOp (inE false) (mN 5) (mN 3))) (jV (dOp eqF (dOp (iOp fun i j=>if 0<j then some (D.int (i % j))else none) (mN 6) (dC (D.int 2))) (dC (D.int c))))) (dC (D.int 1)) (g.map ao)
   [none,none,none,some (.lst (L.map .str)),none,none,none] M [] l:=fun c z l q=>by
  refine aX ao (fun y=>rB (sw ord) a y.1&&(y.2 % 2==c)) (fun _=>D.int 1) (fun J=>∃x y,J=[none,none,none,some (.lst (L.map .str)),none,x,y]) g _ _ (fun y Z J o=>?_) ⟨none,none,rfl⟩ (by rw[O8];exact q);obtain⟨x,z,rfl⟩:=o;refine⟨_,rfl,⟨_,_,rfl⟩,fun Y q=>?_,fun _ l q=>?_⟩
  ·walk_at "rd";refine⟨_,if_pos ⟨rfl,bN⟩,_,rfl,?_⟩;rw[bW,S5,X];refine aW (fun h=>?_) (fun h=>?_)
   ·rw[h,U5]at q;exact q
   ·rw[show rB (sw ord) a y.1=false by simpa using h,R5]at q;exact q
  ·walk_at "rd";exact q
 show(g.map ao).length<=K0->_;intro Q;refine⟨Q,one 0 none _ fun u=>⟨u,one 1 none _ ?_⟩⟩;rw[J0,J0];have e:(!((g.filter fun y=>rB (sw ord) a y.1&&(y.2 % 2==0)).length:Int)==((g.filter fun y=>rB (sw ord) a y.1&&(y.2 % 2==1)).length:Int))=!decide (hs ord g a=0):=by
  rw[AL,S8];simp
  lia
 first|exact e▸k|(rw[<-e]at k;exact k)
def uX(o:List (Str×Str)) (row:List (Str×Int)) (ps:List (Nat×Nat)) (i j:Nat):Prop:=i=j∨(i+1<j/\cB o (sg row i) (sg row (j-1))=true/\(i+1,j-1)∈ps)∨∃k,i<=k/\k<=j/\(i,k)∈ps/\(k,j)∈ps
theorem BN{o:List (Str×Str)}{row:List (Str×Int)}{ps:List (Nat×Nat)}(n:∀x∈ps,x.1<=x.2/\x.2<=row.length) (h:qW o row ps) {i j:Nat}(q:i<=j) (g:j<=row.length) (e:uX o row ps i j):(i,j)∈ps:=by
 obtain⟨_,m,_,l,f⟩:=h;rcases e with rfl|⟨p,a,c⟩|⟨k,_,_,a,c⟩
 ·exact m i g
 ·have:=l _ c (i,j) (by
   unfold arn;simp only;rw[if_pos ⟨by lia,by lia,by rw[Nat.add_sub_cancel];exact a⟩];congr 2<;>lia)
  exact this
 ·exact f i k j a c
theorem C2{o:List (Str×Str)}{row:List (Str×Int)}{ps:List (Nat×Nat)}(e:∀x∈ps,x.1<=x.2/\x.2<=row.length) (hr:lI ps=true) (u:(0,row.length)∉ps) (h:∀i j,i<=j->j<=row.length->uX o row ps i j->(i,j)∈ps):qW o row ps:=by
 refine⟨hr,fun i w=>h i i (J7 _) w (.inl rfl),u,fun x q y f=>?_,fun a b c s n=>?_⟩
 ·obtain⟨a,b⟩:=x;have m:=e _ q;unfold arn at f
  split at f
  ·rename_i p;cases f;simp only at m p ⊢;refine h _ _ (by lia) (by lia) (.inr (.inl ⟨by lia,?_,?_⟩))
   ·rw[Nat.add_sub_cancel];exact p.2.2
   ·rw[Nat.add_sub_cancel,Nat.sub_add_cancel (by lia)];exact q
  ·cases f
 ·have g:=e _ s;have l:=e _ n;simp only at g l;exact h a c (by lia) (by lia) (.inr (.inr ⟨b,by lia,by lia,s,n⟩))
theorem FB{a b:List (Int×Int)}:neF (.lst (a.map pD)) (.lst (b.map pD))=some (.bl (!decide (a=b))):=Dd pD (fun x y=>by
 obtain⟨a,b⟩:=x;obtain⟨c,d⟩:=y;rw[S8];simp[pD,eqD,dY]) (fun _=>rfl)
theorem wC{x y:Nat×Nat}:leP (stI x) (stI y)=true/\x≠y↔ltN x y=true:=by
 obtain⟨a,b⟩:=x;obtain⟨c,d⟩:=y;have h:leP (stI (a,b)) (stI (c,d))=true↔a<c∨(a=c/\b<=d):=by
  show(! (decide ((c:Int)<a) || (decide ((c:Int)=a)&&decide ((d:Int)<b))))=true↔_
  by_cases e:(c:Int)<a
  ·rw[decide_eq_true e];simp;lia
  ·by_cases f:(c:Int)=a
   ·by_cases g:(d:Int)<b
    ·rw[decide_eq_false e,decide_eq_true f,decide_eq_true g];simp;lia
    ·rw[decide_eq_false e,decide_eq_true f,decide_eq_false g];simp;lia
   ·rw[decide_eq_false e,decide_eq_false f];simp;lia
 rw[h];simp only[ltN,decide_eq_true_eq,ne_eq,as9]
 lia
theorem Cw{ps:List (Nat×Nat)}{g:List (Int×Int)}(h:(ps.map kP).foldl aS []=g.map kIP):decide (ps.map stI=iI g)=lI ps:=by
 have i:(g.map kIP).Nodup:=by rw[<-h];exact kO _ _ an8
 rw[S8,decide_eq_true_eq,k9];constructor
 ·intro e;have m:=tP g;have l:(iI g).Nodup:=(jQ g).nodup_iff.mpr (ar8.of_map kIP (fun a b c e=>c (by rw[e])) i);rw[<-e]at m l;exact((ak3.mp m).and (ak3.mp l)).imp fun {a b} c=>wC.mp ⟨c.1,fun e=>c.2 (by rw[e])⟩
 ·intro j;have n:(ps.map kP).foldl aS []=ps.map kP:=mf (wH (rh (k9.mpr j)));rw[n,show ps.map kP=(ps.map stI).map kIP by rw[M0];rfl]at h;rw[<-(List.map_inj_right (f:=kIP) (fun x y e=>by
   simp only[kIP,S4,KD.int.injEq,and_true]at e;exact ax1 e.1 e.2)).mp h]
  refine oC (ar0 _) ?_;rw[ak3];exact j.imp fun {a b} c=>(wC.mpr c).1
theorem Dz{a b:Int}{x:Nat×Nat}(e:a=(x.1:Int)) (c:b=(x.2:Int)):D.tup [.int a,.int b]=eM (kP x):=by subst e;subst c;rfl
theorem AN{n:Int}{a b:D}(h:lX n a=true/\lX n b=true):∃x y:Int,a=.int x/\b=.int y/\(0<=x/\x<=n)/\(0<=y/\y<=n):=by
 cases a with
 |int x =>
  cases b with
  |int y =>
   simp only[lX,O1,decide_eq_true_eq]at h;exact⟨x,y,rfl,rfl,h⟩
  |_=>simp[lX]at h
 |_=>simp[lX]at h
theorem Ck{n:Int}{a b:D}(h:¬ (lX n a=true/\lX n b=true)):fO n (.tup [a,b])=false:=by
 simp only[fO];cases a with
 |int x =>
  cases b with
  |int y =>
   simp[lX]at h;simp[leB]
   lia
  |_=>rfl
 |_=>rfl
theorem xX{d:D}{n:Int}(c:ar d=true):(xB "tuple" d=some false/\fO n d=false)∨(∃a b,d=.tup [a,b])∨∃ds,d=.tup ds/\¬ ds.length=2/\fO n d=false:=by
 cases d with
 |tup ds =>
  by_cases h:ds.length=2
  ·obtain⟨a,b,rfl⟩:=kU h;exact .inr (.inl ⟨a,b,rfl⟩)
  ·exact .inr (.inr ⟨ds,rfl,h,oi h⟩)
 |scr _=>simp[ar]at c
 |ref _=>simp[ar]at c
 |box _ _=>simp[ar]at c
 |_=>exact .inl ⟨rfl,rfl⟩
def m9:SpD:=fun c M Q=>∃(o:List (Str×Str)) (a:List (Str×Int)) (d:D),c=[.tup (o.map aw),.tup (a.map ao),d]/\o.length<=500/\a.length<=60/\tM d/\Q (.bl (sG o a d)) M
theorem sT(F:Fun K "_law_closed" "_law_closed" eZ f I) (T:Txt B) (b5:FnD P w K B base "_law_is_end" 1 2 nM) (b0:FnD P w K B base "_law_cancel" 2 3 j7):aR P w K B base CX0 3 f I ["_law_order_here","_law_row","_law_pairs"] (spD K 3 m9):=by
 have nd:=mq.nd;refine F.okR rfl mq (fun c4 A b2 s H E S=>⟨_,(aj (aE (i:=3) nd rfl (at1 rfl) (az bR rfl T.b_len (by kernel_rfl) (af (aa 1) ag)))
   (cX (aj (aZ (dQ (bQ (cH (Tn:="tuple") (by decide) rfl T.b_isinstance rfl T.b_tuple (by kernel_rfl) (aa 2)))) (ak (aB eO)) aM)
   (cX (aj (cq P3 rfl (ba (aa 2)) (aJ (i:=4) nd rfl (P0 rfl)) (aj (aZ (gB (gV (dQ (bQ (cH (Tn:="tuple") (by decide) rfl T.b_isinstance rfl T.b_tuple (by kernel_rfl) (aa 4)))) (fI (aI (pL S.units) (az bR rfl T.b_len (by kernel_rfl) (af (aa 4) ag)) ah nbh)))) (ak (aB eO)) aM)
   (cX (ak (aZ (gB (gV (dQ (bQ (az (j9 rfl) rfl T.b_all (by kernel_rfl) (af (eI (ms:=[false,false,false,true,false,false,false,false,false,false]) (aq:=["_law_end"]) (aC rfl (show aP (ai eZ) fk _ _=true from by decide +kernel)) rfl (ba (aa 4)) (aH (i:=10) (show(fk++_).Nodup from by decide +kernel) rfl rfl) (fun _ _ _ _=>bP) (fun _ _ _ _=>(qd b5 S (af (aa 10) (af (aa 3) ag))))) ag)))) (fI (aI Er (aU aV (aa 4) ah (fun _ _=>rfl)) (aU aV (aa 4) ah (fun _ _=>rfl)) nbh)))) (ak (aB eO)) aM)))))
   (cX (aj (aE (i:=5) nd rfl (P0 rfl) (Cq (w:=w) rfl S.units rfl T.b_dict (eI (ms:=[false,false,false,false,false,false,false,false,false,false]) (aq:=[]) (aC rfl (show aP (ai eZ) fk _ _=true from by decide +kernel)) rfl (ba (aa 2)) (aH (i:=4) (show(fk++_).Nodup from by decide +kernel) rfl rfl) (fun _ _ _ _=>bP) (fun _ _ _ _=>(aY (af (aa 4) (af eO ag)))))))
   (cX (aj (aZ (gB (gV (aI (pL S.units) (bg u6 rfl T.b_list (by kernel_rfl) (af (aa 2) ag)) (zb (w:=w) rfl rfl T.b_sorted (aa 5)) nbh) (fI (rE (w:=w) false rfl S.units (aY (af ah (af (aa 3) ag))) (aa 5) rfl)))) (ak (ik eO)) aM)
   (cX (aj (cq P3 rfl (dG rfl T.b_range (af (ay aG (aa 3) ah) ag)) (aJ (i:=6) nd rfl (P0 rfl)) (ak (cq P3 rfl (kn rfl T.b_range (af (aa 6) (af (ay aG (aa 3) ah) ag))) (aJ (i:=7) nd rfl (P0 rfl)) (aj (aE (i:=8) nd rfl (P0 rfl) (cC (eK S.units) (aa 6) (aa 7) nbh))
   (aj (aZ (gB (gz (aI xT (ay aG (aa 6) ah) (aa 7) nbh) (eP (bQ (qd b0 S (af (aa 0) (af (aU aV (aa 1) (aa 6) (fun _ _=>rfl)) (af (aU aV (aa 1) (ay mh (aa 7) ah) (fun _ _=>rfl)) ag)))))))) (ak (aE (i:=8) nd rfl (P0 rfl) (Hc (w:=w) false rfl S.units (aY (af (ay aG (aa 6) ah) (af (ay mh (aa 7) ah) ag))) (aa 5) rfl))) aM)
   (aj (cq P3 rfl (kn rfl T.b_range (af (aa 6) (af (ay aG (aa 7) ah) ag))) (aJ (i:=9) nd rfl (P0 rfl)) (ak (aZ (gB (gz (rE (w:=w) false rfl S.units (aY (af (aa 6) (af (aa 9) ag))) (aa 5) rfl) (eP (rE (w:=w) false rfl S.units (aY (af (aa 9) (af (aa 7) ag))) (aa 5) rfl)))) (ak (aE (i:=8) nd rfl (P0 rfl) eO)) aM)))
   (ak (aZ (gB (gz (bQ (aa 8)) (eP (rE (w:=w) true rfl S.units (aY (af (aa 6) (af (aa 7) ag))) (aa 5) rfl)))) (ak (ik eO)) aM))))))))
   (ak (ik eO))))))))))))),fun ds M R _ hS bk=>?_⟩)
 obtain⟨o,c,d,rfl,ho,hl,hd,k⟩:=hS;refine bk ?_;clear bk;walk_at "rd";refine bq ?_;walk_at "rd";rw[J0];simp only[bO hd.1];have no:(¬ ∃l:List (Nat×Nat),d=.tup (l.map stD)/\(∀x∈l,x.1<=x.2/\x.2<=c.length)/\qW o c l)->R (.bl false) M:=fun h=>by
  rw[ve h]at k;exact k
 by_cases ht:∀O,d≠.tup O
 ·have hi:xB "tuple" d=some false:=by
   cases d with
   |tup O=>exact(ht O rfl).elim
   |scr _=>exact absurd hd.1 (by simp[ar])
   |ref _=>exact absurd hd.1 (by simp[ar])
   |box _ _=>exact absurd hd.1 (by simp[ar])
   |_=>rfl
  refine⟨_,hi,?_⟩;rw[if_pos (by decide)];exact no fun z163z=>(by obtain⟨l,e,_⟩:=z163z;exact ht _ e)
 obtain⟨O,rfl⟩:∃O,d=.tup O:=by
  cases d with
  |tup O=>exact⟨O,rfl⟩
  |_=>exact(ht fun O e=>by cases e).elim
 clear ht;have hg:∀d∈O,ar d=true:=bH.mp (by simpa[ar]using hd.1);have b8:=hd.2 O rfl;have a2:∀d∈O,fO (c.length:Int) d=false->R (.bl false) M:=fun d Q hs=>no fun z164z=>by
  obtain⟨l,e,Z,_⟩:=z164z
  cases e;have:=R8.mp (wX Z) d Q;rw[hs]at this;cases this
 refine⟨true,rfl,?_⟩;rw[if_neg (by decide)];refine bq ?_;walk_at "rd";refine fun hz=>?_;refine aL (fun i G J=>∃Y:Option D,G=[some (.tup (o.map aw)),some (.tup (c.map ao)),some (.tup O),some (.int (c.length:Int)),Y,none,none,none,none,none]/\J=M/\(O.take i).all (fO (c.length:Int))=true) ⟨none,rfl,rfl,rfl⟩ ?_ ?_
 ·rintro i d G J X a9 ⟨Y,rfl,rfl,hA⟩ k';have Q:d∈O:=O5 a9;have c0:O.take (i+1)=O.take i++[d]:=by rw[X6,a9];rfl
  have a6:=hg d Q;have b9:fO (c.length:Int) d=true->X [some (.tup (o.map aw)),some (.tup (c.map ao)),some (.tup O),some (.int (c.length:Int)),some d,none,none,none,none,none] J:=fun h=>k' _ _ ⟨_,rfl,rfl,by rw[c0,List.all_append,hA];simp[h]⟩;refine⟨_,rfl,?_⟩;walk_at "rd";rw[bO a6];rcases xX (n:=(c.length:Int)) a6 with⟨e,hs⟩|⟨a,b,rfl⟩|⟨ds,rfl,c1,hs⟩
  ·exact⟨false,e,a2 _ Q hs⟩
  ·have a8:ar a=true/\ar b=true:=by simpa[ar,bG]using a6
   refine⟨true,rfl,?_⟩;rw[if_neg (by decide)];walk_at "rd";rw[if_neg (by decide)];refine bq ?_;walk_at "rd";refine fun a4=>⟨a4,cQ (fun _=>true) (fun d=>.bl (lX (c.length:Int) d)) (fun G=>∃x,G=[none,none,none,some (.int (c.length:Int)),none,none,none,none,none,none,x]) [a,b] _ _ (fun e he G a7=>?_) ⟨none,rfl⟩ ?_⟩
   ·obtain⟨z,rfl⟩:=a7;refine⟨_,rfl,⟨_,rfl⟩,fun Q1 q=>q,fun _ Q2 q=>?_⟩;walk_at "rd";refine⟨e,_,rfl,?_,q⟩;rcases L1.mp he with rfl|he
    ·exact a8.1
    ·rw[K2.mp he];exact a8.2
   rw[O8,Q4.mpr (fun _ _=>rfl)];refine⟨_,cZ (bs:=[lX (c.length:Int) a,lX (c.length:Int) b]),_,rfl,aW (fun h=>a2 _ Q (Ck fun z=>by simp[z]at h)) (fun h=>?_)⟩;obtain⟨x,y,rfl,rfl,u,C⟩:=AN (n:=(c.length:Int)) (a:=a) (b:=b) (by simpa using h);walk_at "rd";refine aW (fun L=>a2 _ Q ?_) (fun L=>b9 ?_)
   ·simp[fO,leB];lia
   ·simp[fO,leB];lia
  ·refine⟨true,rfl,?_⟩;rw[if_neg (by decide)];walk_at "rd";rw[if_pos (by simp;lia)];exact a2 _ Q hs
 ·rintro G J ⟨Y,rfl,rfl,hA⟩;rw[ad7]at hA;obtain⟨l,rfl,Z⟩:=vP (n:=c.length) hA;rw[J0]at b8;rw[y7 Z]at k;refine bq ?_;walk_at "rd";refine fun a4=>⟨a4,aX stD (fun _=>true) (fun x=>D.tup [stD x,.bl true]) (fun G=>∃x,G=[none,none,none,none,x,none,none,none,none,none]) l _ _ (fun x hx G a7=>?_) ⟨none,rfl⟩ ?_⟩
  ·obtain⟨z,rfl⟩:=a7;refine⟨_,rfl,⟨_,rfl⟩,fun Q1 q=>q,fun _ Q2 q=>?_⟩;walk_at "rd";exact⟨sz3 2,q⟩
  rw[O8,Q4.mpr (fun _ _=>rfl)];refine⟨l.map kP,by rw[M0];rfl,fun k hk=>?_,fun p hp=>?_⟩
  ·obtain⟨x,_,rfl⟩:=M7.mp hk;exact dpN x
  have a3:¬ qW o c l->R (.bl false) J:=fun h=>by
   have e:n6 o c l=false:=by unfold n6;exact @decide_eq_false _ (ae2 _) h
   rw[e]at k;exact k
  obtain⟨qs,a5,c3⟩:=rH (ks:=(l.map kP).foldl aS []) (ps:=l.map stI) (fun k hk=>by
   have:=(nX (l.map kP) k).mp hk;rw[show(l.map stI).map kIP=l.map kP by rw[M0];rfl];exact this)
  have c2:qs.length<=l.length:=by
   have:=gc (l.map kP);rw[show fR (l.map kP)=qs.map kIP from a5,J0,J0]at this;exact this
  have a0:LeM J (aN J p (dRw w p ((l.map kP).foldl aS []))):=mW hp;refine bq ?_;walk_at "rd";refine⟨_,rfl,_,rfl,qs,by rw[a5,oz],by lia,_,by rw[Dn];exact FB,_,rfl,?_⟩;rw[Cw a5];refine aW (fun u=>⟨J,a0,a3 fun h=>?_⟩) (fun u=>?_)
  ·rw[h.1]at u;cases u
  have S:lI l=true:=by simpa using u
  rw[show(l.map kP).foldl aS []=l.map kP from mf (wH (rh S))]at a0 ⊢;refine⟨sz3 2,_,rfl,kP (0,c.length),rfl,dpN _,by rw[J0];lia,?_⟩;rw[inP,S5];refine aW (fun C=>⟨J,a0,a3 fun h=>h.2.2.1 (by simpa using C)⟩) (fun C=>?_);have b1:(0,c.length)∉l:=by simpa using C
  refine bq ?_;walk_at "rd";rw[show((c.length:Int)+1).toNat=c.length+1 by lia];refine⟨by lia,by lia,?_⟩;refine aL (fun i G M2=>∃(x6 x7 x8 N:Option D),G=[some (.tup (o.map aw)),some (.tup (c.map ao)),some (.tup (l.map stD)),some (.int (c.length:Int)),Y,some (.ref p),x6,x7,x8,N]/\M2=aN J p (dRw w p (l.map kP))/\∀a b,a<i->a<=b->b<=c.length->uX o c l a b->(a,b)∈l) ⟨_,_,_,_,rfl,rfl,fun a b h=>absurd h (Nat.not_lt_zero _)⟩ ?_ ?_
  ·rintro i d G M2 X hd ⟨x6,x7,x8,N,rfl,rfl,hI⟩ k';obtain⟨hi,rfl⟩:=cm hd;refine⟨_,rfl,?_⟩;walk_at "rd";refine⟨_,_,⟨rfl,rfl⟩,⟨by lia,by lia,by lia,by lia⟩,?_⟩;rw[show((c.length:Int)+1-(0+(i:Int))).toNat=c.length+1-i by lia];refine aL (fun j G M2=>∃(x7 x8 N:Option D),G=[some (.tup (o.map aw)),some (.tup (c.map ao)),some (.tup (l.map stD)),some (.int (c.length:Int)),Y,some (.ref p),some (.int (0+(i:Int))),x7,x8,N]/\M2=aN J p (dRw w p (l.map kP))/\∀b,i<=b->b<i+j->uX o c l i b->(i,b)∈l) ⟨_,_,_,rfl,rfl,fun b u C=>by lia⟩ ?_ ?_
   ·rintro j d G M2 X2 b3 ⟨x7,x8,N,rfl,rfl,hJ⟩ k2;obtain⟨hj,rfl⟩:=cm b3;refine⟨_,rfl,?_⟩;rw[show(0:Int)+(i:Int)+(j:Int)=((i+j:Nat):Int)by lia,show(0:Int)+(i:Int)=(i:Int)by lia];generalize hm:i+j=m at *
    have b':m<=c.length:=by lia
    refine bz (fun a1 M2=>a1=[some (.tup (o.map aw)),some (.tup (c.map ao)),some (.tup (l.map stD)),some (.int (c.length:Int)),Y,some (.ref p),some (.int (i:Int)),some (.int (m:Int)),some (.bl (decide (i=m))),N]/\M2=aN J p (dRw w p (l.map kP))) (fun nx U=>?_) ?_
    ·walk_at "rd";rw[show((i:Int)==(m:Int))=decide (i=m)by rw[S8];simp;lia];exact U _ _ ⟨rfl,rfl⟩
    rintro _ _ ⟨rfl,rfl⟩;refine bz (fun a1 M2=>(∃g:Bool,(g=true↔(i=m∨(i+1<m/\cB o (sg c i) (sg c (m-1))=true/\(i+1,m-1)∈l)))/\a1=[some (.tup (o.map aw)),some (.tup (c.map ao)),some (.tup (l.map stD)),some (.int (c.length:Int)),Y,some (.ref p),some (.int (i:Int)),some (.int (m:Int)),some (.bl g),N])/\M2=aN J p (dRw w p (l.map kP))) (fun nx U=>?_) ?_
    ·walk_at "rd";have stay:¬ (i+1<m/\cB o (sg c i) (sg c (m-1))=true)->nx [some (.tup (o.map aw)),some (.tup (c.map ao)),some (.tup (l.map stD)),some (.int (c.length:Int)),Y,some (.ref p),some (.int (i:Int)),some (.int (m:Int)),some (.bl (decide (i=m))),N] (aN J p (dRw w p (l.map kP))):=fun h=>U _ _ ⟨⟨_,by
      rw[decide_eq_true_eq];exact⟨fun e=>.inl e,fun e=>e.elim id fun e=>absurd ⟨e.1,e.2.1⟩ h⟩,rfl⟩,rfl⟩
     refine aW (fun L=>?_) (fun L=>stay fun h=>L (by lia));have h4:i+1<m:=by lia
     refine⟨_,wc (by lia),_,by rw[show(m:Int)-1=((m-1:Nat):Int)by lia];exact wc (by lia),o,_,_,rfl,ho,_,rfl,aW (fun h5=>?_) (fun h5=>stay fun h=>h5 h.2)⟩;refine⟨sz3 2,_,aA,_,Dz (x:=(i+1,m-1)) (by simp only;lia) (by simp only;lia),dpN _,by rw[J0];lia,U _ _ ⟨⟨_,?_,rfl⟩,rfl⟩⟩;rw[inP,S5,decide_eq_true_eq];exact⟨fun e=>.inr ⟨h4,h5,e⟩,fun e=>e.elim (fun e=>by lia) fun e=>e.2.2⟩
    rintro _ _ ⟨⟨g,b4,rfl⟩,rfl⟩;refine bz (fun a1 M2=>(∃(g:Bool) (N:Option D),(g=true↔uX o c l i m)/\a1=[some (.tup (o.map aw)),some (.tup (c.map ao)),some (.tup (l.map stD)),some (.int (c.length:Int)),Y,some (.ref p),some (.int (i:Int)),some (.int (m:Int)),some (.bl g),N])/\M2=aN J p (dRw w p (l.map kP))) (fun nx U=>?_) ?_
    ·walk_at "rd";refine⟨_,_,⟨rfl,rfl⟩,⟨by lia,by lia,by lia,by lia⟩,?_⟩;rw[show((m:Int)+1-(i:Int)).toNat=m+1-i by lia];refine aL (fun t G M2=>∃(g:Bool) (N:Option D),G=[some (.tup (o.map aw)),some (.tup (c.map ao)),some (.tup (l.map stD)),some (.int (c.length:Int)),Y,some (.ref p),some (.int (i:Int)),some (.int (m:Int)),some (.bl g),N]/\M2=aN J p (dRw w p (l.map kP))/\(g=true↔((i=m∨(i+1<m/\cB o (sg c i) (sg c (m-1))=true/\(i+1,m-1)∈l))∨∃k,i<=k/\k<i+t/\(i,k)∈l/\(k,m)∈l))) ⟨g,_,rfl,rfl,by rw[b4];exact⟨.inl,fun h=>h.elim id fun z165z=>by obtain⟨k,u,C,_⟩:=z165z;lia⟩⟩ ?_ ?_
     ·rintro t d G M2 X3 b6 ⟨g,N,rfl,rfl,hg⟩ k3;obtain⟨ht,rfl⟩:=cm b6;refine⟨_,rfl,?_⟩;rw[show(i:Int)+(t:Int)=((i+t:Nat):Int)by lia];have more:∀k,(i<=k/\k<i+(t+1)/\(i,k)∈l/\(k,m)∈l)->((i<=k/\k<i+t/\(i,k)∈l/\(k,m)∈l)∨(k=i+t/\(i,i+t)∈l/\(i+t,m)∈l)):=fun k z166z=>by
       obtain⟨u,C,L,h4⟩:=z166z
       by_cases e:k=i+t
       ·subst e;exact .inr ⟨rfl,L,h4⟩
       ·exact .inl ⟨u,by lia,L,h4⟩
      have stay:¬ ((i,i+t)∈l/\(i+t,m)∈l)->X3 [some (.tup (o.map aw)),some (.tup (c.map ao)),some (.tup (l.map stD)),some (.int (c.length:Int)),Y,some (.ref p),some (.int (i:Int)),some (.int (m:Int)),some (.bl g),some (.int ((i+t:Nat):Int))] (aN J p (dRw w p (l.map kP))):=fun h=>k3 _ _ ⟨g,_,rfl,rfl,hg.trans ⟨fun z=>z.elim .inl fun z167z=>by obtain⟨k,u,C,L⟩:=z167z;exact .inr ⟨k,u,by exact P9 (by assumption),L⟩,fun z=>z.elim .inl fun z168z=>by obtain⟨k,u⟩:=z168z;exact (more k u).elim (fun C=>.inr ⟨k,C⟩) fun C=>absurd C.2 h⟩⟩;walk_at "rd";refine⟨sz3 2,_,rfl,_,Dz (x:=(i,i+t)) rfl rfl,dpN _,by rw[J0];lia,?_⟩;rw[inP,S5];refine aW (fun u=>?_) (fun u=>stay fun h=>u (by simpa using h.1));refine⟨sz3 2,_,rfl,_,Dz (x:=(i+t,m)) rfl rfl,dpN _,by rw[J0];lia,?_⟩;rw[inP,S5];refine aW (fun C=>?_) (fun C=>stay fun h=>C (by simpa using h.2));exact k3 _ _ ⟨true,_,rfl,rfl,⟨fun _=>.inr ⟨i+t,by lia,by exact J7 _,by simpa using u,by simpa using C⟩,fun _=>rfl⟩⟩
     ·rintro G M2 ⟨g,N,rfl,rfl,hg⟩;rw[bM]at hg;refine U _ _ ⟨⟨g,N,hg.trans ?_,rfl⟩,rfl⟩;unfold uX;rw[or_assoc];exact or_congr_right (or_congr_right ⟨fun z169z=>by obtain⟨k,u,C,L⟩:=z169z;exact ⟨k,u,by lia,L⟩,fun z170z=>by obtain⟨k,u,C,L⟩:=z170z;exact ⟨k,u,by lia,L⟩⟩)
    rintro _ _ ⟨⟨g,N,a',rfl⟩,rfl⟩;walk_at "rd";have on:(uX o c l i m->(i,m)∈l)->X2 [some (.tup (o.map aw)),some (.tup (c.map ao)),some (.tup (l.map stD)),some (.int (c.length:Int)),Y,some (.ref p),some (.int (i:Int)),some (.int (m:Int)),some (.bl g),N] (aN J p (dRw w p (l.map kP))):=fun h=>k2 _ _ ⟨_,_,_,by rw[show(0:Int)+(i:Int)=(i:Int)by lia],rfl,fun b u C L=>by
     by_cases e:b=m
     ·subst e;exact h L
     ·exact hJ b u (by lia) L⟩
    refine aW (fun u=>?_) (fun u=>on fun h=>absurd (a'.mpr h) u);refine⟨sz3 2,_,rfl,_,Dz (x:=(i,m)) rfl rfl,dpN _,by rw[J0];lia,?_⟩;rw[inP,Bool.true_xor];refine aW (fun C=>⟨J,a0,a3 fun hC=>?_⟩) (fun C=>on fun _=>by simpa using C);have:=BN Z hC (by lia) b' (a'.mp u);simp[this]at C
   ·rintro G M2 ⟨x7,x8,N,rfl,rfl,hJ⟩;rw[bM]at hJ;refine k' _ _ ⟨_,_,_,_,rfl,rfl,fun a b u C L h4=>?_⟩
    by_cases e:a<i
    ·exact hI a b e C L h4
    ·obtain rfl:a=i:=by lia
     exact hJ b C (by lia) h4
  ·rintro G M2 ⟨x6,x7,x8,N,rfl,rfl,hI⟩;rw[bM]at hI;walk_at "rd";have hC:qW o c l:=C2 Z S b1 fun a b u C L=>hI a b (by lia) u C L;have e:n6 o c l=true:=by unfold n6;exact @decide_eq_true _ (ae2 _) hC
   rw[e]at k;exact⟨J,a0,k⟩
theorem zk{o:List (Str×Str)}{row:List (Str×Int)}{d:D}(h:∀s x,d≠.tup [.str s,x]):oG o row d=false:=by
 have c:∀f,jg d f 2=false:=fun f=>by
  by_cases e:jg d f 2=true
  ·obtain⟨a,rfl⟩:=vb.mp e;exact(h _ _ rfl).elim
  ·simpa using e
 unfold oG;rw[c,c];rfl
theorem Dq{o:List (Str×Str)}{row:List (Str×Int)}{s:Str}{x:D}:oG o row (.tup [.str s,x])=if(s==N1 "counted")=true then unB o row x else(s==N1 "closed")&&sG o row x:=by
 have c:∀a,jg (.tup [.str s,x]) a 2=(s==a):=fun a=>by simp[jg,txB]
 unfold oG;rw[c,c];rfl
def qt:SpD:=fun c M R=>∃(o:List (Str×Str)) (a:List (Str×Int)) (d:D),c=[.tup (o.map aw),.tup (a.map ao),d]/\o.length<=20/\a.length<=24/\rj d/\R (.bl (oG o a d)) M
theorem uH(F:Fun K "_law_shows" "_law_shows" iY f I) (T:Txt B) (O:FnD P w K B base "_law_counted" 2 3 mI) (C:FnD P w K B base "_law_closed" 3 3 m9):aR P w K B base CX0 4 f I ["_law_order_here","_law_row","_law_paper"] (spD K 3 qt):=by
 have nd:=nV.nd;refine F.okR rfl nV (fun U A J s H E u=>⟨_,(aj (aZ (gB (gV (dQ (bQ (cH (Tn:="tuple") (by decide) rfl T.b_isinstance rfl T.b_tuple (by kernel_rfl) (aa 2)))) (gV (aI (pL u.units) (az bR rfl T.b_len (by kernel_rfl) (af (aa 2) ag)) ah nbh) (fI (dQ (bQ (cH (Tn:="str") (by decide) rfl T.b_isinstance rfl T.b_str (by kernel_rfl) (aU aV (aa 2) ah (fun _ _=>rfl))))))))) (ak (aB eO)) aM)
   (cX (aj (aZ (aI (eK u.units) (aU aV (aa 2) ah (fun _ _=>rfl)) dI nbh) (cX (aj (aZ (gB (gV (dQ (bQ (cH (Tn:="str") (by decide) rfl T.b_isinstance rfl T.b_str (by kernel_rfl) (aU aV (aa 2) ah (fun _ _=>rfl))))) (fI (dQ (zt xT xT ah (az bR rfl T.b_len (by kernel_rfl) (af (aU aV (aa 2) ah (fun _ _=>rfl)) ag)) ah))))) (ak (aB eO)) aM)
   (cX (aj (aZ (dQ (bQ (az (j9 rfl) rfl T.b_all (by kernel_rfl) (af (eI (ms:=[false,false,false]) (aq:=["_law_sign_here"]) (aC (n0:=0) rfl (show aP (ai iY) lH _ _=true from by decide +kernel)) rfl (ba (aU aV (aa 2) ah (fun _ _=>rfl))) (aH (i:=3) (show(lH++_).Nodup from by decide +kernel) rfl rfl) (fun _ _ _ _=>bP) (fun _ _ _ _=>(cC fF (aa 3) dI rfl))) ag)))) (ak (aB eO)) aM)
   (cX (ak (aB (qd O u (af (aa 0) (af (aa 1) (af (aU aV (aa 2) ah (fun _ _=>rfl)) ag))))))))))) aM)
   (ak (aB (bh (cC (eK u.units) (aU aV (aa 2) ah (fun _ _=>rfl)) dI nbh) (cf (qd C u (af (aa 0) (af (aa 1) (af (aU aV (aa 2) ah (fun _ _=>rfl)) ag))))))))))),fun Q M R _ hS bk=>?_⟩)
 obtain⟨o,n,d,rfl,ho,hl,j,k⟩:=hS;refine bk ?_;clear bk;walk_at "rd";simp only[bO j.1]
 by_cases p:∃a x,d=.tup [a,x]
 ·obtain⟨a,x,rfl⟩:=p;have g:ar a=true/\ar x=true:=by simpa[ar,bG]using j.1
  refine⟨true,rfl,?_⟩;rw[if_neg (by decide)];walk_at "rd";rw[if_neg (by decide)];simp only[bO g.1];cases a with
  |str s =>
   rw[Dq]at k;refine⟨true,rfl,?_⟩;rw[if_neg (by decide)];refine bq ?_;walk_at "rd";refine aW (fun h=>?_) (fun h=>?_)
   ·rw[if_pos h]at k;refine bq ?_;walk_at "rd";cases x with
    |str m =>
     have hx:m.length<=1000000:=by simpa[ar]using g.2
     have Z:m.length=m.cps.toList.length:=by show m.cps.size=_;simp
     refine⟨true,rfl,?_⟩;rw[if_neg (by decide)];refine⟨_,if_pos (szB _ (by exact K4 (by assumption) (by decide))),_,rfl,?_⟩;have no:bp m=false->R (.bl false) M:=fun e=>by
      simp only[unB,e,R5]at k;exact k
     refine aW (fun L=>⟨_,rfl,_,rfl,aW (fun p=>no ?_) (fun p=>?_)⟩) (fun L=>?_)
     ·simp at p;simp only[bp,decide_eq_false (by lia:¬ m.length<=8),ak8,R5]
     ·simp at L p;refine bq ?_;walk_at "rd";refine⟨_,if_pos (szB _ (by exact K4 (by assumption) (by decide))),fun Y=>⟨Y,?_⟩⟩;refine cQ (fun _=>true) (fun d=>match d with|.str y=>.bl (y.cps.toList.all fun c=>decide (c∈ji))|_=>.non) (fun S=>∃x,S=[none,none,none,x]) _ _ _ (fun d j S G=>?_) ⟨none,rfl⟩ ?_
      ·obtain⟨x1,rfl⟩:=G;obtain⟨c,_,rfl⟩:=M7.mp (show d∈m.cps.toList.map fun c=>D.str (tx [c])from j);refine⟨_,rfl,⟨_,rfl⟩,fun Q1 q=>q,fun _ Q2 q=>?_⟩;walk_at "rd";simp only[A6,ab8,exists_eq_left',S5];rw[show(N1 "abcdefghijklmnopqrstuvwxyz").cps.toList=ji from xm];simpa[fH]using q
      ·rw[O8,Q4.mpr (fun _ _=>rfl)];have e:(L2.fY m).map (fun d=>match d with|.str y=>D.bl (y.cps.toList.all fun c=>decide (c∈ji))|_=>.non)=(m.cps.toList.map fun c=>decide (c∈ji)).map D.bl:=by
        unfold L2.fY;rw[M0,M0];apply S7;intro c _;simp
       rw[e];have e2:(m.cps.toList.map fun c=>decide (c∈ji)).all id=bp m:=by
        unfold bp;rw[W1,decide_eq_true (by assumption:1<=m.length),decide_eq_true (by lia:m.length<=8)];rfl
       refine⟨_,cZ,_,rfl,?_⟩;rw[e2];refine aW (fun l=>no (by simpa using l)) (fun l=>?_);have N:bp m=true:=by simpa using l
       simp only[unB,N,U5]at k;refine bq ?_;walk_at "rd";exact⟨o,n,m,rfl,ho,hl,k⟩
     ·rw[if_pos (by decide)];refine no ?_;simp at L;simp only[bp,decide_eq_false (by lia:¬ 1<=m.length),R5]
    |scr _=>exact absurd g.2 (by simp[ar])
    |ref _=>exact absurd g.2 (by simp[ar])
    |box _ _=>exact absurd g.2 (by simp[ar])
    |_=>exact⟨false,rfl,k⟩
   ·rw[if_neg h]at k;refine aW (fun l=>?_) (fun l=>?_)
    ·rw[l,U5]at k;exact⟨o,n,x,rfl,by exact K4 (by assumption) (by decide),by exact K4 (by assumption) (by decide),⟨g.2,fun X e=>j.2 _ X (by rw[e])⟩,k⟩
    ·rw[show(s==N1 "closed")=false by simpa using l,R5]at k;exact k
  |scr _=>simp[ar]at g
  |ref _=>simp[ar]at g
  |box _ _=>simp[ar]at g
  |_ =>
   rw[zk (fun s x e=>by cases e)]at k;exact⟨false,rfl,k⟩
 ·have hn:oG o n d=false:=zk fun s x e=>p ⟨_,_,e⟩;rw[hn]at k;cases d with
  |tup Q =>
   refine⟨true,rfl,?_⟩;rw[if_neg (by decide)];walk_at "rd";have z:¬ Q.length=2:=fun z=>p (by
    obtain⟨a,b,rfl⟩:=kU z;exact⟨a,b,rfl⟩)
   rw[if_pos (by simp;lia)];exact k
  |scr _=>exact absurd j.1 (by simp[ar])
  |ref _=>exact absurd j.1 (by simp[ar])
  |box _ _=>exact absurd j.1 (by simp[ar])
  |_=>exact⟨false,rfl,k⟩
theorem gk{ps:List (Int×Int)}(h:ps.length<=60):tM (.tup (ps.map pD)):=by
 refine⟨?_,fun c e=>by cases e;rw[J0];exact h⟩;simp only[ar];rw[bH];intro d a;obtain⟨x,_,rfl⟩:=M7.mp a;rfl
theorem mZ{ps:List (Int×Int)}{a:List D}(h:∀e∈a,e∈ps.map pD∨ar e=true) (f:a.length<=60):tM (.tup a):=by
 refine⟨?_,fun g e=>by cases e;exact f⟩;simp only[ar];rw[bH];intro d c;rcases h d c with h|h
 ·obtain⟨x,_,rfl⟩:=M7.mp h;rfl
 ·exact h
theorem neP{p q:Int×Int}:neF (pD p) (pD q)=some (.bl (!decide (p=q))):=by
 have e:∀s:Int×Int,dLe (pD s) 60=true:=fun _=>rfl;simp only[neF,e,and_self,if_true];congr 3;rw[S8];obtain⟨a,b⟩:=p;obtain⟨c,d⟩:=q;simp[pD,eqD,dY]
theorem C7{l:List D}{a b:Option Int}{e:D}(h:e∈L2.cj l a b):e∈l:=by
 unfold L2.cj at h;exact ae0 (ab0 h)
theorem BF{l:List D}{a:Nat}:(L2.cj l (some (a:Int)) (some ((a:Int)+1))).length<=1:=by
 rw[show(a:Int)+1=((a+1:Nat):Int)by lia];unfold L2.cj;rw[HT.sIx_nat,HT.sIx_nat,R3]
 lia
theorem vZ{l:List D}{v:Int}(h0:0<=v) (c:v<(l.length:Int)):∃d∈l,atI l v=some d:=by
 obtain⟨n,rfl⟩:=ah9 h0;have a:n<l.length:=by lia
 exact⟨l[n],V6 a,cL (by simp[a])⟩
def uo:SpD:=fun c M R=>∃(a:List (Int×Int)) (n:Nat) (x:Int),c=[.tup (a.map pD),.int (n:Int),.int x]/\n<=8/\a.length<=45/\0<=x/\∀d,tM d->R d M
theorem yo(F:Fun K "_law_bent" "_law_bent" eX f I) (T:Txt B) :aR P w K B base CX0 1 f I ["_law_pairs","_law_size_of","_law_number"] (spD K 3 uo):=by
 have N:=p6.nd;refine F.okR rfl p6 (fun a7 A a1 s H E C=>⟨_,(aj (aE (i:=3) N rfl (P0 rfl) (ay bK (ay jS (aa 2) ah) (az (HZ rfl) rfl T.b_max (by kernel_rfl) (af ah (af (az bR rfl T.b_len (by kernel_rfl) (af (aa 0) ag)) ag)))))
   (aj (aE (i:=4) N rfl (P0 rfl) (ay bK (ay jS (aa 2) ah) (ay aG (aa 1) ah)))
   (aj (aE (i:=5) N rfl (P0 rfl) (ay aG (aa 4) (ay bK (ay jS (aa 2) ah) (ay mh (ay aG (aa 1) ah) (aa 4)))))
   (aj (aE (i:=6) N rfl (P0 rfl) (ay bK (aa 2) ah))
   (cX (aj (aZ (aI Er (aa 6) ah nbh) (aj (aE (i:=7) N rfl (P0 rfl) (aU aV (iw (af (ay mh (ay mh ah ah) (aa 4)) (af (ay aG (ay aG (aa 1) ah) (aa 4)) ag))) (ay mh (aa 6) ah) (fun _ _=>rfl)))
   (ak (aB (bg cb rfl T.b_tuple (by kernel_rfl) (af (az xf rfl T.b_sorted (by kernel_rfl) (af (ay aG (aa 0) (aY (af (aY (af (aa 7) (af (aa 7) ag))) ag))) ag)) ag))))) aM)
   (cX (aj (aZ (aI (eK C.units) (aa 6) ah nbh) (ak (aB (ay aG (bu (aa 0) da (br (aa 3))) (bu (aa 0) (br (ay aG (aa 3) ah)) da)))) aM)
   (cX (aj (aZ (aI (eK C.units) (aa 6) ah nbh) (ak (aB (bg cb rfl T.b_tuple (by kernel_rfl) (af (Ez rfl C.units rfl T.b_sorted rfl T.b_set (ay aG (aa 0) (aY (af (aY (af (aa 4) (af (aa 5) ag))) ag)))) ag)))) aM)
   (cX (aj (aZ (aI (eK C.units) (aa 6) ah nbh) (ak (aB (bg cb rfl T.b_tuple (by kernel_rfl) (af (Ew rfl C.units rfl T.b_sorted rfl T.b_set (eI (ms:=[false,true,false,false,false,false,false,false,false,false,false]) (aq:=["_law_pair"]) (aC rfl (show aP (ai eX) c9 _ _=true from by decide +kernel)) rfl (ba (aa 0)) (aH (i:=11) (show(c9++_).Nodup from by decide +kernel) rfl rfl) (fun _ _ _ _=>(nv (aI (pL C.units) (aa 11) (aY (af ah (af (aa 1) ag))) nbh))) (fun _ _ _ _=>(aa 11)))) ag)))) aM)
   (cX (aj (aZ (aI (eK C.units) (aa 6) ah nbh) (aj (aE (i:=8) N rfl (P0 rfl) (iw ag))
   (aj (cq P3 rfl (dG rfl T.b_range (af (ay aG (aa 1) ah) ag)) (aJ (i:=9) N rfl (at1 rfl)) (ak (aE (i:=8) N rfl (P0 rfl) (ay aG (aa 8) (eI (ms:=[false,true,false,false,false,false,false,false,false,true,false]) (aq:=["_law_other"]) (aC rfl (show aP (ai eX) c9 _ _=true from by decide +kernel)) rfl (kn rfl T.b_range (af (aa 9) (af (ay aG (aa 1) ah) ag))) (aH (i:=11) (show(c9++_).Nodup from by decide +kernel) rfl rfl) (fun _ _ _ _=>(nv (aI (pL C.units) (aY (af (aa 9) (af (aa 11) ag))) (aY (af ah (af (aa 1) ag))) nbh))) (fun _ _ _ _=>(aY (af (aa 9) (af (aa 11) ag)))))))))
   (ak (aB (bg cb rfl T.b_tuple (by kernel_rfl) (af (aa 8) ag)))))) aM)
   (cX (aj (aZ (aI (eK C.units) (aa 6) ah nbh) (ak (aB (bg cb rfl T.b_tuple (by kernel_rfl) (af (eI (ms:=[false,false,false,false,false,false,false,false,false,false,false]) (aq:=[]) (aC rfl (show aP (ai eX) c9 _ _=true from by decide +kernel)) rfl (dG rfl T.b_range (af (ay aG (aa 1) ah) ag)) (aH (i:=9) (show(c9++_).Nodup from by decide +kernel) rfl rfl) (fun _ _ _ _=>bP) (fun _ _ _ _=>(aY (af (aa 9) (af (aa 9) ag))))) ag)))) aM)
   (cX (aj (aZ (aI (eK C.units) (aa 6) ah nbh) (ak (aB (bg cb rfl T.b_tuple (by kernel_rfl) (af (az xf rfl T.b_sorted (by kernel_rfl) (af (ay aG (aa 0) (aY (af (aY (af (ay aG (aa 5) ah) (af (aa 4) ag))) ag))) ag)) ag)))) aM)
   (cX (aj (aZ (aI (eK C.units) (aa 6) ah nbh) (ak (aB (ay aG (ay aG (bu (aa 0) da (br (aa 3))) (aY (af (aY (af eO (af ah ag))) ag))) (bu (aa 0) (br (ay aG (aa 3) ah)) da)))) aM)
   (cX (aj (aE (i:=10) N rfl (P0 rfl) (iL (af (tL (aa 0) (uL vw ah)) (af (ay aG (aa 0) (bu (aa 0) (br (aa 3)) (br (ay aG (aa 3) ah)))) (af (bg u6 rfl T.b_list (by kernel_rfl) (af (aa 0) ag)) (af wx ag))))))
   (aj (fM (kJ (aa 10) (bg cb rfl T.b_tuple (by kernel_rfl) (af (eI (ms:=[false,false,false,false,false,false,false,false,false,false,false]) (aq:=["_law_pair"]) (aC rfl (show aP (ai eX) c9 _ _=true from by decide +kernel)) rfl (ba (aa 0)) (aH (i:=11) (show(c9++_).Nodup from by decide +kernel) rfl rfl) (fun _ _ _ _=>bP) (fun _ _ _ _=>(bg u6 rfl T.b_list (by kernel_rfl) (af (aa 11) ag)))) ag))))
   (ak (ik (aU aV (aa 10) (ay mh (aa 6) ah) (fun _ _=>rfl))))))))))))))))))))))))))),fun ds M R _ hS bk=>?_⟩)
 obtain⟨g,n,x,rfl,hn,hl,hx,k⟩:=hS;refine bk ?_;clear bk;walk_at "rd";rw[J0];obtain⟨m,a5,em⟩:∃m:Nat,1<=m/\(if(g.length:Int) > 1 then(g.length:Int)else 1)=m:=by
  split
  ·exact⟨g.length,by lia,rfl⟩
  ·exact⟨1,by decide,rfl⟩
 simp only[em];obtain⟨at_,a2⟩:∃a:Nat,x / 16 % (m:Int)=a:=⟨_,(Int.toNat_of_nonneg (ac9 (x / 16) (show(m:Int)≠0 by lia))).symm⟩;have i1:=ac9 (x / 16) (show(n:Int)+1≠0 by lia);have i2:=ad5 (x / 16) (show(0:Int)<(n:Int)+1 by lia);obtain⟨i,ei⟩:∃a:Nat,x / 16 % ((n:Int)+1)=a:=⟨_,(Int.toNat_of_nonneg i1).symm⟩;have hi:i<=n:=by lia
 refine⟨_,if_pos (by lia),_,if_pos (by lia),?_⟩;rw[a2,ei];walk_at "rd";obtain⟨j,ej⟩:∃a:Nat,x / 160 % ((n:Int)+1-(i:Int))=a:=⟨_,(Int.toNat_of_nonneg (ac9 (x / 160) (show(n:Int)+1-(i:Int)≠0 by lia))).symm⟩;refine⟨_,if_pos (by lia),?_⟩;rw[ej];walk_at "rd";have S:∀G:List (Int×Int),G.length<=46->∃z,wn (.tup (G.map pD))=some z/\∃Q,CS (rdM M z)=some Q/\R Q M:=fun G hq=>⟨_,Ct (by lia),_,rfl,k _ (gk (by rw[(jQ _).length_eq];exact K4 (by assumption) (by decide)))⟩;have snoc:∀a b:Int,aq8 pD g++[D.tup [.int a,.int b]]=(g++[(a,b)]).map pD:=fun a b=>by rw[O2];rfl
 have a8:=ac9 x (show(14:Int)≠0 by decide);have a6:=ad5 x (show(0:Int)<14 by decide);have Y:(at_:Int)+1=((at_+1:Nat):Int):=by lia
 refine bq ?_;walk_at "rd";refine aW (fun a0=>?_) (fun a0=>?_)
 ·obtain⟨t,ht,e⟩:=wL (l:=[-1-(i:Int),(n:Int)+1+(i:Int)]) (v:=x % 14-12) (by lia) (by simp;lia);refine⟨sz3 2,_,e,sz3 2,sz3 1,_,if_pos (by rw[J0];exact sz3 _ (by lia)),?_⟩;rw[snoc];walk_at "rd";obtain⟨z,e1,Q,e2,r⟩:=S (g++[(t,t)]) (by simp;assumption);exact⟨z,e1,Q,e2,r⟩
 refine bq ?_;walk_at "rd";refine aW (fun _=>?_) (fun h0=>?_)
 ·rw[Y];simp only[rQ,gj];refine⟨_,if_pos (by rw[R3,V5,J0];exact sz3 _ (by lia)),k _ (mZ (ps:=g) (fun e J=>.inl ?_) (by rw[N7,R3,V5,J0];lia))⟩;rcases L4.mp J with h|h
  ·exact ab0 h
  ·exact ae0 h
 refine bq ?_;walk_at "rd";refine aW (fun _=>?_) (fun h1=>?_)
 ·refine⟨sz3 2,sz3 1,_,if_pos (by rw[J0];exact sz3 _ (by lia)),g++[((i:Int),(i:Int)+(j:Int))],?_,by simp;lia,fun G h1 Z=>k _ (gk (by simp at Z;lia))⟩;rw[snoc];rfl
 refine bq ?_;walk_at "rd";refine aW (fun _=>?_) (fun Z=>?_)
 ·refine fun hz=>⟨hz,aX pD (fun p=>!decide (p=(0,(n:Int)))) pD (fun u=>∃x,u=[none,some (.int (n:Int)),none,none,none,none,none,none,none,none,none,x]) g _ _ (fun p hp u o=>?_) ⟨none,rfl⟩ ?_⟩
  ·obtain⟨z,rfl⟩:=o;refine⟨_,rfl,⟨_,rfl⟩,fun Q1 q=>?_,fun _ Q2 q=>?_⟩
   ·walk_at "rd";exact⟨sz3 2,_,neP (q:=(0,(n:Int))),_,rfl,q⟩
   ·walk_at "rd";exact q
  rw[O8];exact⟨_,rfl,by have:=af6 (fun p=>!decide (p=(0,(n:Int)))) g;lia,fun G h1 Z=>k _ (gk (by have:=af6 (fun p=>!decide (p=(0,(n:Int)))) g;lia))⟩
 refine bq ?_;walk_at "rd";refine aW (fun _=>?_) (fun h3=>?_)
 ·refine⟨sz3 0,by lia,by lia,?_⟩;rw[show((n:Int)+1).toNat=n+1 by lia];have tl:=vX hn;refine aL (fun c u M2=>∃(G:List (Int×Int)) (x9 L:Option D),u=[some (.tup (g.map pD)),some (.int (n:Int)),some (.int x),some (.int at_),some (.int i),some (.int ((i:Int)+j)),some (.int (x % 14)),none,some (.lst (G.map pD)),x9,L]/\M2=M/\G.length<=tri n c) ⟨[],_,_,rfl,rfl,P1 _⟩ ?_ ?_
  ·rintro c d u M2 X O ⟨G,x9,L,rfl,rfl,hq⟩ k';obtain⟨hc,rfl⟩:=cm O;refine⟨_,rfl,?_⟩;walk_at "rd";refine⟨_,_,⟨rfl,rfl⟩,⟨by lia,by lia,by lia,by lia⟩,by rw[bM];exact sz3 _ (by lia),?_⟩;rw[show((n:Int)+1-(0+(c:Int))).toNat=n+1-c by lia,show oO (0+(c:Int)) (n+1-c)=(N5 (n+1-c)).map fun(k:Nat)=>D.int (0+(c:Int)+(k:Int))from rfl];have a4:=vT hn (i:=c);refine aX (fun(k:Nat)=>D.int (0+(c:Int)+(k:Int))) (fun k=>!decide (((0+(c:Int),0+(c:Int)+(k:Int)):Int×Int)=(0,(n:Int)))) (fun k=>pD (0+(c:Int),0+(c:Int)+(k:Int))) (fun u=>∃x,u=[none,some (.int (n:Int)),none,none,none,none,none,none,none,some (.int (0+(c:Int))),none,x]) _ _ _ (fun e J u o=>?_) ⟨none,rfl⟩ ?_
   ·obtain⟨z,rfl⟩:=o;refine⟨_,rfl,⟨_,rfl⟩,fun Q1 q=>?_,fun _ Q2 q=>?_⟩
    ·walk_at "rd";exact⟨sz3 2,sz3 2,_,neP (p:=(0+(c:Int),0+(c:Int)+(e:Int))) (q:=(0,(n:Int))),_,rfl,q⟩
    ·walk_at "rd";exact⟨sz3 2,q⟩
   rw[O8];have hf:=af6 (fun k:Nat=>!decide (((0+(c:Int),0+(c:Int)+(k:Int)):Int×Int)=(0,(n:Int)))) (N5 (n+1-c));rw[V2]at hf;generalize List.filter (fun k:Nat=>!decide (((0+(c:Int),0+(c:Int)+(k:Int)):Int×Int)=(0,(n:Int)))) (N5 (n+1-c))=ks at hf;refine⟨_,if_pos (by rw[J0,J0];exact sz3 _ (by lia)),k' _ _ ⟨G++ks.map fun(k:Nat)=>(0+(c:Int),0+(c:Int)+(k:Int)),some (.int (0+(c:Int))),L,?_,rfl,?_⟩⟩
   ·rw[O2,M0];rfl
   ·rw[N7,J0];show _<=tri n c+(n+1-c)
    lia
  ·rintro u M2 ⟨G,x9,L,rfl,rfl,hq⟩;rw[bM]at hq;walk_at "rd";exact k _ (gk (by lia))
 refine bq ?_;walk_at "rd";refine aW (fun _=>?_) (fun h4=>?_)
 ·refine⟨by lia,by lia,by rw[bM];exact sz3 _ (by lia),?_⟩;rw[show((n:Int)+1).toNat=n+1 by lia,show oO 0 (n+1)=(N5 (n+1)).map fun(k:Nat)=>D.int (0+(k:Int))from rfl];refine aX (fun(k:Nat)=>D.int (0+(k:Int))) (fun _=>true) (fun k=>pD (0+(k:Int),0+(k:Int))) (fun u=>∃x,u=[none,none,none,none,none,none,none,none,none,x,none]) _ _ _ (fun c hc u o=>?_) ⟨none,rfl⟩ ?_
  ·obtain⟨z,rfl⟩:=o;refine⟨_,rfl,⟨_,rfl⟩,fun Q1 q=>q,fun _ Q2 q=>?_⟩;walk_at "rd";exact⟨sz3 2,q⟩
  rw[O8,Q4.mpr (fun _ _=>rfl)];have e:((N5 (n+1)).map fun(k:Nat)=>pD (0+(k:Int),0+(k:Int)))=((N5 (n+1)).map fun(k:Nat)=>(0+(k:Int),0+(k:Int))).map pD:=by rw[M0];rfl
  rw[e];exact k _ (gk (by rw[J0,V2];lia))
 refine bq ?_;walk_at "rd";refine aW (fun _=>?_) (fun h5=>?_)
 ·refine⟨sz3 2,sz3 1,_,if_pos (by rw[J0];exact sz3 _ (by lia)),?_⟩;rw[snoc];walk_at "rd";obtain⟨z,e1,Q,e2,r⟩:=S (g++[((i:Int)+j+1,(i:Int))]) (by simp;assumption);exact⟨z,e1,Q,e2,r⟩
 refine bq ?_;walk_at "rd";refine aW (fun _=>?_) (fun h6=>?_)
 ·rw[Y];simp only[rQ,gj];refine⟨sz3 2,sz3 1,_,if_pos (by rw[R3,J0];exact sz3 _ (by lia)),?_⟩;walk_at "rd";refine⟨_,if_pos (by rw[N7,R3,V5,J0];exact sz3 _ (by simp;lia)),k _ (mZ (ps:=g) (fun e J=>?_) (by rw[N7,N7,R3,V5,J0];simp;lia))⟩;rcases L4.mp J with h|h
  ·rcases L4.mp h with h|h
   ·exact .inl (ab0 h)
   ·rw[K2.mp h];exact .inr rfl
  ·exact .inl (ae0 h)
 refine bq ?_;walk_at "rd";have a3:(L2.cj (g.map pD) (some (at_:Int)) (some ((at_:Int)+1))).length<=1:=BF;have U:∀e∈L2.cj (g.map pD) (some (at_:Int)) (some ((at_:Int)+1)),e∈g.map pD:=fun e J=>C7 J;generalize L2.cj (g.map pD) (some (at_:Int)) (some ((at_:Int)+1))=cs at a3 U;refine⟨_,if_pos (by rw[J0];exact sz3 _ (by lia)),_,rfl,sz3 4,fun p hp hz=>⟨hz,?_⟩⟩;refine aX pD (fun _=>true) (fun q=>D.lst [.int q.1,.int q.2]) (fun u=>∃x,u=[none,none,none,none,none,none,none,none,none,none,none,x]) g _ _ (fun q hq u o=>?_) ⟨none,rfl⟩ ?_
 ·obtain⟨z,rfl⟩:=o;refine⟨_,rfl,⟨_,rfl⟩,fun Q1 q=>q,fun _ Q2 q=>?_⟩;walk_at "rd";exact⟨_,rfl,q⟩
 rw[O8,Q4.mpr (fun _ _=>rfl)];refine⟨_,aA,K7 (by decide:4<1000) (sz3 1000),?_⟩;rw[beq_iff_eq]at h0 h1 Z h3 h4 h5 h6;obtain⟨d,O,e⟩:=vZ (l:=[D.tup (g.map pD).reverse,D.tup (g.map pD++cs),D.lst (g.map pD),D.non]++[D.tup (g.map fun q=>D.lst [.int q.1,.int q.2])]) (v:=x % 14-7) (by lia) (by simp;lia);refine⟨_,e,M,?_,k _ ?_⟩
 ·rw[n9];exact mW hp
 simp only[List.cons_append,O8,L1,R4,or_false]at O;rcases O with rfl|rfl|rfl|rfl|rfl
 ·exact mZ (ps:=g) (fun e J=>.inl (List.mem_reverse.mp J)) (by rw[List.length_reverse,J0];exact K4 (by assumption) (by decide))
 ·refine mZ (ps:=g) (fun e J=>.inl ?_) (by rw[N7,J0];lia);rcases L4.mp J with h|h
  ·exact h
  ·exact U _ h
 ·refine⟨?_,fun es e=>by cases e⟩;have:=(gk (ps:=g) (by exact K4 (by assumption) (by decide))).1;simp only[ar]at this ⊢;exact this
 ·exact⟨rfl,fun es e=>by cases e⟩
 ·refine⟨?_,fun es e=>by cases e;rw[J0];exact K4 (by assumption) (by decide)⟩;simp only[ar];rw[bH];intro d O;obtain⟨x,_,rfl⟩:=M7.mp O;rfl
theorem Aw{w:Str}(h:eh w):w.length<=8:=by
 have:w.length=w.cps.toList.length:=by show w.cps.size=_;simp
 rw[this];exact h.2.1
theorem jH{w:Str}(h:eh w):bp w=true:=by
 obtain⟨i,g,a⟩:=h;have e:w.length=w.cps.toList.length:=by show w.cps.size=_;simp
 unfold bp;rw[decide_eq_true (by assumption:1<=w.length),decide_eq_true (by assumption:w.length<=8),U5,U5,R8];intro c f;have:=a c f;unfold qF at this;rw[decide_eq_true_eq];unfold ji;rw[List.mem_range'_1]
 lia
theorem lu.cut{n:Nat}{xs:List Int}(h:lu n xs) (a b:Nat) (e:a<=b) (f:b<=n):∃c:List Int,L2.cj (xs.map D.int) (some (a:Int)) (some (b:Int))=c.map D.int/\lu (b-a) c:=by
 refine⟨(xs.drop a).take (b-a),?_,?_,fun x g=>h.2 x (ae0 (ab0 g))⟩
 ·unfold L2.cj;rw[HT.sIx_nat,HT.sIx_nat,J0,h.1,aq2 f,aq2 (by exact K4 (by assumption) (by assumption):a<=n),<-ap1,<-as8]
 ·rw[R3,V5,h.1];lia
theorem wm{ws:List Str}(c:∀w∈ws,eh w) {s:Str×Int}(a:s.1∈ws) (e:-2<=s.2) (f:s.2<=2):sQ s:=⟨jH (c _ a),by lia,by lia⟩
def Sgs(r:List (Str×Int)):Prop:=r.length<=4/\∀x∈r,sQ x
theorem BZ{r:List (Str×Int)}:neF (.tup (r.map ao)) (.tup [])=some (.bl (!decide (r=[]))):=by
 have c:dLe (.tup (r.map ao)) 60=true:=by
  show ft (r.map ao) 59=true;exact nu ao fun _=>rfl
 have a:dLe (.tup []) 60=true:=rfl;simp only[neF,c,a,and_self,if_true,eqD];cases r<;>simp[dY]
def tm:SpD:=fun g M R=>∃(f:List Int) (a:List Str),g=[.lst (f.map D.int),.lst (a.map D.str)]/\lu 12 f/\a≠[]/\a.length<=8/\(∀w∈a,eh w)/\∀c e,Sgs c->Sgs e->R (.tup [.tup (c.map ao),.tup (e.map ao)]) M
theorem xU(F:Fun K "_law_rows" "_law_rows" ig f I) (T:Txt B) (S:FnD P w K B base "_law_sign" 1 2 sj):aR P w K B base CX0 2 f I ["_law_numbers_here","_law_marks"] (spD K 2 tm):=by
 have nd:=pP.nd;refine F.okR rfl pP (fun a3 A a2 s H E Z=>⟨_,(aj (aE (i:=2) nd rfl (P0 rfl) (bg cb rfl T.b_tuple (by kernel_rfl) (af (eI (ms:=[false,true,false,false]) (aq:=["_law_number"]) (aC rfl (show aP (ai ig) gW _ _=true from by decide +kernel)) rfl (ba (bu (aa 0) (br ah) (br (ay aG ah (ay bK (aU aV (aa 0) ah (fun _ _=>rfl)) ah))))) (aH (i:=4) (show(gW++_).Nodup from by decide +kernel) rfl rfl) (fun _ _ _ _=>bP) (fun _ _ _ _=>(qd S Z (af (aa 4) (af (aa 1) ag))))) ag)))
   (aj (aE (i:=3) nd rfl (P0 rfl) (bg cb rfl T.b_tuple (by kernel_rfl) (af (eI (ms:=[false,true,false,false]) (aq:=["_law_number"]) (aC rfl (show aP (ai ig) gW _ _=true from by decide +kernel)) rfl (ba (bu (aa 0) (br ah) (br (ay aG ah (ay bK (aU aV (aa 0) ah (fun _ _=>rfl)) ah))))) (aH (i:=4) (show(gW++_).Nodup from by decide +kernel) rfl rfl) (fun _ _ _ _=>bP) (fun _ _ _ _=>(qd S Z (af (aa 4) (af (aa 1) ag))))) ag)))
   (aj (aZ (aI (eK Z.units) (ay bK (aU aV (aa 0) ah (fun _ _=>rfl)) ah) ah nbh) (ak (aE (i:=3) nd rfl (P0 rfl) (aa 2))) aM)
   (aj (aZ (gB (gz (aI (eK Z.units) (ay bK (aU aV (aa 0) ah (fun _ _=>rfl)) ah) ah nbh) (eP (aI (pL Z.units) (aa 2) (aY ag) nbh)))) (ak (aE (i:=3) nd rfl (P0 rfl) (ay aG (bu (aa 2) (br ah) da) (bu (aa 2) da (br ah))))) aM)
   (ak (aB (aY (af (aa 2) (af (aa 3) ag))))))))),fun ds M R _ hS bk=>?_⟩)
 obtain⟨Q,C,rfl,J,hw,X,hW,k⟩:=hS;obtain⟨x0,e0,a0,a1⟩:=J.at 0 (by decide);obtain⟨x5,e5,b0,b1⟩:=J.at 5 (by decide);obtain⟨a4,U,c0,c1⟩:=J.at 10 (by decide);refine bk ?_;clear bk;refine bz (fun c e=>(∃r,Sgs r/\c=[some (.lst (Q.map D.int)),some (.lst (C.map D.str)),some (.tup (r.map ao)),none])/\M=e) (fun nx u=>?_) ?_
 ·walk_at "rd";refine⟨_,e0,?_⟩;walk_at "rd";obtain⟨ys,ey,Y⟩:=J.cut 1 (1+(x0 % 5).toNat) (by lia) (by lia);rw[show 1+x0 % 5=((1+(x0 % 5).toNat:Nat):Int)by lia,show L2.cj (Q.map D.int) (some 1) (some ((1+(x0 % 5).toNat:Nat):Int))=ys.map D.int from ey];refine fun hz=>⟨hz,?_⟩;refine uA (fun j o N e=>∃(z:Option D) (a:List (Str×Int)),N=[none,some (.lst (C.map D.str)),none,none,z]/\e=M/\o=a.map ao/\a.length=j/\∀x∈a,sQ x) ⟨none,[],rfl,rfl,rfl,rfl,(fun _ h=>by cases h)⟩ ?_ ?_
  ·rintro j d o N e X2 L ⟨z,a,rfl,rfl,rfl,l,g⟩ k2;obtain⟨x,O,rfl⟩:=fC L;refine⟨_,rfl,?_⟩;walk_at "rd";simp only[CO];walk_at "rd";refine⟨x,C,rfl,(Y.2 x (O5 O)).1,hw,X,fun s h1 h2 h3=>k2 _ _ _ ⟨_,a++[s],rfl,rfl,by simp,by simp[l],fun y G=>?_⟩⟩;rcases L4.mp G with h|h
   ·exact g y h
   ·rw[K2.mp h];exact wm hW h1 h2 h3
  ·rintro o N e ⟨z,a,rfl,rfl,rfl,l,g⟩;rw[J0,Y.1]at l;exact u _ _ ⟨⟨a,⟨by lia,g⟩,rfl⟩,rfl⟩
 rintro _ _ ⟨⟨r,q,rfl⟩,rfl⟩;refine bz (fun c e=>(∃m,Sgs m/\c=[some (.lst (Q.map D.int)),some (.lst (C.map D.str)),some (.tup (r.map ao)),some (.tup (m.map ao))])/\M=e) (fun nx u=>?_) ?_
 ·walk_at "rd";refine⟨_,e5,?_⟩;walk_at "rd";obtain⟨ys,ey,Y⟩:=J.cut 6 (6+(x5 % 5).toNat) (by lia) (by lia);rw[show 6+x5 % 5=((6+(x5 % 5).toNat:Nat):Int)by lia,show L2.cj (Q.map D.int) (some 6) (some ((6+(x5 % 5).toNat:Nat):Int))=ys.map D.int from ey];refine fun hz=>⟨hz,?_⟩;refine uA (fun j o N e=>∃(z:Option D) (a:List (Str×Int)),N=[none,some (.lst (C.map D.str)),none,none,z]/\e=M/\o=a.map ao/\a.length=j/\∀x∈a,sQ x) ⟨none,[],rfl,rfl,rfl,rfl,(fun _ h=>by cases h)⟩ ?_ ?_
  ·rintro j d o N e X2 L ⟨z,a,rfl,rfl,rfl,l,g⟩ k2;obtain⟨x,O,rfl⟩:=fC L;refine⟨_,rfl,?_⟩;walk_at "rd";simp only[CO];walk_at "rd";refine⟨x,C,rfl,(Y.2 x (O5 O)).1,hw,X,fun s h1 h2 h3=>k2 _ _ _ ⟨_,a++[s],rfl,rfl,by simp,by simp[l],fun y G=>?_⟩⟩;rcases L4.mp G with h|h
   ·exact g y h
   ·rw[K2.mp h];exact wm hW h1 h2 h3
  ·rintro o N e ⟨z,a,rfl,rfl,rfl,l,g⟩;rw[J0,Y.1]at l;exact u _ _ ⟨⟨a,⟨by lia,g⟩,rfl⟩,rfl⟩
 rintro _ _ ⟨⟨m,p,rfl⟩,rfl⟩;refine bz (fun c e=>(∃m,Sgs m/\c=[some (.lst (Q.map D.int)),some (.lst (C.map D.str)),some (.tup (r.map ao)),some (.tup (m.map ao))])/\M=e) (fun nx u=>?_) ?_
 ·walk_at "rd";refine⟨_,U,?_⟩;walk_at "rd";exact aW (fun _=>u _ _ ⟨⟨r,q,rfl⟩,rfl⟩) (fun _=>u _ _ ⟨⟨m,p,rfl⟩,rfl⟩)
 rintro _ _ ⟨⟨m,p,rfl⟩,rfl⟩;refine bz (fun c e=>(∃m,Sgs m/\c=[some (.lst (Q.map D.int)),some (.lst (C.map D.str)),some (.tup (r.map ao)),some (.tup (m.map ao))])/\M=e) (fun nx u=>?_) ?_
 ·walk_at "rd";refine⟨_,U,?_⟩;walk_at "rd";refine aW (fun _=>⟨sz3 0,_,BZ,_,rfl,aW (fun _=>?_) (fun _=>u _ _ ⟨⟨m,p,rfl⟩,rfl⟩)⟩) (fun _=>u _ _ ⟨⟨m,p,rfl⟩,rfl⟩);rw[show L2.cj (r.map ao) (some 1) none=(r.map ao).drop 1 from gj (n:=1),show L2.cj (r.map ao) none (some 1)=(r.map ao).take 1 from rQ (n:=1),<-ap1,<-as8,<-O2];have a5:=q.1;refine⟨_,if_pos (by rw[J0,J0,V5,R3];exact sz3 _ (by lia)),u _ _ ⟨⟨r.drop 1++r.take 1,⟨by rw[N7,V5,R3];lia,fun x J=>?_⟩,rfl⟩,rfl⟩⟩;rcases L4.mp J with h|h
  ·exact q.2 x (ae0 h)
  ·exact q.2 x (ab0 h)
 rintro _ _ ⟨⟨m,p,rfl⟩,rfl⟩;walk_at "rd";exact⟨sz3 2,k r m q p⟩
def S_law:SpD:=fun c M R=>∃a:List Int,c=[.scr (a.map D.int)]/\M=noM/\a.length<=63/\∀e,R (.bl true) e
theorem il{s:Str}{d:D}(hs:s.length<=1000000) (h:tM d):rj (.tup [.str s,d]):=by
 refine⟨?_,fun a c e=>?_⟩
 ·have:=h.1;simp only[ar,bG,this,ai5,decide_eq_true_eq];exact hs
 ·simp only[D.tup.injEq,S4,and_true]at e;exact h.2 c e.2
theorem Ei(F:Fun K "law" "law" zE f I) (T:Txt B) {C:K1} (a8:FnD P w K B base "_law_numbers" 1 3 mB) (d3:FnD P w K B base "_law_names" 1 1 qC) (a':FnD P w K B base "_law_order" 1 2 qe) (b':FnD P w K B base "_law_rows" 2 2 tm) (b5:FnD P w K B base "_law_wish" 1 1 tW) (c':FnD P w K B base "_law_stretches" 3 2 jA) (c3:FnD P w K B base "_law_bent" 1 3 uo) (b9:FnD P w K B base "_law_taken" 12 3 (qg C)) (b2:FnD P w K B base "_law_shows" 4 3 qt):aR P w K B base CX0 13 f I ["_law_script"] (spD K 1 S_law):=by
 have Q:=Ba.nd;refine F.okR rfl Ba (fun d8 A b8 s H E hr=>⟨_,(aj (aE (i:=1) Q rfl (P0 rfl) (qd a8 hr (af (aa 0) (af ah (af ah ag)))))
   (aj (aE (i:=2) Q rfl (P0 rfl) (qd d3 hr (af (bu (aa 1) da (br (ay aG ah (ay bK (aU aV (aa 1) ah (fun _ _=>rfl)) ah)))) ag)))
   (aj (aE (i:=3) Q rfl (P0 rfl) (qd a' hr (af (bu (aa 1) (br ah) (br ah)) (af (aa 2) ag))))
   (aj (uf (qd b' hr (af (bu (aa 1) (br ah) da) (af (aa 2) ag))) (ix rfl (bw (aJ (i:=4) Q rfl (P0 rfl)) (bw (aJ (i:=5) Q rfl (P0 rfl)) gU))))
   (aj (aE (i:=6) Q rfl (P0 rfl) (ay aG (aa 4) (qd b5 hr (af (aa 5) ag))))
   (aj (aE (i:=7) Q rfl (P0 rfl) (aY (af dI (af (aa 3) (af (aa 4) (af (aa 5) ag))))))
   (aj (aE (i:=8) Q rfl (P0 rfl) (bg cb rfl T.b_tuple (by kernel_rfl) (af (zT rfl rfl T.b_sorted (qd c' hr (af (aa 3) (af (aa 6) ag)))) ag)))
   (aj (cq P3 rfl (kn rfl T.b_range (af ah (af ah ag))) (aJ (i:=9) Q rfl (P0 rfl)) (aj (aE (i:=10) Q rfl (P0 rfl) (qd a8 hr (af (aa 0) (af (aa 9) (af ah ag)))))
   (aj (aE (i:=11) Q rfl (P0 rfl) (qd c3 hr (af (aa 8) (af (az bR rfl T.b_len (by kernel_rfl) (af (aa 6) ag)) (af (aU aV (aa 10) ah (fun _ _=>rfl)) ag)))))
   (aj (aE (i:=12) Q rfl (P0 rfl) (iL (af (aY (af dI (af (aa 8) ag))) (af (aY (af dI (af (aa 11) ag))) (af (aY (af dI (af (aU aV (aa 2) (ay bK (aU aV (aa 10) ah (fun _ _=>rfl)) (az bR rfl T.b_len (by kernel_rfl) (af (aa 2) ag))) (fun _ _=>rfl)) ag))) ag)))))
   (aj (fM (kJ (aa 12) (aU aV (iw (af (aY (af dI ag)) (af (aY (af dI (af (aa 8) ag))) (af (aY (af dI (af dI ag))) (af (iw (af dI (af (aa 8) ag))) (af (aY (af eO (af (aa 8) ag))) ag)))))) (ay bK (aU aV (aa 10) ah (fun _ _=>rfl)) ah) (fun _ _=>rfl))))
   (Dt 12 (ak (cq P3 rfl (ba (aa 12)) (aJ (i:=13) Q rfl (P0 rfl)) (ak (aZ (dQ (bQ (qd b9 hr (af (aa 7) (af (aa 13) (af (qd b2 hr (af (aa 3) (af (aa 6) (af (aa 13) ag)))) ag)))))) (ak (aB eO)) aM))))))))))
   (ak (aB eO)))))))))),fun ds M R _ hS bk=>?_⟩)
 obtain⟨O,rfl,rfl,hn,k⟩:=hS;refine bk ?_;clear bk;refine bz (fun c J=>(∃m,lu 24 m/\c=[some (.scr (O.map D.int)),some (.lst (m.map D.int)),none,none,none,none,none,none,none,none,none,none,none,none])/\noM=J) (fun nx L=>?_) ?_
 ·walk_at "rd";exact⟨O,0,24,rfl,by decide,fun m U=>L _ _ ⟨⟨m,U,rfl⟩,rfl⟩⟩
 rintro _ _ ⟨⟨m,U,rfl⟩,rfl⟩;refine bz (fun c J=>(∃u:List Str,u≠[]/\u.length<=8/\(∀w∈u,eh w)/\c=[some (.scr (O.map D.int)),some (.lst (m.map D.int)),some (.lst (u.map D.str)),none,none,none,none,none,none,none,none,none,none,none])/\noM=J) (fun nx L=>?_) ?_
 ·obtain⟨x4,e4,b0,b1⟩:=U.at 4 (by decide);walk_at "rd";refine⟨_,e4,?_⟩;walk_at "rd";rw[show 1+x4 % 4=(((1+x4 % 4).toNat:Nat):Int)by lia,rQ,<-as8];refine⟨_,rfl,by simp;lia,fun x c4=>(U.2 x (ab0 c4)).1,fun u hw hW=>L _ _ ⟨⟨u,?_,?_,hW,rfl⟩,rfl⟩⟩
  ·rintro rfl;rw[R3,U.1]at hw;simp at hw;lia
  ·rw[hw];simp;lia
 rintro _ _ ⟨⟨u,hw,a6,hW,rfl⟩,rfl⟩;refine bz (fun c J=>(∃o:List (Str×Str),o.length<=3/\(∀x∈o,bp x.1=true/\bp x.2=true)/\c=[some (.scr (O.map D.int)),some (.lst (m.map D.int)),some (.lst (u.map D.str)),some (.tup (o.map aw)),none,none,none,none,none,none,none,none,none,none])/\noM=J) (fun nx L=>?_) ?_
 ·walk_at "rd";obtain⟨Z,ey,hy⟩:=U.cut 5 12 (by decide) (by decide);refine⟨Z,u,by rw[show L2.cj (m.map D.int) (some 5) (some 12)=Z.map D.int from ey],hy,hw,a6,fun o h1 h2=>L _ _ ⟨⟨o,h1,fun x U=>⟨jH (hW _ (h2 x U).1),jH (hW _ (h2 x U).2)⟩,rfl⟩,rfl⟩⟩
 rintro _ _ ⟨⟨o,d9,ho,rfl⟩,rfl⟩;have hO:nJ o:=⟨by exact K4 (by assumption) (by decide),ho⟩;refine bz (fun c J=>(∃j g,Sgs j/\Sgs g/\c=[some (.scr (O.map D.int)),some (.lst (m.map D.int)),some (.lst (u.map D.str)),some (.tup (o.map aw)),some (.tup (j.map ao)),some (.tup (g.map ao)),none,none,none,none,none,none,none,none])/\noM=J) (fun nx L=>?_) ?_
 ·walk_at "rd";have ec:L2.cj (m.map D.int) (some 12) none=(m.drop 12).map D.int:=by
   rw[show L2.cj (m.map D.int) (some 12) none=(m.map D.int).drop 12 from gj (n:=12),ap1]
  rw[ec];exact⟨m.drop 12,u,rfl,⟨by rw[V5,U.1],fun x h=>U.2 x (ae0 h)⟩,hw,a6,hW,fun j g h1 h2=>⟨_,rfl,L _ _ ⟨⟨j,g,h1,h2,rfl⟩,rfl⟩⟩⟩
 rintro _ _ ⟨⟨j,g,a9,a7,rfl⟩,rfl⟩;have l1:=a9.1;have l2:=a7.1;have d4:ic j:=⟨by exact K4 (by assumption) (by decide),a9.2⟩;have d2:ic g:=⟨by exact K4 (by assumption) (by decide),a7.2⟩;have d5:(wsh g).length=g.length:=by simp[wsh]
 refine bz (fun c J=>c=[some (.scr (O.map D.int)),some (.lst (m.map D.int)),some (.lst (u.map D.str)),some (.tup (o.map aw)),some (.tup (j.map ao)),some (.tup (g.map ao)),some (.tup ((j++wsh g).map ao)),none,none,none,none,none,none,none]/\noM=J) (fun nx L=>?_) ?_
 ·walk_at "rd";refine⟨g,rfl,by exact K4 (by assumption) (by decide),_,if_pos (by rw[J0,J0];exact sz3 _ (by lia)),L _ _ ⟨by rw[O2],rfl⟩⟩
 rintro _ _ ⟨rfl,rfl⟩;have a2:(j++wsh g).length<=8:=by rw[N7];lia
 generalize b3:j++wsh g=G at *
 refine bz (fun c J=>c=[some (.scr (O.map D.int)),some (.lst (m.map D.int)),some (.lst (u.map D.str)),some (.tup (o.map aw)),some (.tup (j.map ao)),some (.tup (g.map ao)),some (.tup (G.map ao)),some (.tup [.str "comes not",.tup (o.map aw),.tup (j.map ao),.tup (g.map ao)]),none,none,none,none,none,none]/\noM=J) (fun nx L=>?_) ?_
 ·walk_at "rd";exact⟨sz3 4,L _ _ ⟨rfl,rfl⟩⟩
 rintro _ _ ⟨rfl,rfl⟩;refine bz (fun c J=>(∃N:List (Int×Int),N.length<=45/\c=[some (.scr (O.map D.int)),some (.lst (m.map D.int)),some (.lst (u.map D.str)),some (.tup (o.map aw)),some (.tup (j.map ao)),some (.tup (g.map ao)),some (.tup (G.map ao)),some (.tup [.str "comes not",.tup (o.map aw),.tup (j.map ao),.tup (g.map ao)]),some (.tup (N.map pD)),none,none,none,none,none])) (fun nx L=>?_) ?_
 ·walk_at "rd";refine⟨o,G,rfl,by exact K4 (by assumption) (by decide),a2,fun p b6 hp hk=>?_⟩;obtain⟨N,h1,h2,h3⟩:=hk;exact⟨p,rfl,b6,aA,N,h1,by lia,fun qs h4 h5=>L _ _ ⟨qs,by exact K4 (by assumption) (by assumption),rfl⟩⟩
 rintro _ M1 ⟨N,b4,rfl⟩;walk_at "rd";refine⟨1,11,⟨rfl,rfl⟩,⟨by decide,by decide,by decide,by decide⟩,?_⟩;refine aL (fun i Δ J=>∃x9 a3 a0 S q:Option D,Δ=[some (.scr (O.map D.int)),some (.lst (m.map D.int)),some (.lst (u.map D.str)),some (.tup (o.map aw)),some (.tup (j.map ao)),some (.tup (g.map ao)),some (.tup (G.map ao)),some (.tup [.str "comes not",.tup (o.map aw),.tup (j.map ao),.tup (g.map ao)]),some (.tup (N.map pD)),x9,a3,a0,S,q]) ⟨none,none,none,none,none,rfl⟩ ?_ ?_
 ·rintro i d Δ J X hd ⟨x9,a3,a0,S,q,rfl⟩ L;obtain⟨hi,rfl⟩:=cm hd;refine⟨_,rfl,?_⟩;refine bz (fun c M2=>(∃Z,lu 3 Z/\c=[some (.scr (O.map D.int)),some (.lst (m.map D.int)),some (.lst (u.map D.str)),some (.tup (o.map aw)),some (.tup (j.map ao)),some (.tup (g.map ao)),some (.tup (G.map ao)),some (.tup [.str "comes not",.tup (o.map aw),.tup (j.map ao),.tup (g.map ao)]),some (.tup (N.map pD)),some (.int (1+(i:Int))),some (.lst (Z.map D.int)),a0,S,q])/\J=M2) (fun nx a4=>?_) ?_
  ·walk_at "rd";exact⟨O,1+i,3,by simp,by decide,fun Z hy=>a4 _ _ ⟨⟨Z,hy,rfl⟩,rfl⟩⟩
  rintro _ _ ⟨⟨Z,hy,rfl⟩,rfl⟩;obtain⟨y0,f0,b0,b1⟩:=hy.at 0 (by decide);obtain⟨y1,f1,c0,c1⟩:=hy.at 1 (by decide);obtain⟨y2,f2,d0,d1⟩:=hy.at 2 (by decide);refine bz (fun c M2=>(∃d,tM d/\c=[some (.scr (O.map D.int)),some (.lst (m.map D.int)),some (.lst (u.map D.str)),some (.tup (o.map aw)),some (.tup (j.map ao)),some (.tup (g.map ao)),some (.tup (G.map ao)),some (.tup [.str "comes not",.tup (o.map aw),.tup (j.map ao),.tup (g.map ao)]),some (.tup (N.map pD)),some (.int (1+(i:Int))),some (.lst (Z.map D.int)),some d,S,q])/\J=M2) (fun nx a4=>?_) ?_
  ·walk_at "rd";rw[J0];exact⟨_,f0,N,G.length,y0,rfl,a2,b4,b0,fun d hd=>a4 _ _ ⟨⟨d,hd,rfl⟩,rfl⟩⟩
  rintro _ _ ⟨⟨d,hd,rfl⟩,rfl⟩;walk_at "rd";rw[J0];have d6:=List.length_pos_iff.mpr hw;obtain⟨m1,c6,g1⟩:=kX (ko:=u) (v:=y1 % u.length) (ac9 _ (by lia)) (ad5 _ (by lia));have Y:tM (.tup (N.map pD)):=gk (by exact K4 (by assumption) (by decide));obtain⟨z,hz,ez⟩:=vZ (l:=[D.tup [D.str (N1 "closed")],D.tup [D.str (N1 "close"),D.tup (aq8 pD N)],D.tup [D.str (N1 "counted"),D.str (N1 "Aa")],D.lst [D.str (N1 "closed"),D.tup (aq8 pD N)],D.tup [D.bl true,D.tup (aq8 pD N)]]) (v:=y2 % 5) (by lia) (by simp;lia);have pz:rj z:=by
   have hg:=Y.1;have a1:ar (.str (N1 "closed"))=true:=by decide +kernel
   have d7:ar (.str (N1 "close"))=true:=by decide +kernel
   have d':ar (.str (N1 "counted"))=true:=by decide +kernel
   have c5:ar (.str (N1 "Aa"))=true:=by decide +kernel
   simp only[L1,R4,or_false]at hz;rcases hz with rfl|rfl|rfl|rfl|rfl
   ·exact⟨by simp only[ar,bG,ai5]at a1 ⊢;exact a1,fun a es e=>by cases e⟩
   ·exact il (by decide +kernel) Y
   ·exact il (by decide +kernel) ⟨c5,fun es e=>by cases e⟩
   ·refine⟨?_,fun a es e=>by cases e⟩;simp only[ar,bG,ai5]at a1 hg ⊢;rw[a1,hg];rfl
   ·refine⟨?_,fun a es e=>by cases e;rw[J0];exact K4 (by assumption) (by decide)⟩;simp only[ar,bG,ai5]at hg ⊢;rw[hg];rfl
  have pm:rj (.tup [.str (N1 "counted"),.str m1]):=il (by decide +kernel) ⟨by
   have:=Aw (hW _ c6);simp only[ar,decide_eq_true_eq];exact K4 (by assumption) (by decide),fun es e=>by cases e⟩
  refine⟨sz3 2,sz3 2,_,f1,_,if_pos (by lia),_,g1,sz3 2,sz3 3,fun p hp=>⟨sz3 1,sz3 2,sz3 2,sz3 2,sz3 2,sz3 5,_,f2,_,rfl,_,ez,K7 (by decide:3<1000) (sz3 1000),?_⟩⟩;refine fun _=>?_;refine aL (fun _ Δ M2=>∃q:Option D,Δ=[some (.scr (O.map D.int)),some (.lst (m.map D.int)),some (.lst (u.map D.str)),some (.tup (o.map aw)),some (.tup (j.map ao)),some (.tup (g.map ao)),some (.tup (G.map ao)),some (.tup [.str "comes not",.tup (o.map aw),.tup (j.map ao),.tup (g.map ao)]),some (.tup (N.map pD)),some (.int (1+(i:Int))),some (.lst (Z.map D.int)),some d,some (.lst [D.tup [D.str (N1 "closed"),D.tup (aq8 pD N)],D.tup [D.str (N1 "closed"),d],D.tup [D.str (N1 "counted"),D.str m1],z]),q]) ⟨q,rfl⟩ ?_ ?_
  ·rintro t e Δ M2 X3 c2 ⟨q,rfl⟩ k3;have a5:rj e:=by
    have h:=O5 c2;simp only[L1,R4,or_false]at h;rcases h with rfl|rfl|rfl|rfl
    ·exact il (by decide +kernel) Y
    ·exact il (by decide +kernel) hd
    ·exact pm
    ·exact pz
   refine⟨_,rfl,?_⟩;walk_at "rd";refine⟨o,G,e,rfl,by exact K4 (by assumption) (by decide),by exact K4 (by assumption) (by decide),a5,?_⟩;walk_at "rd";refine⟨o,j,g,e,by rw[b3],hO,d4,d2,a5,_,rfl,?_⟩;rw[if_neg (by decide)];exact k3 _ _ ⟨_,rfl⟩
  ·rintro Δ M2 ⟨q,rfl⟩;exact L _ _ ⟨_,_,_,_,_,rfl⟩
 ·rintro Δ J ⟨x9,a3,a0,S,q,rfl⟩;walk_at "rd";exact k _
end
theorem HA:Gw S_law:=fun e R a c=>⟨e,rfl,rfl,a,c⟩
theorem ER{l:PySem.W.OpenLaw}{w:P5}{K:J4}{h:L5}{mg:Str->Option J3}{fa:K1}(X:K.In h) (G:h.Ns L9 mg) (q1:mg "law"=some (.ref fa))
  {C:K1}
  {f0:K1} {d0:N2}
  {f1:K1} {d1:N2}
  {f2:K1} {d2:N2}
  {f3:K1} {d3:N2}
  {f4:K1} {d4:N2}
  {f5:K1} {d5:N2}
  {f6:K1} {d6:N2}
  {f7:K1} {d7:N2}
  {f8:K1} {d8:N2}
  {f9:K1} {d9:N2}
  {z1:K1} {d10:N2}
  {n8:K1} {d11:N2}
  {o1:K1} {s3:N2}
  {z2:K1} {t0:N2}
  {w4:K1} {d14:N2}
  {v1:K1} {p':N2}
  {k2:K1} {q0:N2}
  {r6:K1} {t1:N2}
  {r':K1} {r7:N2}
  {o2:K1} {l':N2}
  {n':K1} {v2:N2}
  {z8:K1} {d21:N2}
  {q7:K1} {s7:N2}
  {t6:K1} {r5:N2}
  {a':K1} {w1:N2}
  {s5:K1} {z4:N2}
  {f26:K1} {n7:N2}
  {l2:K1} {d27:N2}
  {z7:K1} {v5:N2}
  {f29:K1} {m':N2}
  {u3:K1} {d30:N2}
  {w3:K1} {n2:N2}
  {t':K1} {u5:N2}
  {s9:K1} {z':N2}
  {f34:K1} {d34:N2}
  {w':K1} {u0:N2}
  {j2:K1} {k3:N2}
  {s8:K1} {i':N2}
  {r0:K1} {r8:N2}
  {z0:K1} {i5:N2}
  {f40:K1} {q9:N2}
  {r3:K1} {x':N2}
  {z3:K1} {d42:N2}
  {t4:K1} {y':N2}
  {t5:K1} {q6:N2}
  {w8:K1} {r9:N2}
  {w6:K1} {q4:N2}
  {n4:K1} {d47:N2}
  {f48:K1} {r2:N2}
  {p3:K1} {n0:N2}
  {w5:K1} {p1:N2}
  {f:Tok}
  {i:Tok}
  {m:Tok}
  {n:Tok}
  {a:Tok}
  {e:K1} {z:Nat} {s' p2 u4 p4 s4 v3 w7:Tok} {h5 h1 i3 h' i1 h4 h8:J3} {i2 h2 h6 h9 h0 i0 h3:Int}
  (x0:bf K "is_whole" gA f0 d0)
  (x1:bf K "is_tuple_of" dR f1 d1)
  (x2:bf K "is_short_word" b7 f2 d2)
  (x3:bf K "are_alike" fQ f3 d3)
  (x4:bf K "reached_from" dv f4 d4)
  (x5:bf K "right_wish" c8 f5 d5)
  (x6:bf K "surplus" fB f6 d6)
  (x7:bf K "put_sign" gn f7 d7)
  (x8:bf K "rise" lC f8 d8)
  (x9:bf K "are_all_linked" cM f9 d9)
  (a4:bf K "_law_numbers" iP z1 d10)
  (c0:bf K "_law_names" lO n8 d11)
  (g7:bf K "_law_order" lR o1 s3)
  (g3:bf K "_law_sign" oM z2 t0)
  (b0:bf K "_law_reached" ip w4 d14)
  (c1:bf K "_law_wish" kc v1 p')
  (e9:bf K "_law_is_end" jI k2 q0)
  (e2:bf K "_law_hang" nH r6 t1)
  (g1:bf K "_law_bent" eX r' r7)
  (c2:bf K "is_tuple_called" cF o2 l')
  (c4:bf K "is_mark" iC n' v2)
  (b3:bf K "at_most" iU z8 d21)
  (b6:bf K "hanging_with" cx q7 s7)
  (b1:bf K "is_turn" iJ t6 r5)
  (m0:O3 K L9 "Ground"=some (some (.ref C))) (m1:PySem.W.makesIn K C=true) (m2:W7 K (.ref C) "__init__"=some (some (.ref a'))) (m3:PySem.W.isFn K (.ref a')=true) (m4:ab9 K (.ref C)=true)
  (y1:ao7 K C Str.empty=true) (y2:am9 K C=true) (y3:PySem.W.plainOver K C=true) (y4:W7 K (.ref C) "__setattr__"=some (some (.builtin "object.__setattr__")))
  (N:W7 K (.ref C) "asked"=some none)
  (A:W7 K (.ref C) "barred"=some none)
  (M:W7 K (.ref C) "ahead"=some none)
  (B:W7 K (.ref C) "behind"=some none)
  (h7:Fun K "__init__" "Ground.__init__" jD a' w1)
  (c3:bf K "is_stretch" eW s5 z4)
  (a2:bf K "_law_cancel" jR f26 n7)
  (b2:bf K "_law_counted" dO l2 d27)
  (c5:bf K "_law_rows" ig z7 v5)
  (c6:bf K "is_pair" iq f29 m')
  (g2:bf K "is_sign" gY u3 d30)
  (e':bf K "mark_leads" fm w3 n2)
  (e3:bf K "is_uneven" fP t' u5)
  (g4:bf K "ground_of_row" bY s9 z')
  (c':bf K "_law_stretches" fJ f34 d34)
  (b5:bf K "_law_closed" eZ w' u0)
  (b4:bf K "is_order" eG j2 k3)
  (g5:bf K "is_row" gx s8 i')
  (b8:bf K "cancel" jT r0 r8)
  (a3:bf K "_law_shows" iY z0 i5)
  (e6:bf K "pair_around" dZ f40 q9)
  (a0:bf K "is_row_taken" dA r3 x')
  (a6:bf K "are_all_around" bv z3 d42)
  (g0:bf K "are_rows_taken" cN t4 y')
  (b':bf K "is_closed" bX t5 q6)
  (U:bf K "are_pairs_against_row" bb w8 r9)
  (e1:bf K "is_paper_against_row" bJ w6 q4)
  (e7:bf K "takes_comes_not" cG n4 d47)
  (e4:bf K "holds" md f48 r2)
  (f':bf K "_law_taken" lN p3 n0)
  (g':bf K "law" zE w5 p1)
  (p:O3 K L9 "isinstance"=some none)
  (a9:O3 K L9 "int"=some none)
  (R:O3 K L9 "bool"=some none)
  (L:O3 K L9 "tuple"=some none)
  (a7:O3 K L9 "len"=some none)
  (e0:O3 K L9 "str"=some none)
  (a1:O3 K L9 "all"=some none)
  (x:O3 K L9 "reversed"=some none)
  (a5:O3 K L9 "sum"=some none)
  (Y:O3 K L9 "zip"=some none)
  (e5:O3 K L9 "any"=some none)
  (q:O3 K L9 "enumerate"=some none)
  (O:O3 K L9 "range"=some none)
  (b9:O3 K L9 "abs"=some none)
  (Q:O3 K L9 "dict"=some none)
  (S:O3 K L9 "list"=some none)
  (H:O3 K L9 "sorted"=some none)
  (d':O3 K L9 "max"=some none)
  (a8:O3 K L9 "set"=some none)
  (g:O3 K L9 "SMALL_LETTERS"=some (some (.str "abcdefghijklmnopqrstuvwxyz" f)))
  (j:O3 K L9 "MOST_LETTERS"=some (some (.int 8 i)))
  (o:O3 K L9 "MOST_PAIRS"=some (some (.int 8 m)))
  (u:O3 K L9 "MOST_TURN"=some (some (.int 99 n)))
  (c:O3 K L9 "MOST_SIGNS_OF_ROW"=some (some (.int 60 a)))
  (J:O3 K L9 "CHECKS"=some (some (.ref e)))
  (I:K.lookup e=some ⟨.type "dict",none,.dict #[⟨i2,.str "sentence" s',h5⟩,⟨h2,.str "no sentence" p2,h1⟩,⟨h6,.str "twofold" u4,i3⟩,⟨h9,.str "comes" p4,h'⟩,⟨h0,.str "comes not" s4,i1⟩,⟨i0,.str "parted" v3,h4⟩,⟨h3,.str "means" w7,h8⟩] z,#[]⟩)
  (E:(e==Z6)=false)
  (q5:i2=o8 w (.inr "sentence")) (o4:O3 K L9 "takes_sentence"=some (some h5))
  (y0:h2=o8 w (.inr "no sentence")) (u2:O3 K L9 "takes_no_sentence"=some (some h1))
  (s0:h6=o8 w (.inr "twofold")) (w2:O3 K L9 "takes_twofold"=some (some i3))
  (z5:h9=o8 w (.inr "comes")) (vv3:O3 K L9 "takes_comes"=some (some h'))
  (s1:h0=o8 w (.inr "comes not")) (n1:O3 K L9 "takes_comes_not"=some (some i1))
  (j5:i0=o8 w (.inr "parted")) (n3:O3 K L9 "takes_parted"=some (some h4))
  (k5:h3=o8 w (.inr "means")) (u':O3 K L9 "takes_means"=some (some h8))
 :∃fd:N2,(∀(s:J5) (v:J3),aw1 s fd ⟨[v],[]⟩ [("_law_script",v)])/\∀base:L5,K.In base->base.Ns L9 mg->aR l.prog w K mg base CX0 13 fa fd ["_law_script"] (spD K 1 S_law):=by
 have T:Txt mg:=⟨P8 X G p,P8 X G a9,P8 X G R,P8 X G L,P8 X G a7,P8 X G e0,P8 X G a1,P8 X G x,P8 X G a5,P8 X G Y,P8 X G e5,P8 X G q,P8 X G O,P8 X G b9,P8 X G Q,P8 X G S,P8 X G H,P8 X G d',P8 X G a8,⟨_,U9 X G g⟩,⟨_,U9 X G j⟩,⟨_,U9 X G o⟩,⟨_,U9 X G u⟩,⟨_,U9 X G c⟩⟩;have Z:iG K C:=⟨⟨y1,y2,y3,y4⟩,N,A,M,B⟩;have GF:kM w K mg "CHECKS" Gr:=⟨_,_,_,_,U9 X G J,I,⟨rfl,rfl,rfl⟩,rfl,E,by decide +kernel,(.cons ⟨⟨_,rfl⟩,q5,U9 X G o4⟩ (.cons ⟨⟨_,rfl⟩,y0,U9 X G u2⟩ (.cons ⟨⟨_,rfl⟩,s0,U9 X G w2⟩ (.cons ⟨⟨_,rfl⟩,z5,U9 X G vv3⟩ (.cons ⟨⟨_,rfl⟩,s1,U9 X G n1⟩ (.cons ⟨⟨_,rfl⟩,j5,U9 X G n3⟩ (.cons ⟨⟨_,rfl⟩,k5,U9 X G u'⟩ .nil)))))))⟩;refine Fx X G q1 g' (fun _ _ _ _ _ _ _=>rfl) fun base=>?_;have Y4:=fg X G x0 (o7 (P:=l.prog) (w:=w) (base:=base) x0.F T ) (bd1 x0.F fun _ _ _ _ _ _ _=>rfl);have Y0:=fg X G x1 (lW (P:=l.prog) (w:=w) (base:=base) x1.F T ) (bd2 x1.F fun _ _ _ _ _ _ _ _=>rfl);have l3:=fg X G x2 (jK (P:=l.prog) (w:=w) (base:=base) x2.F T ) (bd1 x2.F fun _ _ _ _ _ _ _=>rfl);have gb4:=fg X G x3 (oQ (P:=l.prog) (w:=w) (base:=base) x3.F T ) (bd2 x3.F fun _ _ _ _ _ _ _ _=>rfl);have Y2:=fg X G x4 (kY (P:=l.prog) (w:=w) (base:=base) x4.F T ) (bd2 x4.F fun _ _ _ _ _ _ _ _=>rfl);have v0:=fg X G x5 (mT (P:=l.prog) (w:=w) (base:=base) x5.F T ) (bd1 x5.F fun _ _ _ _ _ _ _=>rfl);have v':=fg X G x6 (qS (P:=l.prog) (w:=w) (base:=base) x6.F T ) (bd2 x6.F fun _ _ _ _ _ _ _ _=>rfl);have w9:=fg X G x7 (pq (P:=l.prog) (w:=w) (base:=base) x7.F T Z ) (bd4 x7.F fun _ _ _ _ _ _ _ _ _ _=>rfl);have s6:=fg X G x8 (ym (P:=l.prog) (w:=w) (base:=base) x8.F T ) (bd1 x8.F fun _ _ _ _ _ _ _=>rfl);have o5:=fg X G x9 (jf (P:=l.prog) (w:=w) (base:=base) x9.F T ) (bd1 x9.F fun _ _ _ _ _ _ _=>rfl);have t8:=fg X G a4 (rO (P:=l.prog) (w:=w) (base:=base) a4.F T ) (bd3 a4.F fun _ _ _ _ _ _ _ _ _=>rfl);have gd1:=fg X G c0 (vy (P:=l.prog) (w:=w) (base:=base) c0.F T ) (bd1 c0.F fun _ _ _ _ _ _ _=>rfl);have j4:=fg X G g7 (vO (P:=l.prog) (w:=w) (base:=base) g7.F T ) (bd2 g7.F fun _ _ _ _ _ _ _ _=>rfl);have j':=fg X G g3 (yL (P:=l.prog) (w:=w) (base:=base) g3.F T ) (bd2 g3.F fun _ _ _ _ _ _ _ _=>rfl);have l4:=fg X G b0 (rT (P:=l.prog) (w:=w) (base:=base) b0.F T ) (bd2 b0.F fun _ _ _ _ _ _ _ _=>rfl);have o':=fg X G c1 (yD (P:=l.prog) (w:=w) (base:=base) c1.F T ) (bd1 c1.F fun _ _ _ _ _ _ _=>rfl);have r1:=fg X G e9 (tS (P:=l.prog) (w:=w) (base:=base) e9.F T ) (bd2 e9.F fun _ _ _ _ _ _ _ _=>rfl);have w0:=fg X G e2 (yj (P:=l.prog) (w:=w) (base:=base) e2.F T ) (bd2 e2.F fun _ _ _ _ _ _ _ _=>rfl);have s2:=fg X G g1 (yo (P:=l.prog) (w:=w) (base:=base) g1.F T ) (bd3 g1.F fun _ _ _ _ _ _ _ _ _=>rfl);have Y6:=fg X G c2 (iM (P:=l.prog) (w:=w) (base:=base) c2.F T Y0 gb4) (bd3 c2.F fun _ _ _ _ _ _ _ _ _=>rfl);have Y1:=fg X G c4 (qM (P:=l.prog) (w:=w) (base:=base) c4.F T l3) (bd1 c4.F fun _ _ _ _ _ _ _=>rfl);have q8:=fg X G b3 (sf (P:=l.prog) (w:=w) (base:=base) b3.F T Y2) (bd3 b3.F fun _ _ _ _ _ _ _ _ _=>rfl);have k0:=fg X G b6 (kK (P:=l.prog) (w:=w) (base:=base) b6.F T Y2) (bd2 b6.F fun _ _ _ _ _ _ _ _=>rfl);have q2:=fg X G b1 (qT (P:=l.prog) (w:=w) (base:=base) b1.F T Y4) (bd1 b1.F fun _ _ _ _ _ _ _=>rfl);have t2:MkD l.prog w K mg base "Ground" C 1 3 (jL C):=⟨_,_,_,⟨m1,m2,m3,m4⟩,tZ h7 T Z ,U9 X G m0,bd3 h7 fun _ _ _ _ _ _ _ _ _=>rfl⟩;have n5:=fg X G c3 (mS (P:=l.prog) (w:=w) (base:=base) c3.F T Y0 Y4) (bd2 c3.F fun _ _ _ _ _ _ _ _=>rfl);have g8:=fg X G a2 (ua (P:=l.prog) (w:=w) (base:=base) a2.F T l4) (bd3 a2.F fun _ _ _ _ _ _ _ _ _=>rfl);have gc4:=fg X G b2 (sd (P:=l.prog) (w:=w) (base:=base) b2.F T w0) (bd3 b2.F fun _ _ _ _ _ _ _ _ _=>rfl);have r4:=fg X G c5 (xU (P:=l.prog) (w:=w) (base:=base) c5.F T j') (bd2 c5.F fun _ _ _ _ _ _ _ _=>rfl);have j1:=fg X G c6 (qQ (P:=l.prog) (w:=w) (base:=base) c6.F T Y0 Y1) (bd1 c6.F fun _ _ _ _ _ _ _=>rfl);have q':=fg X G g2 (rS (P:=l.prog) (w:=w) (base:=base) g2.F T Y0 Y1 q2) (bd1 g2.F fun _ _ _ _ _ _ _=>rfl);have p5:=fg X G e' (mQ (P:=l.prog) (w:=w) (base:=base) e'.F T q8) (bd4 e'.F fun _ _ _ _ _ _ _ _ _ _=>rfl);have y5:=fg X G e3 (ny (P:=l.prog) (w:=w) (base:=base) e3.F T v' k0) (bd3 e3.F fun _ _ _ _ _ _ _ _ _=>rfl);have z6:=fg X G g4 (jC (P:=l.prog) (w:=w) (base:=base) g4.F T t2 w9) (bd1 g4.F fun _ _ _ _ _ _ _=>rfl);have v6:=fg X G c' (nQ (P:=l.prog) (w:=w) (base:=base) c'.F T g8) (bd2 c'.F fun _ _ _ _ _ _ _ _=>rfl);have t3:=fg X G b5 (sT (P:=l.prog) (w:=w) (base:=base) b5.F T r1 g8) (bd3 b5.F fun _ _ _ _ _ _ _ _ _=>rfl);have gb9:=fg X G b4 (pe (P:=l.prog) (w:=w) (base:=base) b4.F T j1) (bd1 b4.F fun _ _ _ _ _ _ _=>rfl);have Y8:=fg X G g5 (ui (P:=l.prog) (w:=w) (base:=base) g5.F T q') (bd1 g5.F fun _ _ _ _ _ _ _=>rfl);have u1:=fg X G b8 (uy (P:=l.prog) (w:=w) (base:=base) b8.F T p5) (bd3 b8.F fun _ _ _ _ _ _ _ _ _=>rfl);have l1:=fg X G a3 (uH (P:=l.prog) (w:=w) (base:=base) a3.F T gc4 t3) (bd3 a3.F fun _ _ _ _ _ _ _ _ _=>rfl);have k1:=fg X G e6 (lK (P:=l.prog) (w:=w) (base:=base) e6.F T Z u1) (bd3 e6.F fun _ _ _ _ _ _ _ _ _=>rfl);have Y9:=fg X G a0 (ki (P:=l.prog) (w:=w) (base:=base) a0.F T Y8) (bd1 a0.F fun _ _ _ _ _ _ _=>rfl);have p0:=fg X G a6 (jd (P:=l.prog) (w:=w) (base:=base) a6.F T k1) (bd3 a6.F fun _ _ _ _ _ _ _ _ _=>rfl);have k':=fg X G g0 (jj (P:=l.prog) (w:=w) (base:=base) g0.F T gb9 Y9) (bd3 g0.F fun _ _ _ _ _ _ _ _ _=>rfl);have y6:=fg X G b' (oT (P:=l.prog) (w:=w) (base:=base) b'.F T Z s6 p0 o5) (bd3 b'.F fun _ _ _ _ _ _ _ _ _=>rfl);have Y3:=fg X G U (fc (P:=l.prog) (w:=w) (base:=base) U.F T y6 z6 n5) (bd3 U.F fun _ _ _ _ _ _ _ _ _=>rfl);have Y5:=fg X G e1 (fq (P:=l.prog) (w:=w) (base:=base) e1.F T Y6 Y1 y5 Y3) (bd3 e1.F fun _ _ _ _ _ _ _ _ _=>rfl);have Y7:=fg X G e7 (ir (P:=l.prog) (w:=w) (base:=base) e7.F T Y0 k' Y5 v0) (bd2 e7.F fun _ _ _ _ _ _ _ _=>rfl);have gd3:=fg X G e4 (vQ (P:=l.prog) (w:=w) (base:=base) e4.F T GF Y7) (bd2 e4.F fun _ _ _ _ _ _ _ _=>rfl);have q3:=fg X G f' (vK (P:=l.prog) (w:=w) (base:=base) f'.F T gd3) (bd3 f'.F fun _ _ _ _ _ _ _ _ _=>rfl);exact Ei g'.F T t8 gd1 j4 r4 o' v6 s2 q3 l1
end My
namespace PySem.W.Fast
def tw10126622585651618160:=Nat
def tw10127141193440517820:=Nat
def tw10148788934444684924:=Nat
def tw10232157186409864071:=Nat
def tw10317198332902487118:=Nat
def tw10475478588361946416:=Nat
def tw10476112952664083820:=Nat
def tw10505273477508206011:=Nat
def tw10637782655548261401:=Nat
def tw10666287527359130577:=Nat
def tw10670098609838807109:=Nat
def tw1068016669886814338:=Nat
def tw10777291203070485813:=Nat
def tw10806660673627096397:=Nat
def tw10808315449994228424:=Nat
def tw10825558045317940035:=Nat
def tw10844188533024802868:=Nat
def tw10915915674136369643:=Nat
def tw10926724617053082342:=Nat
def tw10997783850256453238:=Nat
def tw11002732848194148513:=Nat
def tw11015738561673936966:=Nat
def tw11041608638668627567:=Nat
def tw11042931140483961999:=Nat
def tw11064780706413560622:=Nat
def tw11071745969494194617:=Nat
def tw11073726953970379568:=Nat
def tw11093875486224729343:=Nat
def tw11136903287182041540:=Nat
def tw1119599515036378687:=Nat
def tw11260763281950501579:=Nat
def tw11277451689232407966:=Nat
def tw11281215338630167496:=Nat
def tw11352059007973306857:=Nat
def tw11352202082002021679:=Nat
def tw11353391617448290715:=Nat
def tw11407718876809270731:=Nat
def tw1142384677918655225:=Nat
def tw11424912506396985297:=Nat
def tw1142709649638360477:=Nat
def tw1152964186389577090:=Nat
def tw11533874397075926562:=Nat
def tw11558980904044238732:=Nat
def tw11604173016111531372:=Nat
def tw11619025010634709112:=Nat
def tw11628835479367444471:=Nat
def tw11667269449437241584:=Nat
def tw11758573035226650929:=Nat
def tw11876216159138127838:=Nat
def tw11917290165855477783:=Nat
def tw11944739878953286383:=Nat
def tw12069353904447455147:=Nat
def tw12070439573287537632:=Nat
def tw12128166235045352848:=Nat
def tw1216247307799648998:=Nat
def tw12188888937884020608:=Nat
def tw12251036872087466310:=Nat
def tw12340365107482435439:=Nat
def tw12417521338776789183:=Nat
def tw12421170047289560297:=Nat
def tw12430320789857598747:=Nat
def tw12462214788623724342:=Nat
def tw12488160139487564492:=Nat
def tw12490471726250218586:=Nat
def tw12496066414386662451:=Nat
def tw12536692299548523050:=Nat
def tw12549263369527917446:=Nat
def tw1260588502573987762:=Nat
def tw12610906890834759430:=Nat
def tw12686220182708319760:=Nat
def tw12705855959039482442:=Nat
def tw12729709879798011237:=Nat
def tw1273180815571083909:=Nat
def tw12749010369810387653:=Nat
def tw12771594937945743240:=Nat
def tw12794186373697892465:=Nat
def tw12804805721419543235:=Nat
def tw12825753141109890793:=Nat
def tw12897311811216817598:=Nat
def tw12908359356562870124:=Nat
def tw12919089288648322324:=Nat
def tw12972575298963427202:=Nat
def tw12989426570854348792:=Nat
def tw13005100654373558729:=Nat
def tw13025213808892056395:=Nat
def tw13037843641111684953:=Nat
def tw13051319738298700469:=Nat
def tw13084133068129285035:=Nat
def tw13110871940715232723:=Nat
def tw1320485145026130402:=Nat
def tw13220589801041682806:=Nat
def tw13252804414879618073:=Nat
def tw13253786921806343895:=Nat
def tw13309686573782946254:=Nat
def tw13335935734657520939:=Nat
def tw13336591097995000242:=Nat
def tw13340692798691503249:=Nat
def tw13373357022829655838:=Nat
def tw1343698554147374107:=Nat
def tw13525459318043845657:=Nat
def tw13638889970583382085:=Nat
def tw13654380282658025946:=Nat
def tw1367733400665524912:=Nat
def tw13722528636791492007:=Nat
def tw13751546816436959026:=Nat
def tw13755850985635034707:=Nat
def tw13772499025931584871:=Nat
def tw13784693649053280405:=Nat
def tw13816073980791270641:=Nat
def tw13831354531974934809:=Nat
def tw13872450504928957746:=Nat
def tw1393155681913788572:=Nat
def tw13947373289544132361:=Nat
def tw13953039931491385664:=Nat
def tw13968732871604451192:=Nat
def tw13984979985509033933:=Nat
def tw13990559967580238532:=Nat
def tw13992427331644355484:=Nat
def tw14000131331868468015:=Nat
def tw14072987124147491389:=Nat
def tw14116217393964835169:=Nat
def tw14141627582331707670:=Nat
def tw14154767516853785734:=Nat
def tw14200101938527125693:=Nat
def tw14219910360565520756:=Nat
def tw14264413106726948846:=Nat
def tw14352015407850401561:=Nat
def tw14422788153884122203:=Nat
def tw14423883167296089492:=Nat
def tw14463548119266547064:=Nat
def tw14475947029852376711:=Nat
def tw14498544918146415341:=Nat
def tw14502105255552044163:=Nat
def tw14503315809381803261:=Nat
def tw14520262974976871066:=Nat
def tw14541735985658837655:=Nat
def tw14546604086122825631:=Nat
def tw14562341928244534115:=Nat
def tw14601586910886566853:=Nat
def tw14608917212370524138:=Nat
def tw14671826153142601692:=Nat
def tw14721264590144682085:=Nat
def tw14736500870427061533:=Nat
def tw14811861545957790640:=Nat
def tw14863857280820140943:=Nat
def tw14926082043742323956:=Nat
def tw14955257021483839071:=Nat
def tw14975567625171149984:=Nat
def tw15001409275013144370:=Nat
def tw15069400068241451433:=Nat
def tw15085790203188226630:=Nat
def tw15091738816697714382:=Nat
def tw15135779736480857651:=Nat
def tw15136653006076516524:=Nat
def tw15191593106714257849:=Nat
def tw15285939685883380563:=Nat
def tw15309506438174483181:=Nat
def tw1536414326926770625:=Nat
def tw1539116482992539306:=Nat
def tw15420172202079704176:=Nat
def tw15450086478064375356:=Nat
def tw15453381242080279305:=Nat
def tw15470217779365659712:=Nat
def tw15517997676334761668:=Nat
def tw15544984650669139580:=Nat
def tw15560878858235730423:=Nat
def tw15624361764531955215:=Nat
def tw15694066313506706027:=Nat
def tw15694686258502001324:=Nat
def tw15717210922349286954:=Nat
def tw15741989613637187489:=Nat
def tw157736488489371386:=Nat
def tw15807931062681599137:=Nat
def tw15848158789000649891:=Nat
def tw1585209929428561394:=Nat
def tw15853949133399347594:=Nat
def tw15912548331847289849:=Nat
def tw15955536070785452578:=Nat
def tw15994926504909458569:=Nat
def tw16046257127334479118:=Nat
def tw16099008644660460460:=Nat
def tw16107732577486517783:=Nat
def tw16156431352984636961:=Nat
def tw16159349390215932032:=Nat
def tw16239334328088263730:=Nat
def tw16287891104893033622:=Nat
def tw16307628643318924865:=Nat
def tw16331829699300544247:=Nat
def tw16334360973280605784:=Nat
def tw16351458873891033558:=Nat
def tw16391609048056552492:=Nat
def tw16422220390704065718:=Nat
def tw16446845680610639281:=Nat
def tw16468541344663145572:=Nat
def tw16477555599439753454:=Nat
def tw16483731996275069804:=Nat
def tw16497205492446123391:=Nat
def tw16513966857896320947:=Nat
def tw16557220978071622430:=Nat
def tw16576532305156521892:=Nat
def tw16681693131257292395:=Nat
def tw16720637914903993367:=Nat
def tw1673510701065268772:=Nat
def tw16878524406831770004:=Nat
def tw16879682482175968726:=Nat
def tw16907544438921751519:=Nat
def tw16937793663855482608:=Nat
def tw16997708294808186044:=Nat
def tw16999169127063572545:=Nat
def tw17027426041797020097:=Nat
def tw17070646362054421725:=Nat
def tw17071932590131354801:=Nat
def tw17146963788888675486:=Nat
def tw17163402643750494862:=Nat
def tw17172197037246178642:=Nat
def tw17225508347395983206:=Nat
def tw17259453468993850677:=Nat
def tw17359864259730336395:=Nat
def tw17373448592073210879:=Nat
def tw1746884139018299423:=Nat
def tw1749134968142290391:=Nat
def tw17500703537643518582:=Nat
def tw17502474695853679655:=Nat
def tw17506452141305403997:=Nat
def tw17515782411055755305:=Nat
def tw17546258309798617147:=Nat
def tw17559403587390848489:=Nat
def tw17579200177506871090:=Nat
def tw17595977475769927829:=Nat
def tw17597671846945090300:=Nat
def tw17702236452197891031:=Nat
def tw17757212596586729041:=Nat
def tw17807509350273139437:=Nat
def tw17808849386310676705:=Nat
def tw17860874744992823493:=Nat
def tw17927176062977344712:=Nat
def tw17953978426817115162:=Nat
def tw17983447857482921904:=Nat
def tw17991991166156117811:=Nat
def tw18013363465299073566:=Nat
def tw18034914930292805140:=Nat
def tw18092174328711500242:=Nat
def tw18116680651818081711:=Nat
def tw18131738455801807516:=Nat
def tw18156838393066955478:=Nat
def tw18172615499827190616:=Nat
def tw18213093487891673350:=Nat
def tw18287372543325576779:=Nat
def tw18307930467578776416:=Nat
def tw18373572747452871068:=Nat
def tw1934392491412104090:=Nat
def tw1970201616773614118:=Nat
def tw198448124562635685:=Nat
def tw217096734314209225:=Nat
def tw2188500360466210474:=Nat
def tw2214296279309580980:=Nat
def tw2263744025743114907:=Nat
def tw2323224164231685419:=Nat
def tw2372825311515498474:=Nat
def tw2433130893220021258:=Nat
def tw2472405871046864783:=Nat
def tw2479529473828028126:=Nat
def tw2516215863479352888:=Nat
def tw2545883532227576615:=Nat
def tw2566897785372243786:=Nat
def tw265902356559449180:=Nat
def tw2721838444453855510:=Nat
def tw2739230871774496534:=Nat
def tw2748488479526793832:=Nat
def tw2768627028516507445:=Nat
def tw2827449119186460399:=Nat
def tw28569718490649001:=Nat
def tw2864717447455501858:=Nat
def tw2867591207237803902:=Nat
def tw2869518179630636585:=Nat
def tw2916246497659466027:=Nat
def tw2972653874822328824:=Nat
def tw3018464388536131427:=Nat
def tw3050735313706521885:=Nat
def tw3078244904190245063:=Nat
def tw3096909635357933592:=Nat
def tw3103625422741266996:=Nat
def tw3126168072409840652:=Nat
def tw3178104007812272802:=Nat
def tw3178845540295160898:=Nat
def tw3185771544876035305:=Nat
def tw3207986042707813471:=Nat
def tw3225065460794154684:=Nat
def tw3228252235098304808:=Nat
def tw3241629734880277359:=Nat
def tw3262241718204448939:=Nat
def tw3273916384068792331:=Nat
def tw3374106084427148148:=Nat
def tw3374641184313425192:=Nat
def tw3394127980409336308:=Nat
def tw3397142921318893562:=Nat
def tw3443724939925856262:=Nat
def tw3452855897677698904:=Nat
def tw3464049136130476819:=Nat
def tw3478192010805772571:=Nat
def tw3509202921794801323:=Nat
def tw3521903287511576599:=Nat
def tw3586982888397897049:=Nat
def tw3588924560732263406:=Nat
def tw367699342328449622:=Nat
def tw3682287712316480100:=Nat
def tw3692653323314222656:=Nat
def tw3749323482815819038:=Nat
def tw3756247951274393:=Nat
def tw3764230450119843082:=Nat
def tw3767781445682780707:=Nat
def tw3774906206667647011:=Nat
def tw3796287674402702341:=Nat
def tw3844085431044280115:=Nat
def tw3845932391880604269:=Nat
def tw3886941322272219306:=Nat
def tw3887067004959184885:=Nat
def tw3933456918518883669:=Nat
def tw3936772989335841128:=Nat
def tw3946677123377671203:=Nat
def tw399640662289590435:=Nat
def tw4076265313164041373:=Nat
def tw4109310847958206997:=Nat
def tw4110474863309944536:=Nat
def tw4153486452121144632:=Nat
def tw4239680747473226192:=Nat
def tw4298767336305308925:=Nat
def tw430465331314809009:=Nat
def tw4362955748940616995:=Nat
def tw4364934885076652680:=Nat
def tw4368378305480136740:=Nat
def tw4406879868754778374:=Nat
def tw4431129384120595440:=Nat
def tw4488336948835571869:=Nat
def tw4488644732282729439:=Nat
def tw4526981839197130411:=Nat
def tw4535654736716469125:=Nat
def tw4603356888633478157:=Nat
def tw4608106301838311849:=Nat
def tw4632304928139661754:=Nat
def tw468637948689324321:=Nat
def tw471433537809879187:=Nat
def tw4752852938475665858:=Nat
def tw4781925969550363596:=Nat
def tw4811592278254677600:=Nat
def tw4828120157952806302:=Nat
def tw4873364310775764208:=Nat
def tw4883342053638305775:=Nat
def tw4901335136599384248:=Nat
def tw4939415373402584471:=Nat
def tw498969796234011620:=Nat
def tw5029458746584309596:=Nat
def tw5054170756825799273:=Nat
def tw5086020794566089367:=Nat
def tw5133031488145685846:=Nat
def tw5219713966206304613:=Nat
def tw5336399675572983090:=Nat
def tw5360151589892060919:=Nat
def tw5385345287521503381:=Nat
def tw5428196140806605585:=Nat
def tw5536952745122649648:=Nat
def tw556756164523408834:=Nat
def tw5583855555834340318:=Nat
def tw5651122945061017746:=Nat
def tw571909993159959041:=Nat
def tw574681636805362712:=Nat
def tw5754899711453552008:=Nat
def tw5760661177645622446:=Nat
def tw5770483666162718566:=Nat
def tw5783976662303386401:=Nat
def tw581089224803024863:=Nat
def tw5812037648288513002:=Nat
def tw5860981792909883512:=Nat
def tw586940945697721011:=Nat
def tw5920167080177443567:=Nat
def tw5960179254725123663:=Nat
def tw6028894436694716728:=Nat
def tw605119790597048340:=Nat
def tw6146074726565512171:=Nat
def tw6154850152242072358:=Nat
def tw6161284780050071802:=Nat
def tw6173126538144702822:=Nat
def tw617689965847138022:=Nat
def tw6258411861040783598:=Nat
def tw6275476151751806923:=Nat
def tw6328877582395621374:=Nat
def tw6375098070818215166:=Nat
def tw6390843905742242483:=Nat
def tw6462951328144366562:=Nat
def tw6481202148190186167:=Nat
def tw6510275215504393336:=Nat
def tw6524095210554223562:=Nat
def tw66022784577314482:=Nat
def tw6614981505347039259:=Nat
def tw6663346734383070221:=Nat
def tw6688855624435790564:=Nat
def tw6718443016928740771:=Nat
def tw6757385943321619658:=Nat
def tw6802462177515711693:=Nat
def tw7075919088350143349:=Nat
def tw7092183326982908161:=Nat
def tw7105361458874356460:=Nat
def tw7123461113777847313:=Nat
def tw7131391580219431742:=Nat
def tw713653175854499954:=Nat
def tw7144020593258653386:=Nat
def tw7148692233848672515:=Nat
def tw7236637580592295226:=Nat
def tw7292804651255786816:=Nat
def tw7430347922680031527:=Nat
def tw7480106886672218463:=Nat
def tw7537077564229920028:=Nat
def tw7568984110767734868:=Nat
def tw7576824384279680026:=Nat
def tw7614986087897766440:=Nat
def tw7647541990795270544:=Nat
def tw7673076905138583774:=Nat
def tw7689064141627149783:=Nat
def tw7700635074337813544:=Nat
def tw7739763800035090369:=Nat
def tw7747768470594638733:=Nat
def tw777961347925564366:=Nat
def tw77984327279598399:=Nat
def tw7835702774324114268:=Nat
def tw7874609204738233531:=Nat
def tw7935452885482193232:=Nat
def tw7943580452394407828:=Nat
def tw7980535321970788420:=Nat
def tw7991780937412399224:=Nat
def tw8014894697760548023:=Nat
def tw8075711060044857678:=Nat
def tw807738584728488529:=Nat
def tw8086481629937453043:=Nat
def tw8113649439919220829:=Nat
def tw8127948518087052132:=Nat
def tw8155001344314983595:=Nat
def tw8169226699489064284:=Nat
def tw8187984232015401068:=Nat
def tw8199057363903355747:=Nat
def tw8204022866172990333:=Nat
def tw8225822906622010791:=Nat
def tw8250128125838752356:=Nat
def tw8338529043376549557:=Nat
def tw8375451241210791416:=Nat
def tw838062163771038070:=Nat
def tw8432205903226774536:=Nat
def tw844657138608245500:=Nat
def tw8502187579879667935:=Nat
def tw8524220312663916955:=Nat
def tw8588485704459335889:=Nat
def tw8592188300899226798:=Nat
def tw8703288772774728560:=Nat
def tw8712709772008931465:=Nat
def tw8772482122916525877:=Nat
def tw8818773728947995549:=Nat
def tw8845669660008638059:=Nat
def tw8851834109827390476:=Nat
def tw8869467881319247165:=Nat
def tw8885732180215187575:=Nat
def tw8920558136148651381:=Nat
def tw8927311167969289413:=Nat
def tw8928167231897883972:=Nat
def tw8977253404815069037:=Nat
def tw89819962026165181:=Nat
def tw8985316034960528160:=Nat
def tw8987757983665306492:=Nat
def tw8989551243777174536:=Nat
def tw8993352664306712957:=Nat
def tw9011635693750013766:=Nat
def tw9018024803467602989:=Nat
def tw9091757779646157143:=Nat
def tw9100409359181418001:=Nat
def tw9173140850291807944:=Nat
def tw9188721532971315154:=Nat
def tw9261163241476878984:=Nat
def tw9283626697411574336:=Nat
def tw9346245280610353983:=Nat
def tw9394122783235909787:=Nat
def tw9400969322008724385:=Nat
def tw9422709684829503927:=Nat
def tw9475959543679239545:=Nat
def tw9486188542097183134:=Nat
def tw9503427713766269147:=Nat
def tw9515301033698899402:=Nat
def tw9517333742929988683:=Nat
def tw9655022028321468192:=Nat
def tw9655267467580837240:=Nat
def tw96753507645605336:=Nat
def tw9701276938774739346:=Nat
def tw9713637281798350759:=Nat
def tw9722341832882666383:=Nat
def tw97280061869089189:=Nat
def tw9734221655101182471:=Nat
def tw9741463115286902221:=Nat
def tw9802914757615918891:=Nat
def tw9815825024045842139:=Nat
def tw9934610375191946836:=Nat
end PySem.W.Fast
open PySem PySem.W PyProof.Rows
set_option maxRecDepth 100000 in
set_option maxHeartbeats 0 in
theorem PySem.Challenge.cw_wordwishes_k62_closed_rows_judged_holds : PySem.Challenge.rw_wordwishes_k62_closed_rows_judged.Holds := by
 w_on;o_law;z_head;(case hw=>w_witness2)
 k_fill
 refine L2.Bq (fun _=>rfl) ?_;refine L2.IQ (S:=My.S_law) My.HA (k:=13) (x:="_law_script") (l:=PySem.Challenge.rw_wordwishes_k62_closed_rows_judged) ⟨rfl,by decide,by decide⟩ rfl rfl (fun w h Y=>Y) ?F
 case F =>
  intro w e f h c G a
  refine' My.ER c G a ?_ ?_ ?_ ?_ ?_ ?_ ?_ ?_ ?_ ?_ ?_ ?_ ?_ ?_ ?_ ?_ ?_ ?_ ?_ ?_ ?_ ?_ ?_ ?_ ?_ ?_ ?_ ?_ ?_ ?_ ?_ ?_ ?_ ?_ ?_ ?_ ?_ ?_ ?_ ?_ ?_ ?_ ?_ ?_ ?_ ?_ ?_ ?_ ?_ ?_ ?_ ?_ ?_ ?_ ?_ ?_ ?_ ?_ ?_ ?_ ?_ ?_ ?_ ?_ ?_ ?_ ?_ ?_ ?_ ?_ ?_ ?_ ?_ ?_ ?_ ?_ ?_ ?_ ?_ ?_ ?_ ?_ ?_ ?_ ?_ ?_ ?_ ?_ ?_ ?_ ?_ ?_ ?_ ?_ ?_ ?_ ?_ ?_ ?_ ?_ ?_ ?_ ?_ ?_ ?_
  all_goals try first|exact L2.Ip (by k_is) (by k_is) (by k_is) (by k_is)|exact L2.zg (by k_is) (by k_is) (by k_is)|k_is|exact rfl
