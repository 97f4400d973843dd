import PyProof.Rows.All
import Wide.All
import OpenK.AllK
import Wide.FinOn
import Lean
import PyProof.EqAt
import PyProof.EqKinds
import PyProof.TupleCall
import KE.KRevIter
import PyProof.NeKinds
import PyProof.Draws
import PyProof.EnumMake
import KE.KSortTup
import PyProof.ZipIter
import KE.KDictList
import PyProof.AttrMissHeap
import KE.KDictOf
import PyProof.Rows.SetFrom
import PyProof.Rows.SortRunsK
import PyProof.IsRules
import PyProof.SetRoads
import KE.KSortKey
import PyProof.RulesDel
import PyProof.DelItemList
import PySem.Challenge.RW_wordwishes_k07_lexicons_of_any_things
set_option Elab.async false
set_option linter.all false
set_option maxRecDepth 100000
set_option maxHeartbeats 4000000
set_option bootstrap.genMatcherCode false
set_option compiler.extract_closed false
noncomputable section
open PySem renaming wpAny_bind->o0,Value->s0,wpAny_pure->u8,Shared->F2,starEach->F8,Addr->F9,sizeLine->I0,wpAny->J4,mainGlobals->K2,FuncData->K4,Heap->K5,Program->K6,Builtin->K7,SetTable->K8,model->M0,Spec->M7,Around->N6,Expr->O3,wpAny_newObj_type->O7,wpAny_holding->O9,foldedSetIterable->Q0,World->Q7,wpAny_mono->Q8,compareOp->S4,wpAny_ite_false->T4,wpAny_Call_Name_kw->U0,NameKind->U2,mem_of_lookup->U3,codeAny_builtin->U4,wpAny_call_entry->U7,wpAny_callSpecial?_slot->V1,wpAny_loadPart_at->V3,backTo->V4,excClassObj->W0,codeAny_call_builtin->X1,assignEach->X6,binaryOp->Z1,rawInt->Z6,Stmt->aa1,codeAny_mono->aa4,wpAny_setState_of->aa7,sizeLine_eq->ab0,eval->ab7,bootBuiltins->ac1,scanBound->ac6,wpAny_setField->ac9,wpAny_truthy_bool->ad1,PassesOwn->ad2,fits_of_scanBound->ad9,Paired->ae0,attributeBase->ae4,wpAny_getItem_str_slice->ae6,plainId_quiet->ae9,wpAny_setEntries_of->af1,wpAny_call->af4,Scope->af8,wpAny_loadPart'->ag0,wpAny_field->ag1,wpAny_typeOf->ag2,pickOrder->ag5,wpAny_specialOf->ag6,behindInMarks->ag8,wpAny_standAt->ag9,wpAny_attempt->ah3,codeAny->ah6,swapsWith->ah9,wpAny_askSetting->ai0,wpAny_forIn_list->ai2,wpAny_isSubtype_exc->ai6,wpAny_execs_nil->aj1,letOwnedTupleGo->aj2,wpAny_passesOwn->aj3,codeAny_of_tree->aj7,holding->ak1,sliceBounds->ak2,keywordEach->ak3,call_meets->ak5,wpAny_rule->ak6,wpAny_pyIter_list->ak7,wpAny_storeSet_of->ak8,wpAny_ite_true->al7,wpAny_loadPart->al8,cLine->am0,wpAny_isInstance->am8,GenState->am9,Comprehension->an1,typeIs_int->an5,pyNext->an7,Keyword->an9,post_val_or_str->ao1,wpAny_of_eq->ao2,assign->ao8,wpAny_fieldsOf->ap2,firstArgMember->ap3,unsupported->ap9,relayAll->aq0,setSearchFrom->aq3,wpAny_load'->aq5,pyIter->aq6,standAt->aq7,getItem->aq8,noteFrame->aq9,setAddHashed->ar0,backToKw->ar3,callerA->ar8,IsPart->as1,compEnvC->as2,sysModules->as3,spliced->as4,wpAny_load->as5,BindsTo->as6,strKind_is->as8,reduceHash->as9,isInstance->at0,Result->at1,Model->at2,Code->at4,Walks->at6,cellsFrom->at7,DictEntry->at8,valueAt->at9,putSet_of->au1,setNext->au2,seqItems?->au3,OwnTail->au4,Data->au5
open PySem.W renaming Frag->F0,nsIn->N7,kitOne->O8,mg_of->P8,mg_none_of->R7,findIn->S9,keepIn->W3,fnOf->ac3,hideAll_get->ae2,hideAll_none->ah5,specialIn->al3,codeIn->al4,mroIn->an2,Looks->ao7
open PySem.Heap renaming get?_push_of_some->F1,get?_push_size->J6,lt_size->J8,get?_update_other->N3,get?_update_self->O1,SameBut->P2,size_push->U8,get?_none_of_le->V5
open List renaming length_map->F3,getElem?_eq_getElem->F4,size_toArray->J0,length_append->J1,mem_cons->J3,mem_singleton->J5,replicate->J7,mem_append->K0,not_mem_nil->L9,nil_append->M9,getElem?_map->N0,getElem?_eq_some_iff->N1,filter_eq_self->N4,all_eq_true->N5,map_cons->N8,mem_cons_of_mem->O0,mem_map->O2,mem_append_right->O5,range->P0,length_take->P4,getElem?_eq_none->P5,all_map->Q6,mem_range->R0,mem_of_getElem?->R4,mem_cons_self->R5,getElem_mem->R6,filterMap_cons->R8,lookup_cons->S2,map_map->S5,length_cons->T0,getElem?_append_left->T5,getElem?_set_self->T9,map_append->U5,take_add_one->V2,mem_filterMap->W4,foldl_cons->W5,getElem?_set_ne->W9,mem_iff_getElem->X0,getElem?_append_right->X3,take_of_length_le->X5,replicate_succ->X7,nodup_append->Z0,all_cons->Z3,drop_eq_getElem_cons->Z5,length_singleton->Z7,getElem?_take_of_lt->Z9,take_length->aa0,getElem?_cons_succ->aa2,append_assoc->aa6,length_range->aa8,append_nil->ab1,find?_cons->ab3,any_eq_true->ab9,any_cons->ac4,mem_iff_getElem?->ac5,mem_of_mem_take->ad0,nodup_cons->ad3,flatten_cons->ad5,range_succ->ad6,ext_getElem?->ad7,getElem?_replicate->ae5,length_eq_zero_iff->ae7,getElem?_cons_zero->af2,length_drop->af3,drop_eq_nil_of_le->af6,filterMap_append->ag4,take_append_drop->ag7,getElem?_append->ah7,perm_middle->ai1,map_congr_left->ai5,reverse_cons->ak4,cons->am2,mem_filter->an6,length->an8,map_nil->ap0,Perm->ap7,map_take->aq4,lookup->ar9,foldl->as7
open PySem.Str renaming ofString->F5
open Bool renaming false_eq_true->F6,false_and->H0,and_eq_true->K1,true_and->N9,and_false->P7,eq_iff_iff->S0,false_ne_true->V7,eq_false_iff->X9,not_true->ac7,not_false->al5,and_self->an4
open Nat renaming le_refl->F7,lt_of_lt_of_le->J9,ne_of_lt->L6,le_trans->O4,zero_le->Q5,lt_or_ge->R3,lt_succ_of_lt->S6,lt_succ_self->ab8,lt_irrefl->ac0,ne_of_gt->af9,le_succ->ai4,mod_lt->aj0,lt_of_le_of_lt->aj5,lt_trichotomy->al0,le_of_lt->al9,mul_comm->am1,pow_succ->am3,add_assoc->aq2,succ_pos->ar1,sub_self->ar2,pow_add->as0
open Array renaming length_toList->K3,getElem?_eq_getElem->K9,getElem?_eq_some_iff->R1,getElem?_toList->S3,getD_eq_getD_getElem?->S7,getD->X8,getElem?_setIfInBounds->aa3,forIn_toList->aj8,toList_push->ak9,replicate->ao4
open PySem.Value renaming ref->L7,none->L8,type->O6,builtin->ah1,bool->ak0,str->ap5,int->at5
open PyProof.Rows renaming slot_tuple_getitem->P1,callWith_builtin1->V6,callWith_type1->aa9,KeyOrd->ae1,envOfC->aj4,AllBare->am5,tupleItemsOf_->an0,kindOf->ao9,slicePart_none->ap1,IsTup->ap8,seqObj->ar5
open PySem.F renaming called_set->P3,slot_int_rmul->ag3,slot_tuple_hash->ah4,excAttr_ValueError->ah8,slot_tuple_mul->am6
open PySem.Builtin.Tuple renaming tupleExact->P6,tupleHashOf->T7,tupleItemsOf->X4
open Option.some renaming inj->P9,injEq->al2
open Or renaming inl->Q9,inr->ao0
open Option renaming some->R9,isSome_iff_exists->Z8,map_some->ao3
open PySem.Heap.SameBut renaming update->S1
open Bind renaming bind->S8
open PySem.Builtin.Slice renaming slicePlaces->T6,sliceApplied->ab6
open PySem.Around renaming under_plainId->T8
open False renaming elim->U1
open PySem.PassesOwn renaming never->U6
open PySem.SeqAt renaming EqAt->U9
open Ne renaming symm->V0
open Classical renaming byContradiction->V8
open PySem.Obj renaming mapFields->V9,mapSeq->ad4,dropNameByArray->ai7,putSet->ai9,data_mapFields->aj9,dropName_eq->ao6
open Int renaming toNat_natCast->W1,eq_ofNat_of_zero_le->W7
open ForInStep renaming yield->W6
open PyProof.Rows.F renaming plain_set_update_loop->W8,entry_set_update_loop->af0
open PySem.NameKind renaming free->Z4,cell->aj6
open PySem.Calls renaming spliced_nil->aa5,spliced_cons->ac2
open PySem.Txt renaming slice->ab4,slice_le->ai8
open List.cons renaming injEq->ab5
open PySem.SetTable renaming grown->ac8,fresh->al6,below->ap4
open PyProof.Rows.KeyOrd renaming kle_refl->ad8,kle_of_klt->ah2,kle_trans->am7
open PySem.Builtin.Str renaming occurrences->ae3
open Inhabited renaming default->ae8
open Pure renaming pure->af5
open PySem.Code renaming quiet_builtin->af7,compLoop->ah0
open PySem.Data renaming fields->ai3,dict->ap6,seq->ar4
open PySem.W.Looks renaming here->am4
open Function renaming comp->an3
open Eq renaming refl->ao5
open PySem.Shared renaming TypeIs->aq1
open Sum renaming inl->ar6,inr->ar7
open ToString renaming toString->at3
open LawfulMonad renaming pure_bind->au0
set_option compiler.extract_closed false
namespace L2
open PySem PySem.Spec PyProof.Rows
abbrev Key:=Sum Int Str
def Bo:Key->s0->Bool
 |.inl k,v=>s0.isInt k v
 |.inr x,v=>s0.isStrOf x v
noncomputable def FE(w:Q7):Key->Int
 |.inl k=>hashInt k
 |.inr x=>hashStr w x
theorem bQ:∀{k:Key}{v:s0},Bo k v=true->(∃i t,k=ar6 i/\v=at5 i t)∨(∃x t,k=ar7 x/\v=ap5 x t)
 |.inl i,v,h=>by
  obtain⟨t,e⟩:=s0.isInt_shape (k:=i) (v:=v) h;exact .inl ⟨i,t,rfl,e⟩
 |.inr x,v,h=>by
  obtain⟨t,e⟩:=s0.isStrOf_shape (x:=x) (v:=v) h;exact .inr ⟨x,t,rfl,e⟩
theorem BG(a b:Int):decide ((ar6 a:Key)=ar6 b)=(a==b):=by
 by_cases e:a=b
 ·subst e;simp
 ·have h:¬ (ar6 a:Key)=ar6 b:=fun q=>e (ar6.inj q);rw[decide_eq_false h];exact(beq_eq_false_iff_ne.mpr e).symm
theorem Dd(a b:Str):decide ((ar7 a:Key)=ar7 b)=decide (a=b):=by
 by_cases e:a=b
 ·subst e;simp
 ·have h:¬ (ar7 a:Key)=ar7 b:=fun q=>e (ar7.inj q);rw[decide_eq_false h,decide_eq_false e]
theorem BD(a:Int) (b:Str):decide ((ar6 a:Key)=ar7 b)=false:=decide_eq_false (fun q=>nomatch q)
theorem CH(a:Str) (b:Int):decide ((ar7 a:Key)=ar6 b)=false:=decide_eq_false (fun q=>nomatch q)
def uO(prog:K6) (w:Q7):PySem.KeyKind prog w Key where
 is:=Bo
 hash:=FE w
 inj:=fun v a b ha hb=>by
  rcases bQ ha with⟨i,t,rfl,rfl⟩|⟨x,t,rfl,rfl⟩
  ·rcases bQ hb with⟨j,u,rfl,e⟩|⟨y,u,rfl,e⟩
   ·injection e with e1 _;rw[e1]
   ·exact nomatch e
  ·rcases bQ hb with⟨j,u,rfl,e⟩|⟨y,u,rfl,e⟩
   ·exact nomatch e
   ·injection e with e1 _;rw[e1]
 byValue:=fun k v h=>by
  rcases bQ h with⟨i,t,rfl,rfl⟩|⟨x,t,rfl,rfl⟩<;>rfl
 pyHash:=fun hv h=>by
  rcases bQ hv with⟨i,t,rfl,rfl⟩|⟨x,t,rfl,rfl⟩
  ·exact wpAny_pyHash_int h
  ·exact wpAny_pyHash_str h
 eqBool:=fun hu hv h=>by
  rcases bQ hu with⟨i,t,rfl,rfl⟩|⟨x,t,rfl,rfl⟩
  ·rcases bQ hv with⟨j,u,rfl,rfl⟩|⟨y,u,rfl,rfl⟩
   ·rw[BG]at h;exact wpAny_eqBool_int h
   ·rw[BD]at h;exact U9.int_str i t y u _ _ _ _ h
  ·rcases bQ hv with⟨j,u,rfl,rfl⟩|⟨y,u,rfl,rfl⟩
   ·rw[CH]at h;exact U9.str_int x t j u _ _ _ _ h
   ·rw[Dd]at h;exact wpAny_eqBool_str h
 «strs»:=fun k x t v h=>by
  rcases bQ h with⟨i,u,rfl,e⟩|⟨y,u,rfl,e⟩
  ·exact nomatch e
  ·injection e with e1 _
   subst e1;cases v<;>rfl
inductive V where
 |non|bl (b:Bool)|int (i:Int)|str (x:Str)|byt (b:Array UInt8)|flt (b:UInt64)|ref (a:F9)|ty (n:String)
 deriving DecidableEq
def aX:V->s0->Prop
 |.non,u=>u=L8
 |.bl b,u=>u=ak0 b
 |.int i,u=>∃t,u=at5 i t
 |.str x,u=>∃t,u=ap5 x t
 |.byt b,u=>∃t,u=s0.bytes b t
 |.flt b,u=>∃t,u=s0.float b t
 |.ref a,u=>u=L7 a
 |.ty n,u=>u=O6 n
abbrev aE:List V->List s0->Prop:=ae0 aX
theorem aE.length{xs:List V}{us:List s0}(r:aE xs us):xs.length=us.length:=ae0.length r
theorem aE.get:∀{xs:List V}{us:List s0}{i:Nat}{x:V},aE xs us->xs[i]?=some x->∃u,us[i]?=some u/\aX x u
 |_,_,_,_,.nil,e=>by simp at e
 |_,_,0,_,.cons r _,e=>by simp at e;subst e;exact⟨_,rfl,r⟩
 |_,_,i+1,x,.cons _ t,e=>by
  obtain⟨u,h1,h2⟩:=aE.get (i:=i) (x:=x) t (by simpa using e);exact⟨u,by simpa using h1,h2⟩
theorem aE.set{x:V}{u:s0}(r:aX x u):∀{xs:List V}{us:List s0}(i:Nat),aE xs us->aE (xs.set i x) (us.set i u)
 |_,_,_,.nil=>.nil
 |_,_,0,.cons _ t=>.cons r t
 |_,_,i+1,.cons q t=>.cons q (aE.set r i t)
theorem aE.append:∀{xs ys:List V}{us ws:List s0},aE xs us->aE ys ws->aE (xs++ys) (us++ws)
 |_,_,_,_,.nil,s=>s
 |_,_,_,_,.cons r t,s=>.cons r (aE.append t s)
theorem aE.take:∀{xs:List V}{us:List s0}(n:Nat),aE xs us->aE (xs.take n) (us.take n)
 |_,_,0,_=>.nil
 |_,_,_+1,.nil=>.nil
 |_,_,n+1,.cons r t=>.cons r (aE.take n t)
theorem aE.drop:∀{xs:List V}{us:List s0}(n:Nat),aE xs us->aE (xs.drop n) (us.drop n)
 |_,_,0,r=>r
 |_,_,_+1,.nil=>.nil
 |_,_,n+1,.cons _ t=>aE.drop n t
def yC:Option V->Option s0->Prop
 |some v,some u=>aX v u
 |none,none=>True
 |_,_=>False
def KV{κ:Type}:List (κ×V)->List (κ×s0)->Prop:=ae0 fun(p:κ×V) (q:κ×s0)=>p.1=q.1/\aX p.2 q.2
def kV:Key->V
 |.inl i=>.int i
 |.inr x=>.str x
inductive HO where
 |lst (xs:List V)
 |tup (xs:List V)
 |dK (kvs:List (Key×V))|dT (kvs:List (List Key×V))
 |set (S:Int->Bool) (n:Nat)
 |ins (C dx:F9) (fs:List (Str×V))
 |own (x:F9)
 |xd (fs:List (Str×V))
 |met (f x:F9)
 |rng (lo hi:Int)
 |frz (o:Obj) (u:HO)
 |tbl (ps:Array s0)
 |ext (φ:K5->Prop)
abbrev Hp:=F9->Option HO
def upd(H:Hp) (a:F9) (o:HO):Hp:=fun b=>if b=a then some o else H b
theorem bh{H:Hp}{a:F9}{o:HO}:upd H a o a=some o:=by unfold upd;rw[if_pos rfl]
theorem aK{H:Hp}{a b:F9}{o:HO}(h:b≠a):upd H a o b=H b:=by unfold upd;rw[if_neg h]
theorem Ab{H:Hp}{a:F9}{o u:HO}:upd (upd H a o) a u=upd H a u:=by
 funext b;unfold upd;split<;>rfl
theorem cS{H:Hp}{a b:F9}{o:HO}(h:H a=some o) (h':H b=none):a≠b:=by
 intro e;subst e;rw[h]at h';cases h'
def lF(h:K5) (a:F9) (xs:Array s0):Prop:=∃o,h.get? a=some o/\o.cls=.type "tuple"/\(∃n,o.data=.seq xs n)/\o.dict=none
theorem lF.tup{h:K5}{a:F9}{xs:Array s0}(x:lF h a xs):ap8 h a xs:=let⟨o,e,c,d,_⟩:=x;⟨o,e,c,d⟩
theorem lF.lt{h:K5}{a:F9}{xs:Array s0}(x:lF h a xs):a<h.objs.size:=let⟨_,e,_⟩:=x;J8 e
theorem lF.new(h:K5) (xs:Array s0):lF (h.push { cls:=.type "tuple",data:=.seq xs }) h.objs.size xs:=⟨_,J6 h rfl,rfl,⟨_,rfl⟩,rfl⟩
section
variable(P:K6) (w:Q7)
def cj(H:Hp) (h:K5) (a:F9):HO->Prop
 |.lst xs=>xs.length<=I0/\∃(its:List s0) (n:Nat),aE xs its/\h.get? a=some { cls:=.type "list",data:=.seq its.toArray n }
 |.tup xs=>xs.length<=I0/\∃its:List s0,aE xs its/\lF h a its.toArray
 |.dK kvs=>kvs.length<=I0/\(a==as3)=false/\∃vs,KV kvs vs/\h.DictOf (uO P w) a vs
 | .dT kvs => kvs.length ≤ I0 ∧ (a == as3) = false ∧ ∃ xs:List (List Key × F9 × s0),
   ae0 (fun(p:List Key×V) (q:List Key×F9×s0)=>p.1=q.1/\H q.2.1=some (.tup (p.1.map kV))/\aX p.2 q.2.2) kvs xs /\
   ∃o es ep,h.get? a=some o/\o.ExactDict/\o.data=.dict es ep/\es.toList=xs.map (entryOfKey (tupleKind (uO P w)))/\(xs.map (·.1)).Nodup
 |.set S n=>h.SetOf (intKind P w) a S n
 | .ins C dx fs => H dx = some (.own a) ∧ fs.length ≤ 1000 ∧ dx ≠ a ∧ h.get? a = some (PySem.W.instObj C dx) ∧
   ∃mA,h.Ns1 dx mA/\(∀f,yC (fs.lookup f) (mA f))/\PySem.Within mA (fs.map (·.1))
 |.own _=>∃o,h.get? a=some o
 |.xd fs=>∃mA,h.Ns1 a mA/\∀f,yC (fs.lookup f) (mA f)
 |.rng lo hi=>∃t u v,h.get? a=some { cls:=.type "range",data:=.fields #[.int lo t,.int hi u,.int 1 v] }
 |.frz o u=>h.get? a=some o/\cj H h a u
 |.tbl ps=>h.get? a=some { cls:=.none,data:=.fields ps }
 |.met f x=>h.get? a=some (PySem.W.methodObj (.ref f) (.ref x))
 |.ext φ=>φ h/\(∃o,h.get? a=some o)/\∀h1 h2:K5,φ h1->(∀o,h1.get? a=some o->h2.get? a=some o)->φ h2
def HOk(H:Hp) (h:K5):Prop:=∀a o,H a=some o->cj P w H h a o
end
section
variable{P:K6}{w:Q7}{H H':Hp}{h h':K5}{a:F9}{o:HO}
theorem cj.lt(x:cj P w H h a o):a<h.objs.size:=by
 cases o with
 |lst xs=>obtain⟨_,_,_,_,e⟩:=x;exact J8 e
 |tup xs=>obtain⟨_,_,_,p⟩:=x;exact p.lt
 |dK kvs=>obtain⟨_,_,_,_,o,_,_,e,_⟩:=x;exact J8 e
 |dT kvs=>obtain⟨_,_,_,_,o,_,_,e,_⟩:=x;exact J8 e
 |set S n=>obtain⟨o,_,_,_,e,_⟩:=x;exact J8 e
 |ins C dx fs=>obtain⟨_,_,_,e,_⟩:=x;exact J8 e
 |own y=>obtain⟨_,e⟩:=x;exact J8 e
 |xd fs=>obtain⟨_,⟨_,_,_,e,_⟩,_⟩:=x;exact J8 e
 |rng lo hi=>obtain⟨_,_,_,e⟩:=x;exact J8 e
 |frz ob u=>obtain⟨e,_⟩:=x;exact J8 e
 |tbl ps=>exact J8 (show h.get? a=some _ from x)
 |met f y=>exact J8 (show h.get? a=some _ from x)
 |ext φ=>obtain⟨_,⟨_,e⟩,_⟩:=x;exact J8 e
theorem ae0.mapP{α β:Type}{F G:α->β->Prop}:∀{l₁:List α}{l₂:List β},ae0 F l₁ l₂->(∀a b,F a b->G a b)->ae0 G l₁ l₂
 |_,_,.nil,_=>.nil
 |_,_,.cons r t,f=>.cons (f _ _ r) (ae0.mapP t f)
theorem ae0.imp'{α β:Type}{F G:α->β->Prop}(f:∀a b,F a b->G a b) {l₁:List α}{l₂:List β}(r:ae0 F l₁ l₂):ae0 G l₁ l₂:=ae0.mapP r f
theorem cj.stay(x:cj P w H h a o) (k:∀b u,(b=a∨H b=some (.own a))->h.get? b=some u->h'.get? b=some u)
  (ho:∀b,H b=some (.own a)->H' b=some (.own a)) (ht:∀b xs,H b=some (.tup xs)->H' b=some (.tup xs)):cj P w H' h' a o:=by
 induction o with
 |lst xs=>obtain⟨z,its,n,r,e⟩:=x;exact⟨z,its,n,r,k _ _ (.inl rfl) e⟩
 |tup xs=>obtain⟨z,its,r,ob,e,c⟩:=x;exact⟨z,its,r,ob,k _ _ (.inl rfl) e,c⟩
 |dK kvs=>obtain⟨z,y,vs,r,ob,es,ep,e,c⟩:=x;exact⟨z,y,vs,r,ob,es,ep,k _ _ (.inl rfl) e,c⟩
 |dT kvs =>
  obtain⟨z,y,xs,r,ob,es,ep,e,c⟩:=x;exact⟨z,y,xs,ae0.mapP r fun p q z=>⟨z.1,ht _ _ z.2.1,z.2.2⟩,ob,es,ep,k _ _ (.inl rfl) e,c⟩
 |set S n=>obtain⟨ob,es,ep,t,e,c⟩:=x;exact⟨ob,es,ep,t,k _ _ (.inl rfl) e,c⟩
 |ins C dx fs =>
  obtain⟨d,z,ne,e,mA,⟨od,es,ep,e2,c⟩,r⟩:=x;exact⟨ho _ d,z,ne,k _ _ (.inl rfl) e,mA,⟨od,es,ep,k _ _ (.inr d) e2,c⟩,r⟩
 |own y=>obtain⟨ob,e⟩:=x;exact⟨ob,k _ _ (.inl rfl) e⟩
 |xd fs=>obtain⟨mA,⟨od,es,ep,e,c⟩,r⟩:=x;exact⟨mA,⟨od,es,ep,k _ _ (.inl rfl) e,c⟩,r⟩
 |rng lo hi=>obtain⟨t,u,v,e⟩:=x;exact⟨t,u,v,k _ _ (.inl rfl) e⟩
 |frz ob u ih=>obtain⟨e,q⟩:=x;exact⟨k _ _ (.inl rfl) e,ih q⟩
 |tbl ps =>
  have e:h.get? a=some { cls:=.none,data:=.fields ps }:=x;show h'.get? a=some { cls:=.none,data:=.fields ps };exact k a _ (.inl rfl) e
 |met f y =>
  have e:h.get? a=some (PySem.W.methodObj (.ref f) (.ref y)):=x;show h'.get? a=some (PySem.W.methodObj (.ref f) (.ref y));exact k a _ (.inl rfl) e
 |ext φ=>obtain⟨p,⟨o,e⟩,st⟩:=x;exact⟨st _ _ p fun o q=>k _ _ (.inl rfl) q,⟨o,k _ _ (.inl rfl) e⟩,st⟩
theorem HOk.lt(x:HOk P w H h) (e:H a=some o):a<h.objs.size:=(x a o e).lt
theorem HOk.fresh(x:HOk P w H h) (e:h.objs.size<=a):H a=none:=by
 cases q:H a with
 |none=>rfl
 |some u=>exact absurd (J9 (x.lt q) e) (ac0 _)
theorem HOk.kept(x:HOk P w H h) (k:∀b u,h.get? b=some u->h'.get? b=some u):HOk P w H h':=fun a o e =>
 (x a o e).stay (fun b u _ q=>k b u q) (fun _ q=>q) fun _ _ q=>q
theorem HOk.laid(x:HOk P w H h) (k:∀b u,h.get? b=some u->h'.get? b=some u) (hp:h.objs.size<=a) (new:cj P w (upd H a o) h' a o):HOk P w (upd H a o) h':=fun b u e=>by
 have hn:=x.fresh hp
 by_cases hb:b=a
 ·subst hb;rw[bh]at e;cases e;exact new
 ·rw[aK hb]at e;exact(x b u e).stay (fun c v _ q=>k c v q) (fun c q=>by rw[aK (cS q hn)];exact q) fun c xs q=>by rw[aK (cS q hn)];exact q
end
def Rd(H:Hp) (a:F9) (u:HO):Prop:=H a=some u∨∃o,H a=some (.frz o u)
theorem Rd.of{H:Hp}{a:F9}{u:HO}(h:H a=some u):Rd H a u:=.inl h
theorem Rd.ok{P:K6}{w:Q7}{H:Hp}{h:K5}{a:F9}{u:HO}(r:Rd H a u) (x:HOk P w H h):cj P w H h a u:=by
 rcases r with r|⟨o,r⟩
 ·exact x a u r
 ·obtain⟨_,q⟩:=x a _ r;exact q
def Mut:Option HO->Prop
 |some (.lst _)=>True
 |some (.dK _)=>True
 |some (.dT _)=>True
 |some (.set _ _)=>True
 |some (.ins _ _ _)=>True
 |some (.ext _)=>True
 |_=>False
section
variable{P:K6}{w:Q7}{H:Hp}{h h':K5}{x e:F9}{o':HO}
theorem HOk.write(ok:HOk P w H h) (mu:Mut (H x)) (he:e=x∨H e=some (.own x)) (k:∀b u,b≠e->h.get? b=some u->h'.get? b=some u) (heo:∃u,h'.get? e=some u)
  (new:cj P w (upd H x o') h' x o'):HOk P w (upd H x o') h':=fun b u q=>by
 have nown:∀c y,H c=some (.own y)->c≠x:=fun c y r z=>by subst z;rw[r]at mu;exact mu
 have ntup:∀c xs,H c=some (.tup xs)->c≠x:=fun c xs r z=>by subst z;rw[r]at mu;exact mu
 by_cases hb:b=x
 ·subst hb;rw[bh]at q;cases q;exact new
 ·rw[aK hb]at q
  by_cases hbe:b=e
  ·have q':H b=some (.own x):=by
    rcases he with z|z
    ·exact absurd (hbe.trans z) hb
    ·rw[hbe];exact z
   rw[q]at q';cases q';obtain⟨v,hv⟩:=heo;exact⟨v,by rw[hbe];exact hv⟩
  ·refine(ok b u q).stay (fun c v hc r=>k c v ?_ r) (fun c r=>by rw[aK (nown c b r)];exact r) fun c xs r=>by rw[aK (ntup c xs r)];exact r
   rcases hc with rfl|hc
   ·exact hbe
   ·rintro rfl;rcases he with z|z
    ·exact nown c b hc z
    ·rw[hc]at z;cases z;exact hb rfl
end
structure Un(fs ex:List F9) (H H':Hp) (h h':K5):Prop where
 keep:∀b o,h.get? b=some o->H b=none->b∉fs->b∉ex->h'.get? b=some o
 slot:∀b o,h.get? b=some o->H b=none->b∈fs->b∉ex->∃sl,h'.get? b=some { o with slots:=sl }
 free:∀b o,h.get? b=some o->H b=none->b∉ex->H' b=none
 there:∀b o,h.get? b=some o->b∉ex->∃o',h'.get? b=some o'
 tups:∀b xs,H b=some (.tup xs)->H' b=some (.tup xs)
 frzs:∀b o u,H b=some (.frz o u)->H' b=some (.frz o u)
 tbls:∀b ps,H b=some (.tbl ps)->∃more,H' b=some (.tbl (ps++more))
section
variable{fs fs' ex ex':List F9}{H H1 H2:Hp}{h h1 h2 h':K5}{a x e:F9}{o:HO}
theorem Un.any(u:Un fs ex H H1 h h1) {b:F9}{ob:Obj}(q:h.get? b=some ob) (n:H b=none) (hx:b∉ex):∃sl,h1.get? b=some { ob with slots:=sl }:=by
 by_cases hb:b∈fs
 ·exact u.slot b ob q n hb hx
 ·exact⟨ob.slots,u.keep b ob q n hb hx⟩
theorem Un.kept(k:∀b u,h.get? b=some u->h'.get? b=some u):Un fs ex H H h h' :=
 ⟨fun b ob q _ _ _=>k b ob q,fun b ob q _ _ _=>⟨ob.slots,k b ob q⟩,fun _ _ _ n _=>n,fun b ob q _=>⟨ob,k b ob q⟩,fun _ _ q=>q,fun _ _ _ q=>q,fun _ ps q=>⟨#[],by rw[q];simp⟩⟩
theorem Un.refl:Un fs ex H H h h:=Un.kept fun _ _ q=>q
theorem Un.laid(k:∀b u,h.get? b=some u->h'.get? b=some u) (hp:h.objs.size<=a) (hn:H a=none):Un fs ex H (upd H a o) h h' where
 keep:=fun b u q _ _ _=>k b u q
 slot:=fun b u q _ _ _=>⟨u.slots,k b u q⟩
 free:=fun b u q n _=>by rw[aK (L6 (J9 (J8 q) hp))];exact n
 there:=fun b u q _=>⟨u,k b u q⟩
 tups:=fun b xs q=>by rw[aK (cS q hn)];exact q
 frzs:=fun b u xs q=>by rw[aK (cS q hn)];exact q
 tbls:=fun b ps q=>⟨#[],by rw[aK (cS q hn),q];simp⟩
theorem Un.write(mu:Mut (H x)) (he:e=x∨H e=some (.own x)) (k:∀b u,b≠e->h.get? b=some u->h'.get? b=some u) (heo:∃u,h'.get? e=some u):Un fs ex H (upd H x o) h h':=by
 have hx:∀b,H b=none->b≠x:=fun b n z=>by subst z;rw[n]at mu;exact mu
 have hb:∀b,H b=none->b≠e:=fun b n z=>by
  subst z;rcases he with r|r
  ·exact hx b n r
  ·rw[n]at r;cases r
 have hm:∀b u,H b=some u->¬ Mut (some u)->b≠x:=fun b u q nm z=>by subst z;rw[q]at mu;exact nm mu
 refine⟨fun b u q n _ _=>k b u (hb b n) q,fun b u q n _ _=>⟨u.slots,k b u (hb b n) q⟩,fun b u q n _=>by rw[aK (hx b n)];exact n,fun b u q _=>?_,
  fun b xs q=>by rw[aK (hm b _ q fun z=>z)];exact q,fun b u xs q=>by rw[aK (hm b _ q fun z=>z)];exact q,fun b ps q=>⟨#[],by rw[aK (hm b _ q fun z=>z),q];simp⟩⟩
 by_cases hbe:b=e
 ·subst hbe;exact heo
 ·exact⟨u,k b u hbe q⟩
end
def trk(h:K5) (H:Hp):List F9:=(P0 h.objs.size).filter fun a=>(H a).isSome
def pX(h:K5) (H:Hp):K5:=PySem.W.hideAll h (trk h H)
theorem vW(h:K5) (H:Hp):(pX h H).objs.size=h.objs.size:=PySem.W.hideAll_size _ _
theorem yv{h:K5}{H:Hp}{b:F9}{o:Obj}(e:h.get? b=some o) (n:H b=none):(pX h H).get? b=some o :=
 ae2 _ e fun hm=>by
  have q:(H b).isSome=true:=(an6.mp hm).2;rw[n]at q;simp at q
theorem AH{h:K5}{H:Hp}{b:F9}{o:Obj}(e:(pX h H).get? b=some o):h.get? b=some o/\H b=none:=by
 have e':h.get? b=some o:=PySem.W.of_hideAll (trk h H) e;refine⟨e',?_⟩;cases q:H b with
 |none=>rfl
 |some x =>
  have hm:b∈trk h H:=an6.mpr ⟨R0.mpr (J8 e'),by simp[q]⟩;have z:(pX h H).get? b=none:=ah5 (trk h H) hm;rw[z]at e;cases e
noncomputable def Af(g h:K5) (L:F9):List (F9×Obj):=(P0 h.objs.size).filterMap fun a=>if a=L∨(g.get? a).isSome=true then none else(h.get? a).map fun o=>(a,o)
def rest(g h:K5) (L d:F9):List (F9×Obj):=(Af g h L).filter fun p=>decide (p.1≠d)
structure Mod(K:F0) (mg:Str->Option s0) (base:K5):Prop where
 kin:K.In base
 glob:base.Ns K2 mg
 blt:∃mb,base.Ns builtinsNs mb/\∀x:Str,x≠"__name__"->mb x=ac1 x
 nolimit:base.NoLimit
structure Cx where
 prog:K6
 w:Q7
 K:F0
 mg:Str->Option s0
 base:K5
 A:N6
 N:List Str
 s₀:F2
 H₀:Hp
 env:Env
 outer:List Env
 stack:List Env
 ex:List F9
 fn:Str->Bool
 calm:Bool
 pn:List (F9×Obj)
 xe:s0->F2->Prop
def frs(l:List Env):List F9:=l.filterMap (·.frame)
abbrev Cx.fs(X:Cx):List F9:=frs X.outer
def Vis(sc:af8) (x:Str):Prop:=sc.names.lookup x=some .local∨sc.names.lookup x=some .cell∨sc.names.lookup x=some .free
def Loc(sc:af8) (x:Str):Prop:=sc.names.lookup x=some .local∨sc.names.lookup x=some .cell
def Fz(env:Env) (h:K5) (m:Str->Option s0) (x:Str) (u:s0):Prop :=
 (env.kindOf x=some .local/\m x=some u)∨((env.kindOf x=some .cell∨env.kindOf x=some .free)/\∃c,env.cells.lookup x=some c/\h.IsCell c (some u))
structure Cx.Ok(X:Cx):Prop where
 mod:Mod X.K X.mg X.base
 kind:X.env.scope.kind=.function
 glob:X.env.globals=K2
 blt:X.env.builtins=builtinsNs
 above:X.s₀.heap.objs.size<=X.env.locals
 inj:∀x y c,X.env.cells.lookup x=some c->X.env.cells.lookup y=some c->x=y
 has:∀x,(X.env.kindOf x=some .cell∨X.env.kindOf x=some .free)->∃c,X.env.cells.lookup x=some c
 cab:∀x c,X.fn x=true->X.env.cells.lookup x=some c->X.s₀.heap.objs.size<=c
 hd:X.calm=true->X.A.handled=none
 frames:X.A.frames=some X.stack
 stk:X.stack=X.outer∨(X.stack=X.env::X.outer/\X.env.frame=some X.env.locals)
 exf:∀b∈X.ex,b≠X.env.locals/\∀x c,X.env.cells.lookup x=some c->c≠b
 bs:∀b o,X.base.get? b=some o->X.s₀.heap.get? b=some o/\X.H₀ b=none
 bsz:X.base.objs.size<=X.s₀.heap.objs.size
 noex:∀b o,X.base.get? b=some o->b∉X.ex
 exfs:∀b∈X.ex,b∉X.fs
 funs:X.s₀.heap.FunFrames X.base X.outer
 frf:∀b∈X.fs,X.H₀ b=none
structure Inv(X:Cx) (af:List (F9×Obj)) (σ:List (Option V)) (H:Hp) (s:F2):Prop where
 ok:X.Ok
 os:s.os=X.s₀.os
 bare:am5 s.gens
 base:Un X.fs X.ex X.H₀ H X.s₀.heap s.heap
 loc:∃m,s.heap.Ns X.env.locals m/\∀(i:Nat) (x:Str) (v:V),X.N[i]?=some x->σ[i]?=some (some v)->Vis X.env.scope x->∃u,aX v u/\Fz X.env s.heap m x u
 cell:∀x c,X.env.cells.lookup x=some c->∃v,s.heap.IsCell c v
 free:H X.env.locals=none
 freeC:∀x c,X.env.cells.lookup x=some c->H c=none
 pin:∀p∈X.pn++af,s.heap.get? p.1=some p.2/\H p.1=none/\p.1≠X.env.locals/\p.1∉X.fs/\∀v,p.2.data≠.cell v
 hok:HOk X.prog X.w H s.heap
 len:σ.length=X.N.length
section
variable{X:Cx}{af:List (F9×Obj)}{σ:List (Option V)}{H H':Hp}{s:F2}{h':K5}
theorem Cx.Ok.nofr(ok:X.Ok) {b:F9}{o:Obj}(e:X.base.get? b=some o):b∉X.fs:=fun hb=>by
 have:=(ok.funs.mem hb).1;rw[e]at this;cases this
theorem Inv.bs(I:Inv X af σ H s):∀b o,X.base.get? b=some o->s.heap.get? b=some o/\H b=none:=fun b o e =>
 ⟨I.base.keep b o (I.ok.bs b o e).1 (I.ok.bs b o e).2 (I.ok.nofr e) (I.ok.noex b o e),I.base.free b o (I.ok.bs b o e).1 (I.ok.bs b o e).2 (I.ok.noex b o e)⟩
theorem Inv.bk(I:Inv X af σ H s):∀b o,X.base.get? b=some o->s.heap.get? b=some o:=fun b o e=>(I.bs b o e).1
theorem Inv.mod(I:Inv X af σ H s):Mod X.K X.mg X.base:=I.ok.mod
theorem Inv.kIn(I:Inv X af σ H s):X.K.In s.heap:=I.ok.mod.kin.keeps I.bk
theorem Inv.lt(I:Inv X af σ H s):X.env.locals<s.heap.objs.size:=let⟨_,hn,_⟩:=I.loc;hn.lt
theorem Inv.sz(I:Inv X af σ H s):X.s₀.heap.objs.size<=s.heap.objs.size:=O4 I.ok.above (al9 I.lt)
theorem Inv.nofs(I:Inv X af σ H s) {a:F9}(h:s.heap.objs.size<=a):a∉X.fs:=fun hb=>by
 obtain⟨_,o,ho,_⟩:=I.ok.funs.mem hb;exact absurd (J9 (J8 ho) (O4 I.sz h)) (ac0 _)
theorem Inv.cne(I:Inv X af σ H s):∀x c,X.env.cells.lookup x=some c->c≠X.env.locals:=fun x c e z=>by
 obtain⟨v,o,ho,hd⟩:=I.cell x c e;obtain⟨m,⟨o',es,ep,ho',hd',_⟩,_⟩:=I.loc;rw[z,ho']at ho;cases ho;rw[hd']at hd;cases hd
theorem Inv.funs(I:Inv X af σ H s):s.heap.FunFrames X.base X.outer:=by
 have all:∀(l:List Env),(∀b∈frs l,b∈X.fs)->X.s₀.heap.FunFrames X.base l->s.heap.FunFrames X.base l:=by
  intro l
  induction l with
  |nil=>intro _ _;trivial
  |cons env r ih =>
   intro hs hl;obtain⟨hk,⟨L,o,hf,hn,ho,hd⟩,hr⟩:=hl;have hL:L∈X.fs:=hs L (by unfold frs;rw[R8,hf];exact R5);obtain⟨sl,e⟩:=I.base.slot L o ho (I.ok.frf L hL) hL fun z=>I.ok.exfs L z hL;exact⟨hk,⟨L,_,hf,hn,e,hd⟩,ih (fun b hb=>hs b (by unfold frs;rw[R8,hf];exact O0 _ hb)) hr⟩
 exact all X.outer (fun _ hb=>hb) I.ok.funs
theorem Inv.stack(I:Inv X af σ H s):s.heap.FunFrames X.base X.stack:=by
 rcases I.ok.stk with e|⟨e,hf⟩
 ·rw[e];exact I.funs
 ·rw[e];obtain⟨m,hn,_⟩:=I.loc;refine .cons (by rw[I.ok.kind];decide) hf hn ?_ I.funs;exact V5 (O4 I.ok.bsz I.ok.above)
theorem Inv.stkSub(I:Inv X af σ H s):∀b∈frs X.stack,b∈X.env.locals::X.fs:=fun b hb=>by
 rcases I.ok.stk with e|⟨e,hf⟩
 ·rw[e]at hb;exact O0 _ hb
 ·rw[e]at hb;unfold frs at hb;rw[R8,hf]at hb;exact hb
theorem Inv.stkFree(I:Inv X af σ H s):∀b∈frs X.stack,H b=none:=fun b hb=>by
 rcases J3.mp (I.stkSub b hb)with e|hb
 ·rw[e];exact I.free
 ·obtain⟨_,o,ho,_⟩:=I.ok.funs.mem hb;exact I.base.free b o ho (I.ok.frf b hb) fun z=>I.ok.exfs b z hb
theorem Inv.step{g':Array am9}{t':Nat}{d':Drawn}{ch:List F9}(I:Inv X af σ H s)
  (hch:∀b∈ch,(b∈X.ex∨X.s₀.heap.objs.size<=b)/\b≠X.env.locals/\(∀x c,X.env.cells.lookup x=some c->c≠b)/\∀p∈X.pn++af,p.1≠b)
  (keep:∀b o,b≠X.env.locals->b∉X.fs->b∉ch->s.heap.get? b=some o->H b=none->h'.get? b=some o)
  (slot:∀b o,b≠X.env.locals->b∈X.fs->b∉ch->s.heap.get? b=some o->H b=none->∃sl,h'.get? b=some { o with slots:=sl }) (free:∀b o,b∉ch->s.heap.get? b=some o->H b=none->H' b=none)
  (there:∀b o,b∉ch->s.heap.get? b=some o->∃o',h'.get? b=some o')
  (tups:∀b xs,H b=some (.tup xs)->H' b=some (.tup xs)) (frzs:∀b o u,H b=some (.frz o u)->H' b=some (.frz o u)) (tbls:∀b ps,H b=some (.tbl ps)->∃more,H' b=some (.tbl (ps++more)))
  (ns:∀m,s.heap.Ns X.env.locals m->h'.Ns X.env.locals m) (hok:HOk X.prog X.w H' h') (hg:am5 g') :
  Inv X af σ H' { s with heap:=h',gens:=g',drawn:=d',toks:=t' }:=by
 have neL:∀b o,X.s₀.heap.get? b=some o->b≠X.env.locals:=fun b o e=>L6 (J9 (J8 e) I.ok.above);have neC:∀b o,X.s₀.heap.get? b=some o->b∉X.ex->b∉ch:=fun b o e hx hb=>by
  rcases(hch b hb).1 with z|z
  ·exact hx z
  ·exact absurd (J9 (J8 e) z) (ac0 _)
 have cellK:∀x c,X.env.cells.lookup x=some c->∀v,s.heap.IsCell c v->h'.IsCell c v:=fun x c e v ⟨o,ho,hd⟩=>by
  have nch:c∉ch:=fun z=>(hch c z).2.2.1 x c e rfl
  by_cases hc:c∈X.fs
  ·obtain⟨sl,q⟩:=slot c o (I.cne x c e) hc nch ho (I.freeC x c e);exact⟨_,q,hd⟩
  ·exact⟨o,keep c o (I.cne x c e) hc nch ho (I.freeC x c e),hd⟩
 refine⟨I.ok,I.os,hg,⟨fun b o e n hb hx=>?_,fun b o e n hb hx=>?_,fun b o e n hx=>?_,fun b o e hx=>?_,fun b xs e=>tups b xs (I.base.tups b xs e),fun b o xs e=>frzs b o xs (I.base.frzs b o xs e),fun b ps e=>?_⟩,?_,fun x c e=>?_,?_,fun x c e=>?_,fun p hp=>?_,hok,I.len⟩
 ·exact keep b o (neL b o e) hb (neC b o e hx) (I.base.keep b o e n hb hx) (I.base.free b o e n hx)
 ·obtain⟨sl,e1⟩:=I.base.slot b o e n hb hx;obtain⟨sl',e2⟩:=slot b _ (neL b o e) hb (neC b o e hx) e1 (I.base.free b o e n hx);exact⟨sl',e2⟩
 ·obtain⟨o',e1⟩:=I.base.there b o e hx;exact free b o' (neC b o e hx) e1 (I.base.free b o e n hx)
 ·obtain⟨o',e1⟩:=I.base.there b o e hx;exact there b o' (neC b o e hx) e1
 ·obtain⟨m1,e1⟩:=I.base.tbls b ps e;obtain⟨m2,e2⟩:=tbls b _ e1;exact⟨m1++m2,by rw[e2,Array.append_assoc]⟩
 ·obtain⟨m,hn,hl⟩:=I.loc;refine⟨m,ns m hn,fun i x v e1 e2 e3=>?_⟩;obtain⟨u,r,l⟩:=hl i x v e1 e2 e3;refine⟨u,r,?_⟩;rcases l with l|⟨k,c,e,z⟩
  ·exact .inl l
  ·exact .inr ⟨k,c,e,cellK x c e _ z⟩
 ·obtain⟨v,z⟩:=I.cell x c e;exact⟨v,cellK x c e v z⟩
 ·obtain⟨m,⟨o,_,_,ho,_⟩,_⟩:=I.loc;exact free _ o (fun z=>(hch _ z).2.1 rfl) ho I.free
 ·obtain⟨v,o,ho,hd⟩:=I.cell x c e;exact free c o (fun z=>(hch c z).2.2.1 x c e rfl) ho (I.freeC x c e)
 ·obtain⟨e,n,ne,nf,d⟩:=I.pin p hp;have nch:p.1∉ch:=fun z=>(hch p.1 z).2.2.2 p hp rfl;exact⟨keep p.1 p.2 ne nf nch e n,free p.1 p.2 nch e n,ne,nf,d⟩
theorem Inv.un{t':Nat}(I:Inv X af σ H s) (u:Un X.fs [] H H' s.heap h') (hok:HOk X.prog X.w H' h'):Inv X af σ H' { s with heap:=h',toks:=t' }:=by
 obtain⟨m,⟨o,es,ep,ho,r⟩,_⟩:=id I.loc;obtain⟨sl,hL⟩:=u.any ho I.free (by simp);exact I.step (g':=s.gens) (d':=s.drawn) (ch:=[]) (fun _ z=>nomatch z) (fun b o _ hb _ e n=>u.keep b o e n hb (by simp)) (fun b o _ hb _ e n=>u.slot b o e n hb (by simp)) (fun b o _ e n=>u.free b o e n (by simp)) (fun b o _ e=>u.there b o e (by simp)) u.tups u.frzs u.tbls (fun m' hm=>by
  obtain⟨o',es',ep',ho',r'⟩:=hm;rw[ho]at ho';cases ho';exact⟨_,es',ep',hL,r'⟩) hok I.bare
theorem Inv.call{g':Array am9}{t':Nat}{d':Drawn}{ch:List F9}(I:Inv X af σ H s) (u:Un (frs X.stack) ch H H' s.heap h') (hok:HOk X.prog X.w H' h') (hg:am5 g')
  (hch:∀b∈ch,(b∈X.ex∨X.s₀.heap.objs.size<=b)/\b≠X.env.locals/\(∀x c,X.env.cells.lookup x=some c->c≠b)/\∀p∈X.pn++af,p.1≠b) :
  Inv X af σ H' { s with heap:=h',gens:=g',drawn:=d',toks:=t' }:=by
 obtain⟨m,⟨o,es,ep,ho,r⟩,_⟩:=id I.loc;obtain⟨sl,hL⟩:=u.any ho I.free fun z=>(hch _ z).2.1 rfl;exact I.step (ch:=ch) hch (fun b o hL hb hc e n=>u.keep b o e n (fun z=>(J3.mp (I.stkSub b z)).elim hL hb) hc) (fun b o _ _ hc e n=>u.any e n hc) (fun b o hc e n=>u.free b o e n hc) (fun b o hc e=>u.there b o e hc) u.tups u.frzs u.tbls (fun m' hm=>by
  obtain⟨o',es',ep',ho',r'⟩:=hm;rw[ho]at ho';cases ho';exact⟨_,es',ep',hL,r'⟩) hok hg
theorem Inv.turned{t':Nat}{it:F9}(I:Inv X af σ H s) (k:∀b o,b≠it->s.heap.get? b=some o->h'.get? b=some o) (hn:H it=none) (hL:it≠X.env.locals)
  (h1:it∈X.ex∨X.s₀.heap.objs.size<=it) (h2:∀x c,X.env.cells.lookup x=some c->c≠it) (h3:∀p∈X.pn++af,p.1≠it):Inv X af σ H { s with heap:=h',toks:=t' }:=by
 have nit:∀b u,H b=some u->b≠it:=fun b u e z=>by rw[z,hn]at e;cases e
 refine I.step (g':=s.gens) (d':=s.drawn) (ch:=[it]) (fun b hb=>?_) (fun b o _ _ hc e _=>k b o (fun z=>hc (by simp[z])) e) (fun b o _ _ hc e _=>⟨o.slots,k b o (fun z=>hc (by simp[z])) e⟩) (fun _ _ _ _ n=>n)
  (fun b o hc e=>⟨o,k b o (fun z=>hc (by simp[z])) e⟩) (fun _ _ e=>e) (fun _ _ _ e=>e) (fun b ps e=>⟨#[],by rw[e];simp⟩) (fun m hm=>?_) (fun b u e=>?_) I.bare
 ·have e:b=it:=by simpa using hb
  subst e;exact⟨h1,hL,h2,h3⟩
 ·obtain⟨o,es,ep,ho,r⟩:=hm;exact⟨o,es,ep,k _ o (V0 hL) ho,r⟩
 ·refine(I.hok b u e).stay (fun c v hc q=>k c v ?_ q) (fun _ q=>q) fun _ _ q=>q;rcases hc with z|z
  ·rw[z];exact nit b u e
  ·exact nit c _ z
theorem Inv.tok(I:Inv X af σ H s) (t:Nat):Inv X af σ H { s with toks:=t }:=I.un (h':=s.heap) (t':=t) Un.refl I.hok
theorem Inv.kept{t':Nat}(I:Inv X af σ H s) (k:∀b u,s.heap.get? b=some u->h'.get? b=some u):Inv X af σ H { s with heap:=h',toks:=t' }:=I.un (Un.kept k) (I.hok.kept k)
theorem Inv.laid{a:F9}{o:HO}{t':Nat}(I:Inv X af σ H s) (k:∀b u,s.heap.get? b=some u->h'.get? b=some u) (hp:s.heap.objs.size<=a) (new:cj X.prog X.w (upd H a o) h' a o) :
  Inv X af σ (upd H a o) { s with heap:=h',toks:=t' }:=I.un (Un.laid k hp (I.hok.fresh hp)) (I.hok.laid k hp new)
theorem Inv.write{x e:F9}{o:HO}{t':Nat}(I:Inv X af σ H s) (mu:Mut (H x)) (he:e=x∨H e=some (.own x)) (k:∀b u,b≠e->s.heap.get? b=some u->h'.get? b=some u) (heo:∃u,h'.get? e=some u)
  (new:cj X.prog X.w (upd H x o) h' x o):Inv X af σ (upd H x o) { s with heap:=h',toks:=t' }:=I.un (Un.write mu he k heo) (I.hok.write mu he k heo new)
theorem Inv.pins_of{pins':List (F9×Obj)}(I:Inv X af σ H s) (h:∀p∈pins',s.heap.get? p.1=some p.2/\H p.1=none/\p.1≠X.env.locals/\p.1∉X.fs/\∀v,p.2.data≠.cell v):Inv X pins' σ H s :=
 ⟨I.ok,I.os,I.bare,I.base,I.loc,I.cell,I.free,I.freeC,fun p hp=>(K0.mp hp).elim (fun z=>I.pin p (List.mem_append_left _ z)) (h p),I.hok,I.len⟩
theorem mF{N:List Str}(hN:N.Nodup) {i j:Nat}{x:Str}(a:N[i]?=some x) (b:N[j]?=some x):i=j:=by
 obtain⟨h1,e1⟩:=N1.mp a;obtain⟨h2,e2⟩:=N1.mp b;exact(List.getElem_inj hN).mp (e1.trans e2.symm)
theorem oS{M:at2}{A:N6}{E:s0->F2->Prop}{i:Nat}{x:Str}{v:V}{u:s0}{Q:Unit->F2->Prop}(I:Inv X af σ H s) (hN:X.N.Nodup) (hi:X.N[i]?=some x) (hx:Loc X.env.scope x) (r:aX v u)
  (h:∀s',Inv X af (σ.set i (some v)) H s'->(∃a,P2 a s.heap s'.heap/\(a=X.env.locals∨X.env.cells.lookup x=some a))->Q () s') (hf:X.fn x=true∨X.env.scope.names.lookup x=some .local:=by first|exact .inl rfl|exact .inr rfl|assumption):J4 M A (storeName X.env x u) Q E s:=by
 obtain⟨m,hn,hl⟩:=id I.loc;have hcls:(X.env.scope.kind==.class || (X.env.scope.kind==.module&&X.env.locals != X.env.globals))=false:=by rw[I.ok.kind];rfl
 have hiσ:i<σ.length:=by rw[I.len];exact(N1.mp hi).1
 have cne:=I.cne;have tracked:∀{a:F9} {h':K5},(∃o,s.heap.get? a=some o/\H a=none)->P2 a s.heap h'->HOk X.prog X.w H h':=fun {a h'} ha hs b ob e=>by
  obtain⟨_,_,hfree⟩:=ha;refine(I.hok b ob e).stay (fun c w' hc q=>(hs.2 c ?_).trans q) (fun _ q=>q) fun _ _ q=>q;rintro rfl;rcases hc with rfl|hc
  ·rw[hfree]at e;cases e
  ·rw[hfree]at hc;cases hc
 rcases hx with hk|hk
 ·refine wpAny_storeName_local hk hn (fun h' hn' hs=>?_) hcls;obtain⟨oL,_,_,hoL,_⟩:=id hn;refine h _ ⟨I.ok,I.os,I.bare,⟨fun b o e n hb hx=>?_,fun b o e n hb hx=>?_,I.base.free,fun b o e hx=>?_,I.base.tups,I.base.frzs,I.base.tbls⟩,⟨_,hn',fun j y v' e1 e2 e3=>?_⟩,fun y c e=>?_,I.free,I.freeC,fun p hp=>?_,tracked ⟨oL,hoL,I.free⟩ hs,by simpa using I.len⟩ ⟨_,hs,.inl rfl⟩
  ·exact(hs.2 b (L6 (J9 (J8 e) I.ok.above))).trans (I.base.keep b o e n hb hx)
  ·obtain⟨sl,e1⟩:=I.base.slot b o e n hb hx;exact⟨sl,(hs.2 b (L6 (J9 (J8 e) I.ok.above))).trans e1⟩
  ·obtain⟨o',e1⟩:=I.base.there b o e hx;exact⟨o',(hs.2 b (L6 (J9 (J8 e) I.ok.above))).trans e1⟩
  ·by_cases hj:j=i
   ·subst hj;rw[hi]at e1;cases e1;rw[T9 hiσ]at e2;cases e2;exact⟨u,r,.inl ⟨hk,by simp⟩⟩
   ·rw[W9 (V0 hj)]at e2;obtain⟨u',r',q⟩:=hl j y v' e1 e2 e3;refine⟨u',r',?_⟩;rcases q with⟨k,e⟩|⟨k,c,e,z⟩
    ·refine .inl ⟨k,?_⟩;have:y≠x:=fun e=>hj (mF hN e1 (e▸hi));simp[this,e]
    ·exact .inr ⟨k,c,e,z.sameBut hs (cne y c e)⟩
  ·obtain⟨w',z⟩:=I.cell y c e;exact⟨w',z.sameBut hs (cne y c e)⟩
  ·obtain⟨e,n,ne,nf,d⟩:=I.pin p hp;exact⟨(hs.2 p.1 ne).trans e,n,ne,nf,d⟩
 ·have hfn:X.fn x=true:=by
   rcases hf with z|z
   ·exact z
   ·rw[z]at hk;cases hk
  obtain⟨c,hc⟩:=I.ok.has x (.inl hk);obtain⟨w',z⟩:=I.cell x c hc;refine wpAny_storeName_cell I.ok.kind hk hc z (fun h' hc' hs=>?_);obtain⟨oc,hoc,hocd⟩:=id z;refine h { s with heap:=h' } ⟨I.ok,I.os,I.bare,⟨fun b o e n hb hx=>?_,fun b o e n hb hx=>?_,I.base.free,fun b o e hx=>?_,I.base.tups,I.base.frzs,I.base.tbls⟩,⟨m,hn.sameBut hs (V0 (cne x c hc)),fun j y v' e1 e2 e3=>?_⟩,fun y c' e=>?_,I.free,I.freeC,fun p hp=>?_,tracked ⟨oc,hoc,I.freeC x c hc⟩ hs,by simpa using I.len⟩ ⟨c,hs,.inr hc⟩
  ·exact(hs.2 b (L6 (J9 (J8 e) (I.ok.cab x c hfn hc)))).trans (I.base.keep b o e n hb hx)
  ·obtain⟨sl,e1⟩:=I.base.slot b o e n hb hx;exact⟨sl,(hs.2 b (L6 (J9 (J8 e) (I.ok.cab x c hfn hc)))).trans e1⟩
  ·obtain⟨o',e1⟩:=I.base.there b o e hx;exact⟨o',(hs.2 b (L6 (J9 (J8 e) (I.ok.cab x c hfn hc)))).trans e1⟩
  ·by_cases hj:j=i
   ·subst hj;rw[hi]at e1;cases e1;rw[T9 hiσ]at e2;cases e2;exact⟨u,r,.inr ⟨.inl hk,c,hc,hc'⟩⟩
   ·rw[W9 (V0 hj)]at e2;obtain⟨u',r',q⟩:=hl j y v' e1 e2 e3;refine⟨u',r',?_⟩;rcases q with q|⟨k,c',e,z'⟩
    ·exact .inl q
    ·refine .inr ⟨k,c',e,z'.sameBut hs ?_⟩;rintro rfl;exact hj (mF hN e1 (I.ok.inj _ _ _ e hc▸hi))
  ·by_cases hcc:c'=c
   ·subst hcc;exact⟨_,hc'⟩
   ·obtain⟨w2,z2⟩:=I.cell y c' e;exact⟨w2,z2.sameBut hs hcc⟩
  ·obtain⟨e,n,ne,nf,d⟩:=I.pin p hp;refine⟨(hs.2 p.1 ?_).trans e,n,ne,nf,d⟩;intro q;rw[q,hoc]at e;have q':oc=p.2:=P9 e;exact d w' (by rw[<-q'];exact hocd)
theorem jS{M:at2}{A:N6}{E:s0->F2->Prop}{i:Nat}{x:Str}{v:V}{u:s0}{Q:Unit->F2->Prop}(I:Inv X af σ H s) (hN:X.N.Nodup) (hi:X.N[i]?=some x) (hx:Loc X.env.scope x) (r:aX v u)
  (h:∀s',Inv X af (σ.set i (some v)) H s'->Q () s') (hf:X.fn x=true∨X.env.scope.names.lookup x=some .local:=by first|exact .inl rfl|exact .inr rfl|assumption):J4 M A (storeName X.env x u) Q E s :=
 oS I hN hi hx r (fun s' I' _=>h s' I') hf
theorem Inv.call'{s':F2}{ch:List F9}(I:Inv X af σ H s) (ho:s'.os=s.os) (u:Un (frs X.stack) ch H H' s.heap s'.heap) (hok:HOk X.prog X.w H' s'.heap) (hg:am5 s'.gens)
  (hch:∀b∈ch,(b∈X.ex∨X.s₀.heap.objs.size<=b)/\b≠X.env.locals/\(∀x c,X.env.cells.lookup x=some c->c≠b)/\∀p∈X.pn++af,p.1≠b):Inv X af σ H' s':=by
 obtain⟨h',g',d',t',o'⟩:=s';have e:o'=s.os:=ho;subst e;exact I.call (g':=g') (t':=t') (d':=d') u hok hg hch
end
abbrev XK:=s0->Option F9->Hp->Prop
noncomputable abbrev St:=List (Option V)
abbrev VK:=V->Hp->Prop
abbrev TE:=St->Hp->VK->Prop
abbrev TT:=St->Hp->(Bool->Hp->Prop)->Prop
abbrev TA:=St->Hp->(List V->Hp->Prop)->Prop
structure nH where
 nx:St->Hp->Prop
 rt:VK
 bk:St->Hp->Prop:=fun _ _=>False
 ct:St->Hp->Prop:=fun _ _=>False
abbrev TS:=nH->St->Hp->Prop
def EP(X:Cx) (af:List (F9×Obj)) (σ:St) (Q:VK) (u:s0) (s':F2):Prop:=∃v H',Inv X af σ H' s'/\aX v u/\Q v H'
def TP(X:Cx) (af:List (F9×Obj)) (σ:St) (Q:Bool->Hp->Prop) (b:Bool) (s':F2):Prop:=∃H',Inv X af σ H' s'/\Q b H'
def AP(X:Cx) (af:List (F9×Obj)) (σ:St) (Q:List V->Hp->Prop) (us:List s0) (s':F2):Prop:=∃vs H',Inv X af σ H' s'/\aE vs us/\Q vs H'
theorem EP.el{X:Cx}{af:List (F9×Obj)}{σ:St}{Q:VK}{u:s0}{s:F2}{P:Prop}(h:EP X af σ Q u s) (f:∀(v:V) (H:Hp),Inv X af σ H s->aX v u->Q v H->P):P:=by
 obtain⟨x1,x2,a,b,c⟩:=h;exact f x1 x2 a b c
theorem AP.el{X:Cx}{af:List (F9×Obj)}{σ:St}{Q:List V->Hp->Prop}{u:List s0}{s:F2}{P:Prop}(h:AP X af σ Q u s) (f:∀(v:List V) (H:Hp),Inv X af σ H s->aE v u->Q v H->P):P:=by
 obtain⟨x1,x2,a,b,c⟩:=h;exact f x1 x2 a b c
theorem TP.el{X:Cx}{af:List (F9×Obj)}{σ:St}{Q:Bool->Hp->Prop}{u:Bool}{s:F2}{P:Prop}(h:TP X af σ Q u s) (f:∀(H:Hp),Inv X af σ H s->Q u H->P):P:=by
 obtain⟨x1,a,b⟩:=h;exact f x1 a b
def SP(X:Cx) (af:List (F9×Obj)) (D:nH) (f:Flow) (s':F2):Prop :=
 match f with
 |.next=>∃ σ' H',Inv X af σ' H' s'/\D.nx σ' H'
 |.brk=>∃ σ' H',Inv X af σ' H' s'/\D.bk σ' H'
 |.cont=>∃ σ' H',Inv X af σ' H' s'/\D.ct σ' H'
 |.ret u=>∃v σ' H',Inv X af σ' H' s'/\aX v u/\D.rt v H'
def PE(X:Cx) (e:O3) (t:TE):Prop :=
 ∀(af:List (F9×Obj)) (s:F2) (σ:St) (H:Hp) (Q:VK),Inv X af σ H s->t σ H Q->J4 (M0 X.prog X.w) X.A (ab7 e X.env) (EP X af σ Q) X.xe s
def PT(X:Cx) (e:O3) (t:TT):Prop :=
 ∀(af:List (F9×Obj)) (s:F2) (σ:St) (H:Hp) (Q:Bool->Hp->Prop),Inv X af σ H s->t σ H Q->J4 (M0 X.prog X.w) X.A (isTrue e X.env (ab7 e X.env)) (TP X af σ Q) X.xe s
def PW(X:Cx) (e:O3) (t:TT):Prop :=
 ∀(whole:Sem s0) (af:List (F9×Obj)) (s:F2) (σ:St) (H:Hp) (Q:Bool->Hp->Prop),Inv X af σ H s->t σ H Q->J4 (M0 X.prog X.w) X.A (isTrue e X.env whole) (TP X af σ Q) X.xe s
theorem PW.pt{X:Cx}{e:O3}{t:TT}(h:PW X e t):PT X e t:=h _
def PA(X:Cx) (es:List O3) (t:TA):Prop :=
 ∀(pos:Pos) (af:List (F9×Obj)) (s:F2) (σ:St) (H:Hp) (Q:List V->Hp->Prop),Inv X af σ H s->t σ H Q->J4 (M0 X.prog X.w) X.A (as4 (V4 pos (F8 es X.env))) (AP X af σ Q) X.xe s
def PS(X:Cx) (st:aa1) (t:TS):Prop :=
 ∀(af:List (F9×Obj)) (s:F2) (σ:St) (H:Hp) (D:nH),Inv X af σ H s->t D σ H->J4 (M0 X.prog X.w) X.A (exec st X.env) (SP X af D) X.xe s
def PSs(X:Cx) (st:List aa1) (t:TS):Prop :=
 ∀(af:List (F9×Obj)) (s:F2) (σ:St) (H:Hp) (D:nH),Inv X af σ H s->t D σ H->J4 (M0 X.prog X.w) X.A (execs st X.env) (SP X af D) X.xe s
theorem thn{α:Type}{t:Sem α}{Q Q':α->F2->Prop}{M:at2}{A:N6}{E:s0->F2->Prop}{s:F2}(h:J4 M A t Q E s) (hQ:∀a s,Q a s->Q' a s):J4 M A t Q' E s:=Q8 h hQ fun _ _ x=>x
section
variable{X:Cx}
def vi(i:Nat):TE:=fun σ H Q=>∃v,σ[i]?=some (some v)/\Q v H
def tC(v:V):TE:=fun _ H Q=>Q v H
theorem yH{i:Nat}{x:Str}{pos:Pos}(hN:X.N[i]?=some x) (hv:Vis X.env.scope x) (hd:(x==("__debug__":Str))=false:=by decide) (hcd:(x==("__classdict__":Str))=false:=by decide):PE X (.Name x pos) (vi i):=by
 intro af s σ H Q I h;obtain⟨v,e,h⟩:=h;obtain⟨m,hn,hl⟩:=I.loc;obtain⟨u,r,l⟩:=hl i x v hN e hv;have fin:EP X af σ Q u s:=⟨v,H,I,r,h⟩;rcases l with⟨hk,hm⟩|⟨hk,c,hc,hcell⟩
 ·exact wpAny_Name (wpAny_loadName_local I.ok.kind hk hn hm fin) hd
 ·rcases hk with hk|hk
  ·exact wpAny_Name (wpAny_loadName_cell I.ok.kind hk hc hcell fin) hd
  ·exact wpAny_Name (wpAny_loadName_free I.ok.kind hk hc hcell fin hcd) hd
theorem CF{i j pos}:PE X (.Constant (.int i) j pos) (tC (.int i)):=fun _ _ _ H _ I h=>wpAny_Constant_int ⟨.int i,H,I.tok _,⟨_,rfl⟩,h⟩
theorem DT{b j pos}:PE X (.Constant (.bool b) j pos) (tC (.bl b)):=fun _ _ _ H _ I h=>Constant_bool ⟨.bl b,H,I,rfl,h⟩
theorem B6{j pos}:PE X (.Constant .none j pos) (tC .non):=fun _ _ _ H _ I h=>Constant_none ⟨.non,H,I,rfl,h⟩
theorem wF{x j pos}:PE X (.Constant (.str x) j pos) (tC (.str x)):=fun _ _ _ H _ I h=>Calls.Constant_str ⟨.str x,H,I.tok _,⟨_,rfl⟩,h⟩
def Gl(X:Cx) (x:Str):Prop:=X.env.kindOf x=some .globalImplicit
theorem jV{E:s0->F2->Prop}{af:List (F9×Obj)}{s:F2}{σ:St}{H:Hp}{x:Str}{u:s0}{pos:Pos}{Q:s0->F2->Prop}(I:Inv X af σ H s) (hg:Gl X x) (hm:X.mg x=some u) (h:Q u s)
  (hd:(x==("__debug__":Str))=false:=by decide):J4 (M0 X.prog X.w) X.A (ab7 (.Name x pos) X.env) Q E s :=
 Calls.Name_function_global I.ok.kind hg (Calls.loadGlobal_global (by rw[I.ok.glob];exact I.mod.glob.keeps I.bk) hm h) hd
theorem gN{E:s0->F2->Prop}{af:List (F9×Obj)}{s:F2}{σ:St}{H:Hp}{x:Str}{u:s0}{pos:Pos}{Q:s0->F2->Prop}(I:Inv X af σ H s) (hg:Gl X x) (hm:X.mg x=none) (hv:ac1 x=some u) (h:Q u s)
  (hn:x≠"__name__":=by decide) (hd:(x==("__debug__":Str))=false:=by decide):J4 (M0 X.prog X.w) X.A (ab7 (.Name x pos) X.env) Q E s:=by
 obtain⟨mb,h1,h2⟩:=I.mod.blt;exact Calls.Name_function_global I.ok.kind hg (Calls.loadGlobal_builtin (by rw[I.ok.glob];exact I.mod.glob.keeps I.bk) hm (by rw[I.ok.blt];exact h1.keeps I.bk) ((h2 x hn).trans hv) h) hd
theorem pC{x:Str}{v:V}{u:s0}{pos:Pos}(hg:Gl X x) (hm:X.mg x=some u) (r:aX v u) (hd:(x==("__debug__":Str))=false:=by decide):PE X (.Name x pos) (tC v) :=
 fun _ _ _ H _ I h=>jV I hg hm ⟨v,H,I,r,h⟩ hd
theorem ui{x:Str}{v:V}{u:s0}{pos:Pos}(hg:Gl X x) (hm:X.mg x=none) (hv:ac1 x=some u) (r:aX v u) (hn:x≠"__name__":=by decide) (hd:(x==("__debug__":Str))=false:=by decide):PE X (.Name x pos) (tC v) :=
 fun _ _ _ H _ I h=>gN I hg hm hv ⟨v,H,I,r,h⟩ hn hd
variable{a b:O3}{ta tb:TE}{pos:Pos}
theorem xv(b:O3) {op:CmpOp}(h:op≠.In) (h2:op≠.NotIn):ag8 op b=false:=by
 have e1:(op==CmpOp.In)=false:=by cases op<;>first|rfl|exact absurd rfl h
 have e2:(op==CmpOp.NotIn)=false:=by cases op<;>first|rfl|exact absurd rfl h2
 cases b<;>simp[ag8,e1,e2]
def tB(t:TE):TT:=fun σ H Q=>t σ H fun x H1=>∃c,x=.bl c/\Q c H1
theorem BI{e:O3}{t:TE}(h:PE X e t) (he:∀whole,isTrue e X.env whole=(do let v <-whole;aq7 e.pos;ak1 [v] (truthy v)):=by intro _;rfl):PT X e (tB t):=by
 intro af s σ H Q I hw;refine isTrue_plain (thn (h af s σ H _ I hw) fun v s1 hup=>hup.el fun x H1 I1 r1 q1=>?_) (he _);obtain⟨d,rfl,q⟩:=q1;cases r1;exact ad1 ⟨H1,I1,q⟩
variable{tA tB':TT}{rest:List O3}
def FA(t u:TT):TT:=fun σ H Q=>t σ H fun c H1=>if c=true then u σ H1 Q else Q false H1
def tOr(t u:TT):TT:=fun σ H Q=>t σ H fun c H1=>if c=true then Q true H1 else u σ H1 Q
def FH(t:TT):TT:=fun σ H Q=>t σ H fun c H1=>Q (!c) H1
theorem zC(ha:PT X a tA):PW X (.BoolOp .And [a] pos) tA:=by
 intro wh af s σ H Q I h;refine isTrue_and (thn (ha af s σ H Q I h) fun c s1 e=>?_);cases c with
 |true=>exact isTrue_and_nil e
 |false=>exact e
theorem C3(ha:PT X a tA):PW X (.BoolOp .Or [a] pos) tA:=by
 intro wh af s σ H Q I h;refine isTrue_or (thn (ha af s σ H Q I h) fun c s1 e=>?_);cases c with
 |false=>exact isTrue_or_nil e
 |true=>exact e
theorem Ct(ha:PT X a tA) (hb:PW X (.BoolOp .And (b::rest) pos) tB'):PW X (.BoolOp .And (a::b::rest) pos) (FA tA tB'):=by
 intro wh af s σ H Q I h;refine isTrue_and (thn (ha af s σ H _ I h) fun c s1 hup=>hup.el fun H1 I1 q1=>?_);cases c with
 |true=>exact hb wh af s1 σ H1 Q I1 q1
 |false=>exact⟨H1,I1,q1⟩
theorem Eg(ha:PT X a tA) (hb:PW X (.BoolOp .Or (b::rest) pos) tB'):PW X (.BoolOp .Or (a::b::rest) pos) (tOr tA tB'):=by
 intro wh af s σ H Q I h;refine isTrue_or (thn (ha af s σ H _ I h) fun c s1 hup=>hup.el fun H1 I1 q1=>?_);cases c with
 |true=>exact⟨H1,I1,q1⟩
 |false=>exact hb wh af s1 σ H1 Q I1 q1
theorem Da(ha:PT X a tA):PT X (.UnaryOp .Not a pos) (FH tA):=by
 intro af s σ H Q I h;exact isTrue_not (ha af s σ H (fun c H1=>Q (!c) H1) I h)
def DB(ta tb:TE):TE:=fun σ H Q=>ta σ H fun x H1=>∃c,x=.bl c/\if c=true then tb σ H1 Q else Q (.bl false) H1
def DY(ta:TE):TE:=fun σ H Q=>ta σ H fun x H1=>∃c,x=.bl c/\Q (.bl (!c)) H1
theorem CD{op}{t:TE}(h:PE X a t):PE X (.BoolOp op [a] pos) t:=fun af s σ H Q I hw=>BoolOp_one (h af s σ H Q I hw)
theorem Ce(ha:PE X a ta) (hb:PE X (.BoolOp .And (b::rest) pos) tb):PE X (.BoolOp .And (a::b::rest) pos) (DB ta tb):=by
 intro af s σ H Q I h;refine BoolOp_and (thn (ha af s σ H _ I h) fun v s1 hup=>hup.el fun x H1 I1 r1 q1=>?_);obtain⟨c,rfl,q1⟩:=q1;cases r1;refine ad1 ?_;cases c with
 |true=>exact hb af s1 σ H1 Q I1 q1
 |false=>exact⟨.bl false,H1,I1,rfl,q1⟩
theorem BB(ha:PE X a ta):PE X (.UnaryOp .Not a pos) (DY ta):=by
 intro af s σ H Q I h;refine UnaryOp_ (thn (ha af s σ H _ I h) fun v s1 hup=>hup.el fun x H1 I1 r1 q1=>?_);obtain⟨c,rfl,q1⟩:=q1;cases r1;exact not_of (ad1 ⟨.bl (!c),H1,I1,rfl,q1⟩)
end
def SqL(K:F0) (H:Hp) (a:F9) (xs:List V):Prop :=
 Rd H a (.lst xs) ∨
  ∃(o:Obj) (its:Array s0) (n:Nat),K.lookup a=some o/\o.cls=.type "list"/\o.dict=none/\o.data=.seq its n/\its.size<=I0/\aE xs its.toList
def SqT(K:F0) (H:Hp) (a:F9) (xs:List V):Prop :=
 Rd H a (.tup xs) ∨
  ∃(o:Obj) (its:Array s0) (n:Nat),K.lookup a=some o/\(o.cls=.type "tuple"/\o.dict=none)/\o.data=.seq its n/\its.size<=I0/\aE xs its.toList
noncomputable def FR:s0->Option V
 |.none=>some .non
 |.bool b=>some (.bl b)
 |.int i _=>some (.int i)
 |.str x _=>some (.str x)
 |.bytes b _=>some (.byt b)
 |.float b _=>some (.flt b)
 |.ref a=>some (.ref a)
 |.type n=>some (.ty n)
 |_=>none
theorem aX.abs{x:V}{u:s0}(r:aX x u):FR u=some x:=by
 cases x with
 |non=>cases r;rfl
 |bl _=>cases r;rfl
 |int _=>obtain⟨t,rfl⟩:=r;rfl
 |str _=>obtain⟨t,rfl⟩:=r;rfl
 |byt _=>obtain⟨t,rfl⟩:=r;rfl
 |flt _=>obtain⟨t,rfl⟩:=r;rfl
 |ref _=>cases r;rfl
 |ty _=>cases r;rfl
theorem aX.inj{x y:V}{u:s0}(r:aX x u) (q:aX y u):x=y:=P9 (r.abs.symm.trans q.abs)
theorem aE.inj:∀{xs ys:List V}{us:List s0},aE xs us->aE ys us->xs=ys
 |_,_,_,.nil,.nil=>rfl
 |_,_,_,.cons r t,.cons r' t'=>by rw[r.inj r',aE.inj t t']
section
variable{X:Cx}{af:List (F9×Obj)}{σ:St}{H:Hp}{s:F2}{a:F9}{xs ys:List V}
theorem SqL.of{K:F0}(h:H a=some (.lst xs)):SqL K H a xs:=.inl (.inl h)
theorem SqT.of{K:F0}(h:H a=some (.tup xs)):SqT K H a xs:=.inl (.inl h)
theorem Inv.list(I:Inv X af σ H s) (h:SqL X.K H a xs):∃its:List s0,aE xs its/\PlainL s.heap a its.toArray/\xs.length<=I0:=by
 rcases h with h|⟨o,its,n,hk,hc,hd,hs,hz,r⟩
 ·obtain⟨z,its,n,r,e⟩:=h.ok I.hok;exact⟨its,r,⟨_,n,e,rfl,rfl,rfl⟩,z⟩
 ·refine⟨its.toList,r,⟨o,n,I.kIn a o hk,hc,hd,by simpa using hs⟩,?_⟩;have e:=r.length;simp only[K3]at e
  lia
theorem Inv.tuple(I:Inv X af σ H s) (h:SqT X.K H a xs):∃its:List s0,aE xs its/\ap8 s.heap a its.toArray/\xs.length<=I0:=by
 rcases h with h|⟨o,its,n,hk,hc,hs,hz,r⟩
 ·obtain⟨z,its,r,p⟩:=h.ok I.hok;exact⟨its,r,p.tup,z⟩
 ·refine⟨its.toList,r,⟨o,I.kIn a o hk,hc.1,n,by simpa using hs⟩,?_⟩;have e:=r.length;simp only[K3]at e
  lia
theorem Inv.list_inj(I:Inv X af σ H s) (h:SqL X.K H a xs) (h':SqL X.K H a ys):xs=ys:=by
 obtain⟨its,r,⟨o,n,e,_,_,d⟩,_⟩:=I.list h;obtain⟨its',r',⟨o',n',e',_,_,d'⟩,_⟩:=I.list h';rw[e]at e';cases e';rw[d]at d';injection d' with d1 _
 have:its=its':=by simpa using congrArg Array.toList d1
 subst this;exact r.inj r'
theorem Inv.tuple_inj(I:Inv X af σ H s) (h:SqT X.K H a xs) (h':SqT X.K H a ys):xs=ys:=by
 obtain⟨its,r,⟨o,e,_,n,d⟩,_⟩:=I.tuple h;obtain⟨its',r',⟨o',e',_,n',d'⟩,_⟩:=I.tuple h';rw[e]at e';cases e';rw[d]at d';injection d' with d1 _
 have:its=its':=by simpa using congrArg Array.toList d1
 subst this;exact r.inj r'
end
abbrev Cx.wish(X:Cx) (E:s0->F2->Prop):Cx:={ X with xe:=E }
abbrev Cx.nox(X:Cx):Cx:=X.wish fun _ _=>False
theorem Cx.Ok.wish{X:Cx}(ok:X.Ok) (E:s0->F2->Prop):(X.wish E).Ok :=
 ⟨ok.mod,ok.kind,ok.glob,ok.blt,ok.above,ok.inj,ok.has,ok.cab,ok.hd,ok.frames,ok.stk,ok.exf,ok.bs,ok.bsz,ok.noex,ok.exfs,ok.funs,ok.frf⟩
theorem Cx.Ok.unwish{X:Cx}{E:s0->F2->Prop}(ok:(X.wish E).Ok):X.Ok :=
 ⟨ok.mod,ok.kind,ok.glob,ok.blt,ok.above,ok.inj,ok.has,ok.cab,ok.hd,ok.frames,ok.stk,ok.exf,ok.bs,ok.bsz,ok.noex,ok.exfs,ok.funs,ok.frf⟩
section
variable{X:Cx}{af:List (F9×Obj)}{σ:St}{H:Hp}{s:F2}{E:s0->F2->Prop}
theorem Inv.wish(I:Inv X af σ H s) (E:s0->F2->Prop):Inv (X.wish E) af σ H s:=⟨I.ok.wish E,I.os,I.bare,I.base,I.loc,I.cell,I.free,I.freeC,I.pin,I.hok,I.len⟩
theorem Inv.unwish(I:Inv (X.wish E) af σ H s):Inv X af σ H s:=⟨I.ok.unwish,I.os,I.bare,I.base,I.loc,I.cell,I.free,I.freeC,I.pin,I.hok,I.len⟩
theorem SP.unwish{D:nH}{f:Flow}{s':F2}(h:SP (X.wish E) af D f s'):SP X af D f s':=by
 cases f with
 |next=>obtain⟨σ',H',I,q⟩:=h;exact⟨σ',H',I.unwish,q⟩
 |brk=>obtain⟨σ',H',I,q⟩:=h;exact⟨σ',H',I.unwish,q⟩
 |cont=>obtain⟨σ',H',I,q⟩:=h;exact⟨σ',H',I.unwish,q⟩
 |ret u=>obtain⟨v,σ',H',I,r,q⟩:=h;exact⟨v,σ',H',I.unwish,r,q⟩
theorem PSs.nox{st:List aa1}{t:TS}(h:PSs X.nox st t):PSs X st t:=fun af s σ H D I hw =>
 Q8 (h af s σ H D (I.wish _) hw) (fun _ _ q=>q.unwish) fun _ _ z=>U1 z
end
section
variable{X:Cx}{st:aa1}{rest:List aa1}{t u:TS}{e:O3}{te:TE}{pos:Pos}
def D5:TS:=fun D σ H=>D.nx σ H
def Fk(t u:TS):TS:=fun D σ H=>t { D with nx:=u D } σ H
theorem uH:PSs X [] D5:=fun _ _ σ H _ I h=>aj1 ⟨σ,H,I,h⟩
theorem lO(h1:PS X st t) (h2:PSs X rest u):PSs X (st::rest) (Fk t u):=by
 intro af s σ H D I h;refine wpAny_execs_cons (thn (h1 af s σ H { D with nx:=u D } I h) fun f s1 q=>?_);cases f with
 |next =>
  obtain⟨σ',H',I',q⟩:=q;exact h2 af s1 σ' H' D I' q
 |ret v=>exact q
 |brk=>exact q
 |cont=>exact q
theorem o7(h1:PS X st t):PSs X [st] t:=by
 intro af s σ H D I h;refine wpAny_execs_cons (thn (h1 af s σ H D I h) fun f s1 q=>?_);cases f with
 |next=>exact aj1 q
 |ret v=>exact q
 |brk=>exact q
 |cont=>exact q
theorem Inv.quiet{af:List (F9×Obj)}{σ:St}{H:Hp}{s:F2}(I:Inv X af σ H s):interactive X.env=false:=by simp[interactive,I.ok.kind]
def EN(te:TE):TS:=fun D σ H=>te σ H fun _ H1=>D.nx σ H1
theorem uX(he:PE X e te) (hs:ah9 e none pos.line X.env=af5 false:=by rfl):PS X (.Expr e pos) (EN te):=by
 intro af s σ H D I h;exact wpAny_Expr_any (thn (he af s σ H _ I h) fun v s1 hup=>hup.el fun x H1 I1 r1 q1=>⟨σ,H1,I1,q1⟩) I.quiet hs
def Fy(te:TE):TS:=fun D σ H=>te σ H D.rt
theorem sA(he:PE X e te):PS X (.Return (some e) pos) (Fy te):=by
 intro af s σ H D I h;exact wpAny_Return_some (thn (he af s σ H _ I h) fun v s1 hup=>hup.el fun x H1 I1 r1 q1=>⟨x,σ,H1,I1,r1,q1⟩)
def FS(c:TT) (t u:TS):TS:=fun D σ H=>c σ H fun b H1=>if b=true then t D σ H1 else u D σ H1
theorem By{c:O3}{a b:List aa1}{tc:TT}(hc:PT X c tc) (ha:PSs X a t) (hb:PSs X b u):PS X (.If c a b pos) (FS tc t u):=by
 intro af s σ H D I h;refine wpAny_If (thn (hc af s σ H _ I h) fun d s1 hup=>hup.el fun H1 I1 q1=>?_);cases d with
 |true=>exact ha af s1 σ H1 D I1 q1
 |false=>exact hb af s1 σ H1 D I1 q1
end
abbrev TG:=V->St->Hp->(St->Hp->Prop)->Prop
abbrev TGs:=List V->St->Hp->(St->Hp->Prop)->Prop
def PG(X:Cx) (target:O3) (t:TG):Prop :=
 ∀(af:List (F9×Obj)) (s:F2) (σ:St) (H:Hp) (v:V) (u:s0) (Q:St->Hp->Prop),Inv X af σ H s->aX v u->t v σ H Q ->
  J4 (M0 X.prog X.w) X.A (ao8 target X.env u) (fun _ s'=>∃ σ' H',Inv X af σ' H' s'/\Q σ' H') X.xe s
def PGs(X:Cx) (ts:List O3) (t:TGs):Prop :=
 ∀(af:List (F9×Obj)) (s:F2) (σ:St) (H:Hp) (vs:List V) (us:List s0) (Q:St->Hp->Prop),Inv X af σ H s->aE vs us->t vs σ H Q ->
  J4 (M0 X.prog X.w) X.A (assignInOrder ((X6 ts X.env).map (·.2)) us) (fun _ s'=>∃ σ' H',Inv X af σ' H' s'/\Q σ' H') X.xe s
abbrev Cb:=V->V->V->Hp->(Hp->Prop)->Prop
def D4(X:Cx) (t:Cb):Prop :=
 ∀(af:List (F9×Obj)) (s:F2) (σ:St) (H:Hp) (o i v:V) (ov iv u:s0) (Q:Hp->Prop),Inv X af σ H s->aX o ov->aX i iv->aX v u->t o i v H Q ->
  J4 (M0 X.prog X.w) X.A (setItem ov iv u) (fun _ s'=>∃H',Inv X af σ H' s'/\Q H') X.xe s
section
variable{X:Cx}{pos:Pos}
def qW(i:Nat):TG:=fun v σ H Q=>Q (σ.set i (some v)) H
theorem uI{i:Nat}{x:Str}(hN:X.N.Nodup) (hi:X.N[i]?=some x) (hx:Loc X.env.scope x) (hf:X.fn x=true∨X.env.scope.names.lookup x=some .local:=by first|exact .inl rfl|exact .inr rfl|assumption):PG X (.Name x pos) (qW i):=by
 intro af s σ H v u Q I r h;exact wpAny_assign_Name (jS I hN hi hx r (fun s' I'=>⟨_,H,I',h⟩) hf)
def C1:TGs:=fun vs σ H Q=>vs=[]/\Q σ H
def xI(t:TG) (u:TGs):TGs:=fun vs σ H Q=>∃v r,vs=v::r/\t v σ H fun σ' H'=>u r σ' H' Q
theorem ud:PGs X [] C1:=by
 intro af s σ H vs us Q I r h;obtain⟨e,h⟩:=h;subst e;cases r;exact assignInOrder_nil ⟨σ,H,I,h⟩
theorem rg{e:O3}{es:List O3}{t:TG}{u:TGs}(h1:PG X e t) (h2:PGs X es u)
  (hs:(X6 (e::es) X.env).map (·.2)=ao8 e X.env::(X6 es X.env).map (·.2):=by rfl):PGs X (e::es) (xI t u):=by
 intro af s σ H vs us Q I r h;obtain⟨v,vr,e1,h⟩:=h;subst e1;cases r with
 |cons r rr =>
  rw[hs];refine assignInOrder_cons (thn (h1 af s σ H _ _ _ I r h) fun _ s1 ⟨σ1,H1,I1,q1⟩=>?_);exact h2 af s1 σ1 H1 _ _ Q I1 rr q1
def Dn(K:F0) (n:Nat) (t:TGs):TG:=fun v σ H Q=>∃a xs,v=.ref a/\SqT K H a xs/\xs.length=n/\t xs σ H Q
theorem yJ{es:List O3}{k:Nat}{t:TGs}{n:Nat}(hc:X.calm=true) (h:PGs X es t)
  (hn:(X6 es X.env).length=n:=by rfl) (hst:(X6 es X.env).findIdx? (·.1)=none:=by rfl):PG X (.Tuple es k pos) (Dn X.K n t):=by
 intro af s σ H v u Q I r hw;obtain⟨a,xs,e1,hq,hl,hw⟩:=hw;subst e1;cases r;obtain⟨its,rv,ht,hz⟩:=I.tuple hq;refine assign_Tuple_tuple (I.ok.hd hc) ht (by simp[hn,<-hl,rv.length]) hst fun h' hx=>?_;have I1:Inv X af σ H { s with heap:=h' }:=I.kept (t':=s.toks) fun b o e=>hx b o (L6 (J8 e)) e;exact h af _ σ H xs _ Q I1 (by simpa using rv) hw
def Fo(to ti:TE) (t:Cb):TG:=fun v σ H Q=>to σ H fun o H1=>ti σ H1 fun i H2=>t o i v H2 fun H3=>Q σ H3
theorem CV{o i:O3}{to ti:TE}{t:Cb}(ho:PE X o to) (hi:PE X i ti) (hs:D4 X t)
  (ha:∀ v,ao8 (.Subscript o i pos) X.env v = (do
   let ov <-ak1 [v] (ab7 o X.env)
   let iv <-ak1 [v,ov] (ab7 i X.env)
   aq7 pos
   ak1 [v,ov,iv] (setItem ov iv v)
   release [v,ov,iv] []):=by intro _;rfl):PG X (.Subscript o i pos) (Fo to ti t):=by
 intro af s σ H v u Q I r h;rw[ha];refine o0 (O9 (thn (ho af s σ H _ I h) fun ov s1 hup=>hup.el fun x H1 I1 r1 q1=>?_));refine o0 (O9 (thn (hi af s1 σ H1 _ I1 q1) fun iv s2 hup=>hup.el fun y H2 I2 r2 q2=>?_));refine o0 (ag9 (o0 (O9 (thn (hs af s2 σ H2 x y v ov iv u _ I2 r1 r2 r q2) fun _ s3 ⟨H3,I3,q3⟩=>?_))));exact wpAny_release ⟨σ,H3,I3,q3⟩
def Dq(te:TE) (g:TG):TS:=fun D σ H=>te σ H fun x H1=>g x σ H1 D.nx
theorem xo{tg e:O3}{te:TE}{g:TG}(he:PE X e te) (hg:PG X tg g) (hs:swapsWithSole [tg] e pos.line X.env=af5 false:=by rfl) (hw:swappedStores [tg] e X.env=af5 none:=by rfl)
  (h1:(X6 [tg] X.env).map (·.2)=[ao8 tg X.env]:=by rfl):PS X (.Assign [tg] e pos) (Dq te g):=by
 intro af s σ H D I h;refine wpAny_Assign_stores (thn (he af s σ H _ I h) fun v s1 hup=>hup.el fun x H1 I1 r1 q1=>?_) hs hw;rw[h1];exact thn (hg af s1 σ H1 x v _ I1 r1 q1) fun _ s2 q=>q
theorem BH{i:Nat}{x:Str}{e:O3}{te:TE}{pos':Pos}(hN:X.N.Nodup) (hi:X.N[i]?=some x) (hx:Loc X.env.scope x) (he:PE X e te) (hs:ah9 e (some (.Name x pos')) pos.line X.env=af5 false:=by rfl) (hf:X.fn x=true∨X.env.scope.names.lookup x=some .local:=by first|exact .inl rfl|exact .inr rfl|assumption) :
  PS X (.Assign [.Name x pos'] e pos) (Dq te (qW i)):=by
 intro af s σ H D I h;refine wpAny_Assign_Name (thn (he af s σ H _ I h) fun v s1 hup=>hup.el fun y H1 I1 r1 q1=>?_) hs;exact jS I1 hN hi hx r1 (fun s2 I2=>⟨_,H1,I2,q1⟩) hf
end
structure It where
 go:Nat->Hp->Prop
 yld:Nat->Hp->V->Hp->Prop
 stop:Nat->Hp->Prop
def j4(X:Cx) (af:List (F9×Obj)) (H:Hp) (b:F9):Prop :=
 H b=none/\b≠X.env.locals/\b∉X.fs/\(b∈X.ex∨X.s₀.heap.objs.size<=b)/\(∀x c,X.env.cells.lookup x=some c->c≠b)/\∀p∈X.pn++af,p.1≠b
theorem Inv.fpOk{X:Cx}{af:List (F9×Obj)}{σ:St}{H H':Hp}{s:F2}{b:F9}(I:Inv X af σ H s) (hb:s.heap.objs.size<=b) (hn:H' b=none):j4 X af H' b:=by
 refine⟨hn,af9 (J9 I.lt hb),I.nofs hb,.inr (O4 I.sz hb),fun x c e z=>?_,fun p hp z=>?_⟩
 ·obtain⟨v,q⟩:=I.cell x c e;exact absurd (J9 q.lt (by rw[z];exact hb)) (ac0 _)
 ·exact absurd (J9 (J8 (I.pin p hp).1) (by rw[z];exact hb)) (ac0 _)
structure rC(P:K6) (w:Q7) (K:F0) (tg:O3) (J:It) (fp:List F9) (it:F9) (tn:Nat->K5->Prop):Prop where
 mem:it∈fp
 obj:∀i h,tn i h->∀b∈fp,∃o,h.get? b=some o/\∀v,o.data≠.cell v
 keep:∀i h h',tn i h->(∀b∈fp,∀o,h.get? b=some o->h'.get? b=some o)->tn i h'
 item:∀(X:Cx),X.prog=P->X.w=w->X.K=K->X.calm=true->∀(i:Nat) (af:List (F9×Obj)) (s:F2) (σ:St) (H:Hp) (E:s0->F2->Prop),Inv X af σ H s->(∀b∈fp,j4 X af H b)->tn i s.heap->J.go i H ->
  J4 (M0 P w) X.A (an7 (.ref it)) (fun r s1=>∃u,r=some u /\
   J4 (M0 P w) X.A (aj2 tg (.ref it) u) (fun _ s2=>∃x H',Inv X af σ H' s2/\aX x u/\J.yld i H x H'/\tn (i+1) s2.heap/\∀b∈fp,H' b=none) E s1) E s
 done:∀(X:Cx),X.prog=P->X.w=w->X.K=K->X.calm=true->∀(i:Nat) (af:List (F9×Obj)) (s:F2) (σ:St) (H:Hp) (E:s0->F2->Prop),Inv X af σ H s->(∀b∈fp,j4 X af H b)->tn i s.heap->J.stop i H ->
  J4 (M0 P w) X.A (an7 (.ref it)) (fun r s1=>r=none/\Inv X af σ H s1) E s
 self:∀(A:N6) (i:Nat) (s:F2) (Q:s0->F2->Prop) (E:s0->F2->Prop),tn i s.heap->Q (.ref it) s->J4 (M0 P w) A (aq6 (.ref it)) Q E s
abbrev TI:=St->Hp->(It->Hp->Prop)->Prop
def PIE(X:Cx) (af:List (F9×Obj)) (σ:St) (tg:O3) (R:It->Hp->Prop) (itv:s0) (s2:F2):Prop :=
 ∃(it:F9) (fp:List F9) (tn:Nat->K5->Prop) (J:It) (H':Hp),itv=.ref it/\Inv X af σ H' s2/\rC X.prog X.w X.K tg J fp it tn/\tn 0 s2.heap/\(∀b∈fp,j4 X af H' b)/\R J H'
def PI(X:Cx) (tg iter:O3) (wi:TI):Prop :=
 ∀(af:List (F9×Obj)) (s:F2) (σ:St) (H:Hp) (R:It->Hp->Prop),Inv X af σ H s->wi σ H R ->
  J4 (M0 X.prog X.w) X.A (ab7 iter X.env) (fun v s1=>J4 (M0 X.prog X.w) X.A (aq6 v) (PIE X af σ tg R) X.xe s1) X.xe s
theorem uW{M:at2}{A:N6}{E:s0->F2->Prop}{s:F2}{tg:O3}{it:F9}{u:s0}{o:Obj}{n:String}{vs:Array s0}{Q:Unit->F2->Prop}(ho:s.heap.get? it=some o) (hc:o.cls=.type n) (hd:o.data=.fields vs)
    (hn:["enumerate","zip","dict_itemiterator","dict_reverseitemiterator","odict_iterator","itertools.zip_longest","itertools.pairwise"].contains n=false) (hQ:Q () s):J4 M A (aj2 tg (.ref it) u) Q E s:=by
  unfold aj2;cases tg<;>first
    |exact u8 hQ
    |(cases u<;>first
        |exact u8 hQ
        | (refine o0 (as5 ho ?_)
           rw[hc,hd];show J4 M A (if(["enumerate","zip","dict_itemiterator","dict_reverseitemiterator","odict_iterator","itertools.zip_longest","itertools.pairwise"].contains n&&vs[0]?==some (Z6 _))=true then _ else _) Q E s;rw[if_neg (by intro h;rw[hn,H0]at h;cases h)];exact u8 hQ))
def Itl(K:F0) (a:F9):It :=
 ⟨fun i H=>∃xs x,SqL K H a xs/\xs[i]?=some x,fun i H x H'=>H'=H/\∀xs,SqL K H a xs->xs[i]?=some x,fun i H=>∃xs,SqL K H a xs/\xs.length<=i⟩
def Itt(K:F0) (a:F9):It :=
 ⟨fun i H=>∃xs x,SqT K H a xs/\xs[i]?=some x,fun i H x H'=>H'=H/\∀xs,SqT K H a xs->xs[i]?=some x,fun i H=>∃xs,SqT K H a xs/\xs.length<=i⟩
def Itr(lo:Int) (n:Nat):It:=⟨fun i _=>i<n,fun i H x H'=>H'=H/\x=.int (lo+i),fun i _=>n<=i⟩
theorem n8{P:K6}{w:Q7}{K:F0}{tg:O3}(a it:F9):rC P w K tg (Itl K a) [it] it (fun i h=>h.IsListIter it a i) where
 mem:=by simp
 obj:=fun i h st b hb=>by
  have e:b=it:=by simpa using hb
  subst e;obtain⟨o,e,c,d⟩:=st;exact⟨o,e,fun v z=>by rw[d]at z;cases z⟩
 keep:=fun i h h' st k=>st.at fun o e=>k it (by simp) o e
 item:=by
  intro X hP hw hK hc i af s σ H E I hf st hg;subst hP hw hK;obtain⟨xs,x,hq,hx⟩:=hg;obtain⟨its,rv,p,hz⟩:=I.list hq;obtain⟨u,hu,ru⟩:=rv.get hx;obtain⟨f0,f1,f2,f3,f4,f5⟩:=hf it (by simp);refine wpAny_pyNext_list_item st p.isList (x:=u) (by simpa using hu) fun h' st' sb=>?_;have I1:Inv X af σ H { s with heap:=h' }:=I.turned (t':=s.toks) (fun b o hb e=>(sb.2 b hb).trans e) f0 f1 f3 f4 f5;obtain⟨o,e,c,d⟩:=id st';exact⟨u,rfl,uW (s:={ s with heap:=h' }) e c d (by decide) ⟨x,H,I1,ru,⟨rfl,fun ys hy=>by rw[I.list_inj hy hq];exact hx⟩,st',fun b hb=>(hf b hb).1⟩⟩
 done:=by
  intro X hP hw hK hc i af s σ H E I hf st hg;subst hP hw hK;obtain⟨xs,hq,hx⟩:=hg;obtain⟨its,rv,p,hz⟩:=I.list hq;obtain⟨f0,f1,f2,f3,f4,f5⟩:=hf it (by simp);have hl:=rv.length;exact wpAny_pyNext_list_end (I.ok.hd hc) st p.isList (by simp;lia) fun h' eb=>⟨rfl,I.turned (t':=s.toks) (fun b o hb e=>eb b o hb e) f0 f1 f3 f4 f5⟩
 self:=fun _ _ _ _ _ st h=>wpAny_pyIter_listiter st h
theorem sD{P:K6}{w:Q7}{K:F0}{tg:O3}(a it:F9):rC P w K tg (Itt K a) [it] it (fun i h=>h.IsTupleIter it a i) where
 mem:=by simp
 obj:=fun i h st b hb=>by
  have e:b=it:=by simpa using hb
  subst e;obtain⟨o,e,c,d⟩:=st;exact⟨o,e,fun v z=>by rw[d]at z;cases z⟩
 keep:=fun i h h' st k=>st.at fun o e=>k it (by simp) o e
 item:=by
  intro X hP hw hK hc i af s σ H E I hf st hg;subst hP hw hK;obtain⟨xs,x,hq,hx⟩:=hg;obtain⟨its,rv,p,hz⟩:=I.tuple hq;obtain⟨u,hu,ru⟩:=rv.get hx;obtain⟨f0,f1,f2,f3,f4,f5⟩:=hf it (by simp);refine wpAny_pyNext_tuple_item st (show s.heap.IsTuple a its.toArray from p) (x:=u) (by simpa using hu) fun h' st' sb=>?_;have I1:Inv X af σ H { s with heap:=h' }:=I.turned (t':=s.toks) (fun b o hb e=>(sb.2 b hb).trans e) f0 f1 f3 f4 f5;obtain⟨o,e,c,d⟩:=id st';exact⟨u,rfl,uW (s:={ s with heap:=h' }) e c d (by decide) ⟨x,H,I1,ru,⟨rfl,fun ys hy=>by rw[I.tuple_inj hy hq];exact hx⟩,st',fun b hb=>(hf b hb).1⟩⟩
 done:=by
  intro X hP hw hK hc i af s σ H E I hf st hg;subst hP hw hK;obtain⟨xs,hq,hx⟩:=hg;obtain⟨its,rv,p,hz⟩:=I.tuple hq;obtain⟨f0,f1,f2,f3,f4,f5⟩:=hf it (by simp);have hl:=rv.length;exact wpAny_pyNext_tuple_end (I.ok.hd hc) st (show s.heap.IsTuple a its.toArray from p) (by simp;lia) fun h' eb=>⟨rfl,I.turned (t':=s.toks) (fun b o hb e=>eb b o hb e) f0 f1 f3 f4 f5⟩
 self:=fun _ _ _ _ _ st h=>wpAny_pyIter_tupleiter st h
theorem tm{P:K6}{w:Q7}{K:F0}{tg:O3}(it:F9) (lo:Int) (n:Nat):rC P w K tg (Itr lo n) [it] it (fun i h=>IsRangeIter h it (lo+(i:Nat)*1) ((n:Int)-(i:Nat)) 1) where
 mem:=by simp
 obj:=fun i h st b hb=>by
  have e:b=it:=by simpa using hb
  subst e;exact⟨_,st,fun v z=>by
   have z':ai3 _=au5.cell v:=z;cases z'⟩
 keep:=fun i h h' st k=>k it (by simp) _ st
 item:=by
  intro X hP hw hK hc i af s σ H E I hf st hg;subst hP hw hK;obtain⟨f0,f1,f2,f3,f4,f5⟩:=hf it (by simp);have W:=at6.range (prog:=X.prog) (w:=X.w) (I.ok.hd hc) it lo 1 n;refine W.item i s _ _ hg st fun v h' tk hv st' kk=>?_;obtain⟨t,rfl⟩:=hv;have I1:Inv X af σ H { s with heap:=h',toks:=tk }:=I.turned (fun b o hb e=>kk b o (by simpa using hb) e) f0 f1 f3 f4 f5;refine⟨_,rfl,uW (s:={ s with heap:=h',toks:=tk }) (n:="range_iterator") st' rfl rfl (by decide) ⟨.int (lo+i),H,I1,⟨t,?_⟩,⟨rfl,rfl⟩,st',fun b hb=>(hf b hb).1⟩⟩;rw[Int.mul_one]
 done:=by
  intro X hP hw hK hc i af s σ H E I hf st hg;subst hP hw hK;obtain⟨f0,f1,f2,f3,f4,f5⟩:=hf it (by simp);exact wpAny_pyNext_range_end (I.ok.hd hc) st (by have:n<=i:=hg;lia) fun h' eb=>⟨rfl,I.turned (t':=s.toks) (fun b o hb e=>eb b o hb e) f0 f1 f3 f4 f5⟩
 self:=fun _ _ _ _ _ st h=>wpAny_pyIter_rangeiter st h
section
variable{X:Cx}{tg:O3}
theorem yw{af:List (F9×Obj)}{σ:St}{H:Hp}{s:F2}{R:It->Hp->Prop}{E:s0->F2->Prop}{lo hi:Int}{t u v:Tok}{tk:Nat}(I:Inv X af σ H s) (h1:-(2 ^ 62)<=lo) (h2:lo<2 ^ 62) (h3:-(2 ^ 62)<=hi) (h4:hi<2 ^ 62)
  (q:R (Itr lo (hi-lo).toNat) H):J4 (M0 X.prog X.w) X.A (aq6 (.ref s.heap.objs.size)) (PIE X af σ tg R) E { s with heap:=s.heap.push { cls:=.type "range",data:=.fields #[.int lo t,.int hi u,.int 1 v] },toks:=tk }:=by
 refine wpAny_pyIter_range (IsRange.new ..) (small_one h1 h2 h3 h4) ?_;have I1:Inv X af σ H { s with heap:=s.heap.push { cls:=.type "range",data:=.fields #[.int lo t,.int hi u,.int 1 v] },toks:=tk }:=I.kept fun b o e=>F1 _ e;refine⟨(s.heap.push { cls:=.type "range",data:=.fields #[.int lo t,.int hi u,.int 1 v] }).objs.size,[(s.heap.push { cls:=.type "range",data:=.fields #[.int lo t,.int hi u,.int 1 v] }).objs.size],_,_,H,rfl,
  I1.kept (t':=tk) fun b o e=>F1 _ e,tm _ lo (hi-lo).toNat,?_,fun b hb=>?_,q⟩
 ·have e1:lo+((0:Nat):Int)*1=lo:=by simp
  have e2:(((hi-lo).toNat:Nat):Int)-((0:Nat):Int)=K7.Range.rangeSize lo hi 1:=by rw[rangeSize_one];split<;>lia
  show IsRangeIter _ _ (lo+((0:Nat):Int)*1) ((((hi-lo).toNat:Nat):Int)-((0:Nat):Int)) 1;rw[e1,e2];exact J6 _ rfl
 ·have e:b=(s.heap.push { cls:=.type "range",data:=.fields #[.int lo t,.int hi u,.int 1 v] }).objs.size:=by simpa using hb
  subst e;exact I1.fpOk (F7 _) (I1.hok.fresh (F7 _))
def D3(ta:TA):TI:=fun σ H R=>ta σ H fun vs H1=>∃j:Int,vs=[.int j]/\-(2 ^ 62)<=j/\j<2 ^ 62/\R (Itr 0 j.toNat) H1
theorem vR{a:O3}{ta:TA}{p pos:Pos}(hg:Gl X "range") (hm:X.mg "range"=none) (ha:PA X [a] ta) (hs:F8 [a] X.env=[(false,ab7 a X.env)]:=by rfl):PI X tg (.Call (.Name "range" p) [a] [] pos) (D3 ta):=by
 intro af s σ H R I h;refine Call_ (gN I hg hm boot_range (aa9 (thn (ha pos af s σ H _ I h) fun us s1 hup=>hup.el fun vs H1 I1 r1 q1=>?_) hs rfl));obtain⟨j,e,q1,q2,q⟩:=q1;subst e;cases r1 with
 |cons r rr =>
  cases rr;obtain⟨t,rfl⟩:=r;exact call_range_1 (yw I1 (by lia) (by lia) q1 q2 (by simpa using q))
def FM(wi:TI) (g:TG) (tb:TS):TS:=fun D σ H=>wi σ H fun J H1=>∃W:Nat->Nat->St->Hp->Prop,(∃m,W 0 m σ H1)/\∀i m σ H,W i m σ H ->
 (J.stop i H/\D.nx σ H)∨(J.go i H/\∃N:St->Hp->Prop,(∀ σ' H',N σ' H'->∃m',m'<m/\W (i+1) m' σ' H')/\∀x H',J.yld i H x H'->g x σ H' fun σ2 H2=>tb { D with nx:=N,ct:=N,bk:=D.nx } σ2 H2)
def js(fp:List F9) (h:K5):List (F9×Obj):=fp.filterMap fun b=>(h.get? b).map fun o=>(b,o)
theorem gp{fp:List F9}{h:K5}{b:F9}{o:Obj}(hb:b∈fp) (e:h.get? b=some o):(b,o)∈js fp h:=W4.mpr ⟨b,hb,by rw[e];rfl⟩
theorem n3{fp:List F9}{h:K5}{p:F9×Obj}(hp:p∈js fp h):p.1∈fp/\h.get? p.1=some p.2:=by
 obtain⟨b,hb,e⟩:=W4.mp hp;cases q:h.get? b with
 |none=>rw[q]at e;cases e
 |some o =>
  rw[q]at e;have e':(b,o)=p:=P9 e;subst e';exact⟨hb,q⟩
theorem Inv.pinned{af:List (F9×Obj)}{σ:St}{H:Hp}{s:F2}{fp:List F9}(I:Inv X af σ H s) (hf:∀b∈fp,j4 X af H b) (ho:∀b∈fp,∃o,s.heap.get? b=some o/\∀v,o.data≠.cell v):Inv X (af++js fp s.heap) σ H s :=
 I.pins_of fun p hp=>(K0.mp hp).elim (fun z=>I.pin p (O5 _ z)) fun z=>by
  obtain⟨hb,e⟩:=n3 z;obtain⟨f0,f1,f2,_⟩:=hf p.1 hb;obtain⟨o,e',d⟩:=ho p.1 hb;rw[e]at e';cases e';exact⟨e,f0,f1,f2,d⟩
theorem Inv.unpinned{af pl:List (F9×Obj)}{σ:St}{H:Hp}{s:F2}(I:Inv X (af++pl) σ H s):Inv X af σ H s:=I.pins_of fun p hp=>I.pin p (O5 _ (List.mem_append_left _ hp))
theorem BV{iter:O3}{body:List aa1}{wi:TI}{g:TG}{tb:TS}{pos:Pos}(hp:ad2 (M0 X.prog X.w) X.A X.env X.xe) (hc:X.calm=true) (hi:PI X tg iter wi) (hg:PG X tg g) (hb:PSs X body tb)
  (hs:∀x,Q0 iter X.env x=af5 x:=by intro _;rfl):PS X (.For tg iter body [] pos) (FM wi g tb):=by
 intro af s σ H D I h;refine wpAny_For (thn (hi af s σ H _ I h) fun v s1 h1=>thn h1 fun itv s2 h2=>?_) hs;obtain⟨it,fp,tn,J,H2,e,I2,T,st2,f2,W,⟨m0,w0⟩,turn⟩:=h2;subst e
 -- what stays true of the iterator's objects through the loop
 have stat:∀{H':Hp},(∀b∈fp,H' b=none)->∀b∈fp,j4 X af H' b:=fun hn b hb=>⟨hn b hb,(f2 b hb).2⟩;refine codeAny_forLoop_any (fun n s'=>∃i σ' H',Inv X af σ' H' s'/\tn i s'.heap/\(∀b∈fp,H' b=none)/\W i n σ' H') ?_ m0 ⟨0,σ,H2,I2,st2,fun b hb=>(f2 b hb).1,w0⟩;rintro n s3 ⟨i,σ3,H3,I3,st3,fr3,w3⟩;rcases turn i n σ3 H3 w3 with⟨stop,qn⟩|⟨go,N,hN,step⟩
 ·refine aj3 hp (thn (T.done X rfl rfl rfl hc i af s3 σ3 H3 X.xe I3 (stat fr3) st3 stop) fun r s4 ⟨hr,I4⟩=>?_);subst hr;exact aj1 ⟨σ3,H3,I4,qn⟩
 ·refine aj3 hp (thn (T.item X rfl rfl rfl hc i af s3 σ3 H3 X.xe I3 (stat fr3) st3 go) fun r s4 ⟨u,hr,h4⟩=>?_);subst hr;refine aj3 hp (thn h4 fun _ s5 ⟨x,H5,I5,r5,y5,st5,fr5⟩=>?_);have I5':=I5.pinned (stat fr5) (T.obj _ _ st5);refine aj3 hp (thn (hg _ s5 σ3 H5 x u _ I5' r5 (step x H5 y5)) fun _ s6 ⟨σ6,H6,I6,q6⟩=>?_);refine aj3 hp (thn (hb _ s6 σ6 H6 _ I6 q6) fun f s7 q7=>?_);have again:∀{σ7:St} {H7:Hp},Inv X (af++js fp s5.heap) σ7 H7 s7->N σ7 H7->∃m,m<n/\∃i σ' H',Inv X af σ' H' s7/\tn i s7.heap/\(∀b∈fp,H' b=none)/\W i m σ' H':=fun {σ7 H7} I7 n7=>by
   obtain⟨m',hm,w7⟩:=hN σ7 H7 n7;refine⟨m',hm,i+1,σ7,H7,I7.unpinned,T.keep _ _ _ st5 fun b hb o e=>(I7.pin (b,o) (O5 _ (O5 _ (gp hb e)))).1,fun b hb=>?_,w7⟩;obtain⟨o,e,d⟩:=T.obj _ _ st5 b hb;exact(I7.pin (b,o) (O5 _ (O5 _ (gp hb e)))).2.1
  cases f with
  |next=>obtain⟨σ7,H7,I7,n7⟩:=q7;exact again I7 n7
  |cont=>obtain⟨σ7,H7,I7,n7⟩:=q7;exact again I7 n7
  |brk=>obtain⟨σ7,H7,I7,q7⟩:=q7;exact⟨σ7,H7,I7.unpinned,q7⟩
  |ret v=>obtain⟨x7,σ7,H7,I7,r7,q7⟩:=q7;exact⟨x7,σ7,H7,I7.unpinned,r7,q7⟩
end
abbrev R2:=V->V->Hp->VK->Prop
def OpR(X:Cx) (f:s0->s0->Sem s0) (r:R2):Prop :=
 ∀(af:List (F9×Obj)) (s:F2) (σ:St) (H:Hp) (x y:V) (v u:s0) (Q:VK),Inv X af σ H s->aX x v->aX y u->r x y H Q ->
  J4 (M0 X.prog X.w) X.A (f v u) (EP X af σ Q) X.xe s
def UnR(X:Cx) (f:s0->Sem s0) (r:V->Hp->VK->Prop):Prop :=
 ∀(af:List (F9×Obj)) (s:F2) (σ:St) (H:Hp) (x:V) (v:s0) (Q:VK),Inv X af σ H s->aX x v->r x H Q ->
  J4 (M0 X.prog X.w) X.A (f v) (EP X af σ Q) X.xe s
def dj(X:Cx) (f:s0) (r:List V->Hp->VK->Prop):Prop :=
 ∀(af:List (F9×Obj)) (s:F2) (σ:St) (H:Hp) (xs:List V) (us:List s0) (Q:VK),Inv X af σ H s->aE xs us->r xs H Q ->
  J4 (M0 X.prog X.w) X.A (call f us) (EP X af σ Q) X.xe s
def tOp(r:R2) (ta tb:TE):TE:=fun σ H Q=>ta σ H fun x H1=>tb σ H1 fun y H2=>r x y H2 Q
def tUn(r:V->Hp->VK->Prop) (ta:TE):TE:=fun σ H Q=>ta σ H fun x H1=>r x H1 Q
def rI(C:Int->Int->Prop) (g:Int->Int->V):R2:=fun x y H Q=>∃i j,x=.int i/\y=.int j/\C i j/\Q (g i j) H
def rI0(g:Int->Int->V):R2:=fun x y H Q=>∃i j,x=.int i/\y=.int j/\Q (g i j) H
def rU(g:Int->V):V->Hp->VK->Prop:=fun x H Q=>∃i,x=.int i/\Q (g i) H
section
variable{X:Cx}{a b c:O3}{ta tb tc:TE}{pos:Pos}
theorem CW(ha:PE X a ta) (hb:PE X b tb) {af:List (F9×Obj)}{s:F2}{σ:St}{H:Hp}{R:V->V->Hp->Prop}(I:Inv X af σ H s)
  (h:ta σ H fun x H1=>tb σ H1 fun y H2=>R x y H2) {Q:s0->F2->Prop} {f:s0->s0->Sem s0}
  (hf:∀v u s2 x y H2,Inv X af σ H2 s2->aX x v->aX y u->R x y H2->J4 (M0 X.prog X.w) X.A (f v u) Q X.xe s2) :
  J4 (M0 X.prog X.w) X.A (ab7 a X.env) (fun v s₁=>J4 (M0 X.prog X.w) X.A (ab7 b X.env) (fun u s₂=>J4 (M0 X.prog X.w) X.A (f v u) Q X.xe s₂) X.xe s₁) X.xe s:=by
 refine thn (ha af s σ H _ I h) fun v s1 hup=>hup.el fun x H1 I1 r1 q1=>?_;refine thn (hb af s1 σ H1 _ I1 q1) fun u s2 hup=>hup.el fun y H2 I2 r2 q2=>?_;exact hf v u s2 x y H2 I2 r1 r2 q2
theorem Bl{op:Operator}{r:R2}(ho:OpR X (Z1 op) r) (ha:PE X a ta) (hb:PE X b tb):PE X (.BinOp a op b pos) (tOp r ta tb):=by
 intro af s σ H Q I h;exact wpAny_BinOp (CW ha hb I h fun v u s2 x y H2 I2 rx ry q=>ho af s2 σ H2 x y v u Q I2 rx ry q)
theorem EX{op:UnaryOp}{r:V->Hp->VK->Prop}(ho:UnR X (unaryOp op) r) (ha:PE X a ta):PE X (.UnaryOp op a pos) (tUn r ta):=by
 intro af s σ H Q I h;exact UnaryOp_ (thn (ha af s σ H _ I h) fun v s1 hup=>hup.el fun x H1 I1 r1 q1=>ho af s1 σ H1 x v Q I1 r1 q1)
theorem opI{f:s0->s0->Sem s0}{C:Int->Int->Prop}{g:Int->Int->Int}
  (rule:∀(i j:Int) (t u:Tok) (s:F2) (Q:s0->F2->Prop) (E:s0->F2->Prop),C i j->Q (.int (g i j) s.toks) { s with toks:=s.toks+1 }->J4 (M0 X.prog X.w) X.A (f (.int i t) (.int j u)) Q E s) :
  OpR X f (rI C fun i j=>.int (g i j)):=by
 intro af s σ H x y v u Q I rx ry h;obtain⟨i,j,rfl,rfl,hc,q⟩:=h;obtain⟨t,rfl⟩:=rx;obtain⟨t',rfl⟩:=ry;exact rule i j t t' s _ _ hc ⟨.int (g i j),H,I.tok _,⟨_,rfl⟩,q⟩
theorem EU{f:s0->s0->Sem s0}{g:Int->Int->Int}
  (rule:∀(i j:Int) (t u:Tok) (s:F2) (Q:s0->F2->Prop) (E:s0->F2->Prop),Q (.int (g i j) s.toks) { s with toks:=s.toks+1 }->J4 (M0 X.prog X.w) X.A (f (.int i t) (.int j u)) Q E s) :
  OpR X f (rI0 fun i j=>.int (g i j)):=by
 intro af s σ H x y v u Q I rx ry h;obtain⟨i,j,rfl,rfl,q⟩:=h;obtain⟨t,rfl⟩:=rx;obtain⟨t',rfl⟩:=ry;exact rule i j t t' s _ _ ⟨.int (g i j),H,I.tok _,⟨_,rfl⟩,q⟩
theorem Av{f:s0->s0->Sem s0}{g:Int->Int->Bool}
  (rule:∀(i j:Int) (t u:Tok) (s:F2) (Q:s0->F2->Prop) (E:s0->F2->Prop),Q (.bool (g i j)) s->J4 (M0 X.prog X.w) X.A (f (.int i t) (.int j u)) Q E s) :
  OpR X f (rI0 fun i j=>.bl (g i j)):=by
 intro af s σ H x y v u Q I rx ry h;obtain⟨i,j,rfl,rfl,q⟩:=h;obtain⟨t,rfl⟩:=rx;obtain⟨t',rfl⟩:=ry;exact rule i j t t' s _ _ ⟨.bl (g i j),H,I,rfl,q⟩
def pM(i j:Int):Prop:=0<j/\j<1073741824
def qF(i j:Int):Prop:=0<=j/\j<=1000000/\i.natAbs<2 ^ 64
def kF(i j:Int):Prop:=(-(2 ^ 64)<i/\i<2 ^ 64)∨(-(2 ^ 64)<j/\j<2 ^ 64)
theorem kF.ok{i j:Int}(h:kF i j):IntMulOk i j:=by
 rcases h with⟨h1,h2⟩|⟨h1,h2⟩
 ·exact .of_left (intBits_le_64 h1 h2)
 ·exact .of_right (intBits_le_64 h1 h2)
theorem Dv:OpR X (Z1 .Add) (rI0 fun i j=>.int (i+j)):=EU fun _ _ _ _ _ _ _ q=>add_int q
theorem B3:OpR X (Z1 .Sub) (rI0 fun i j=>.int (i-j)):=EU fun _ _ _ _ _ _ _ q=>sub_int q
theorem BP:OpR X (Z1 .Mult) (rI kF fun i j=>.int (i*j)):=opI fun _ _ _ _ _ _ _ hc q=>mul_int q hc.ok
theorem AL:OpR X (Z1 .FloorDiv) (rI pM fun i j=>.int (i / j)):=opI fun i j _ _ _ _ _ hc q=>by
 have h1:(0:Int)<j:=hc.1;have h2:j<1073741824:=hc.2;exact floordiv_int (by lia) (by rw[Int.fdiv_eq_ediv_of_nonneg i (by lia)];exact q) (.inl (PyProof.noPylong_small (by lia)))
theorem Ci:OpR X (Z1 .Mod) (rI (fun _ j=>0<j) fun i j=>.int (i % j)):=opI fun i j _ _ _ _ _ hc q=>by
 have h1:(0:Int)<j:=hc;exact mod_int' (by lia) (by rw[Int.fmod_eq_emod_of_nonneg i (by lia)];exact q)
theorem B9:OpR X (Z1 .Pow) (rI qF fun i j=>.int (i ^ j.toNat)):=opI fun _ _ _ _ _ _ _ hc q=>pow_int_small hc.1 hc.2.1 hc.2.2 q
theorem unI{f:s0->Sem s0}{g:Int->Int}
  (rule:∀(i:Int) (t:Tok) (s:F2) (Q:s0->F2->Prop) (E:s0->F2->Prop),Q (.int (g i) s.toks) { s with toks:=s.toks+1 }->J4 (M0 X.prog X.w) X.A (f (.int i t)) Q E s) :
  UnR X f (rU fun i=>.int (g i)):=by
 intro af s σ H x v Q I rx h;obtain⟨i,rfl,q⟩:=h;obtain⟨t,rfl⟩:=rx;exact rule i t s _ _ ⟨.int (g i),H,I.tok _,⟨_,rfl⟩,q⟩
theorem Cq:UnR X (unaryOp .USub) (rU fun i=>.int (-i)):=unI fun _ _ _ _ _ q=>neg_int q
end
section
variable{X:Cx}{a b c:O3}{ta tb tc:TE}{pos:Pos}
theorem tX{af:List (F9×Obj)}{σ:St}{H:Hp}{s:F2}{Q:VK}{k k':Bool}(I:Inv X af σ H s) (q:Q (.bl k) H) (e:k=k'):EP X af σ Q (.bool k') s:=by
 subst e;exact⟨.bl k,H,I,rfl,q⟩
theorem E7:OpR X (S4 .Lt) (rI0 fun i j=>.bl (decide (i<j))):=Av fun _ _ _ _ _ _ _ q=>lt_int q
theorem Eu:OpR X (S4 .LtE) (rI0 fun i j=>.bl (decide (i<=j))):=Av fun _ _ _ _ _ _ _ q=>le_int q
theorem Et:OpR X (S4 .Gt) (rI0 fun i j=>.bl (decide (j<i))):=Av fun _ _ _ _ _ _ _ q=>gt_int q
theorem Ee:OpR X (S4 .GtE) (rI0 fun i j=>.bl (decide (j<=i))):=Av fun _ _ _ _ _ _ _ q=>ge_int q
theorem vD:OpR X (S4 .In) (fun x y H Q=>∃i j,x=.str i/\y=.str j/\Q (.bl (!(ae3 j i 0 j.length 1).isEmpty)) H):=by
 intro af s σ H x y v u Q I rx ry h;obtain⟨i,j,rfl,rfl,q⟩:=h;obtain⟨t,rfl⟩:=rx;obtain⟨t',rfl⟩:=ry;exact in_str (tX I q rfl)
theorem AC:OpR X (S4 .IsNot) (fun x y H Q=>y=.non/\Q (.bl (!decide (x=.non))) H):=by
 intro af s σ H x y v u Q I rx ry h;obtain⟨rfl,q⟩:=h;cases ry;refine isnot_none_gen (tX I q ?_);cases x<;>first
  |(cases rx;rfl)
  |(obtain⟨t,rfl⟩:=rx;rfl)
theorem qu:OpR X (S4 .NotIn) (fun x y H Q=>∃i j,x=.str i/\y=.str j/\Q (.bl (!(!(ae3 j i 0 j.length 1).isEmpty))) H):=by
 intro af s σ H x y v u Q I rx ry h;obtain⟨i,j,rfl,rfl,q⟩:=h;obtain⟨t,rfl⟩:=rx;obtain⟨t',rfl⟩:=ry;exact notIn_str (tX I q rfl)
theorem zV{op:CmpOp}{r:R2}(ho:OpR X (S4 op) r) (ha:PE X a ta) (hb:PE X b tb) (hm:ag8 op b=false):PE X (.Compare a [op] [b] pos) (tOp r ta tb):=by
 intro af s σ H Q I h;exact wpAny_Compare1 (CW ha hb I h fun v u s2 x y H2 I2 rx ry q=>ho af s2 σ H2 x y v u Q I2 rx ry q) hm
def Bb(t:TE):TT:=fun σ H Q=>t σ H fun x H'=>∃k,x=.bl k/\Q k H'
theorem AU{op:CmpOp}{r:R2}(ho:OpR X (S4 op) r) (ha:PE X a ta) (hb:PE X b tb) (hm:ag8 op b=false):PT X (.Compare a [op] [b] pos) (Bb (tOp r ta tb)):=by
 intro af s σ H Q I h;refine wpAny_isTrue_Compare1 (thn (ha af s σ H _ I h) fun v s1 hup=>hup.el fun x H1 I1 r1 q1=>thn (hb af s1 σ H1 _ I1 q1) fun u s2 hup=>hup.el fun y H2 I2 r2 q2 =>
  thn (ho af s2 σ H2 x y v u _ I2 r1 r2 q2) fun c s3 ⟨z,H3,I3,r3,k,e,q3⟩=>?_) hm
 subst e;cases r3;exact ad1 ⟨H3,I3,q3⟩
def C8(r r':R2) (ta tb tc:TE):TE:=fun σ H Q=>ta σ H fun x H1=>tb σ H1 fun y H2=>r x y H2 fun z H3=>∃k,z=.bl k /\
 (if k=true then tc σ H3 fun w' H4=>r' y w' H4 Q else Q (.bl false) H3)
theorem yR{op op':CmpOp}{r r':R2}(ho:OpR X (S4 op) r) (ho':OpR X (S4 op') r') (ha:PE X a ta) (hb:PE X b tb) (hc:PE X c tc)
  (hm:lastMarks [op,op'] [b,c]=false:=by with_unfolding_all rfl):PE X (.Compare a [op,op'] [b,c] pos) (C8 r r' ta tb tc):=by
 intro af s σ H Q I h;refine Compare_chain (thn (ha af s σ H _ I h) fun v s1 hup=>hup.el fun x H1 I1 r1 q1=>chain_link (thn (hb af s1 σ H1 _ I1 q1) fun u s2 hup=>hup.el fun y H2 I2 r2 q2 =>
  thn (ho af s2 σ H2 x y v u _ I2 r1 r2 q2) fun d s3 ⟨z,H3,I3,r3,k,e,q3⟩=>?_)) hm
 subst e;cases r3;refine ad1 ?_;cases k with
 |false=>exact ite_ff ⟨.bl false,H3,I3,rfl,q3⟩
 |true=>exact ite_tt (chain_last (thn (hc af s3 σ H3 _ I3 q3) fun w' s4 ⟨z',H4,I4,r4,q4⟩=>ho' af s4 σ H4 y z' u w' Q I4 r2 r4 q4))
theorem kq:(I0:Nat)<2 ^ 63:=by rw[ab0];decide
theorem sZ:OpR X (Z1 .Add) (fun x y H Q=>∃i j,x=.str i/\y=.str j/\i.length+j.length<=I0/\Q (.str (i++j)) H):=by
 intro af s σ H x y v u Q I rx ry h;obtain⟨i,j,rfl,rfl,hz,q⟩:=h;obtain⟨t,rfl⟩:=rx;obtain⟨t',rfl⟩:=ry;exact add_str (fun t' tk=>⟨.str (i++j),H,I.tok _,⟨_,rfl⟩,q⟩) hz
theorem oG{x:V}{us:List s0}(r:aE [x] us):∃u,us=[u]/\aX x u:=by
 cases r with
 |cons r1 r2=>cases r2;exact⟨_,rfl,r1⟩
theorem v8:dj X (.builtin "abs") (fun xs H Q=>∃i,xs=[.int i]/\Q (.int (if i<0 then -i else i)) H):=by
 intro af s σ H xs us Q I r h;obtain⟨i,rfl,q⟩:=h;obtain⟨u,rfl,t,rfl⟩:=oG r;exact call_abs_int fun u tk=>⟨.int (if i<0 then -i else i),H,I.tok _,⟨_,rfl⟩,q⟩
theorem pW:dj X (.type "str") (fun xs H Q=>∃i,xs=[.int i]/\i.natAbs.log2<1920/\Q (.str (at3 i)) H):=by
 intro af s σ H xs us Q I r h;obtain⟨i,rfl,hz,q⟩:=h;obtain⟨u,rfl,t,rfl⟩:=oG r;exact PySem.P.str_of_int hz ⟨.str _,H,I.tok _,⟨_,rfl⟩,q⟩
end
theorem vF{v:V}{u:s0}(r:aX v u):PySem.W.handedIn u=true:=by
 cases v with
 |non=>cases(show u=L8 from r);rfl
 |bl b=>cases(show u=ak0 b from r);rfl
 |int i=>obtain⟨t,e⟩:=(show ∃t,u=at5 i t from r);cases e;rfl
 |str x=>obtain⟨t,e⟩:=(show ∃t,u=ap5 x t from r);cases e;rfl
 |byt b=>obtain⟨t,e⟩:=(show ∃t,u=s0.bytes b t from r);cases e;rfl
 |flt b=>obtain⟨t,e⟩:=(show ∃t,u=s0.float b t from r);cases e;rfl
 |ref a=>cases(show u=L7 a from r);rfl
 |ty n=>cases(show u=O6 n from r);rfl
section
variable{X:Cx}{af:List (F9×Obj)}{σ:St}{H:Hp}{s:F2}{a C dx:F9}{fs:List (Str×V)}{f:Str}{v:V}{A:N6}{E:s0->F2->Prop}
theorem A0{prog:K6}{w:Q7}{env:Env}{e:O3}{f:Str}{pos:Pos}{s:F2}{Q:s0->F2->Prop}(hb:ae4 e f env (ab7 e env)=ab7 e env)
  (h:J4 (M0 prog w) A (ab7 e env) (fun o s₁=>J4 (M0 prog w) A (getAttr o f true) Q E s₁) E s):J4 (M0 prog w) A (ab7 (.Attribute e f pos) env) Q E s :=
 Attribute_any_ h (by rw[arm_eval_Attribute,hb])
end
structure cC(k:Nat) (A:N6):Prop where
 hd:A.handled=none
 dp:A.depth+3*k+5<recursionLimit
 un:A.units+16*k+200<am0
theorem cC.mono{j k:Nat}{A:N6}(r:cC k A) (h:j<=k):cC j A:=⟨r.hd,by have:=r.dp;lia,by have:=r.un;lia⟩
theorem cC.deeper{k:Nat}{A:N6}(r:cC (k+1) A) (env:Env):cC k (A.deeper env) :=
 ⟨r.hd,by have:=r.dp;show A.depth+1+3*k+5<_;lia,by have:=r.un;show A.units+3+16*k+200<_;lia⟩
theorem sX{A:N6}{C:F9}{us:List s0}{kw:List (Str×s0)}:(A.under (.builtin "type.__call__" ⟨.ref C::us,kw⟩)).depth=A.depth+1:=by
 first|rfl|simp[N6.under,at4.weight,at4.isCreation,at4.isGuard,at4.isCaller,at4.frames,at4.isFrame,guardIds]
theorem sM{A:N6}{C:F9}{us:List s0}{kw:List (Str×s0)}:(A.under (.builtin "type.__call__" ⟨.ref C::us,kw⟩)).units=A.units+1:=by
 first|rfl|simp[N6.under,at4.cUnits,at4.frames,at4.isFrame]
theorem cC.make{k:Nat}{A:N6}(r:cC (k+1) A) (C:F9) (us:List s0) (kw:List (Str×s0)):cC k (A.under (.builtin "type.__call__" ⟨.ref C::us,kw⟩)) :=
 ⟨r.hd,by have:=r.dp;rw[sX];lia,by have:=r.un;rw[sM];lia⟩
theorem cC.depth{k:Nat}{A:N6}(r:cC k A):A.depth<recursionLimit:=by have:=r.dp;lia
theorem cC.units{k:Nat}{A:N6}(r:cC k A):A.units+64<am0:=by have:=r.un;lia
def Cj:TA:=fun _ H Q=>Q [] H
def uG(ta:TE) (tr:TA):TA:=fun σ H Q=>ta σ H fun x H1=>tr σ H1 fun xs H2=>Q (x::xs) H2
section
variable{X:Cx}{e:O3}{es:List O3}{te:TE}{t:TA}{pos:Pos}
theorem gx:PA X [] Cj:=fun _ _ _ _ H Q I h=>aa5 ⟨[],H,I,.nil,h⟩
theorem cB(ha:PE X e te) (hr:PA X es t) (hs:F8 (e::es) X.env=(false,ab7 e X.env)::F8 es X.env:=by rfl):PA X (e::es) (uG te t):=by
 intro pos af s σ H Q I h;rw[hs];show J4 _ _ (as4 ((false,ab7 e X.env)::V4 pos (F8 es X.env))) _ _ s;refine ac2 (thn (ha af s σ H _ I h) fun u s1 hup=>hup.el fun x H1 I1 r1 q1=>?_);exact thn (hr pos af s1 σ H1 _ I1 q1) fun us s2 hup=>hup.el fun xs H2 I2 r2 q2=>⟨x::xs,H2,I2,.cons r1 r2,q2⟩
def Fp(t:TA):TE:=fun σ H Q=>t σ H fun xs H1=>xs.length<=I0/\∀p,H1 p=none->Q (.ref p) (upd H1 p (.tup xs))
def Fw(t:TA):TE:=fun σ H Q=>t σ H fun xs H1=>xs.length<=I0/\∀p,H1 p=none->Q (.ref p) (upd H1 p (.lst xs))
theorem C6{x1}(h:PA X es t):PE X (.Tuple es x1 pos) (Fp t):=by
 intro af s σ H Q I hq;refine wpAny_Tuple_spliced (thn (h pos af s σ H _ I hq) fun us s1 ⟨xs,H1,I1,r,z,q⟩=>⟨by rw[<-r.length];exact z,?_⟩);have hf:H1 s1.heap.objs.size=none:=I1.hok.fresh (F7 _);refine⟨.ref s1.heap.objs.size,upd H1 s1.heap.objs.size (.tup xs),I1.laid (t':=s1.toks) (fun b u e=>F1 _ e) (F7 _) ?_,rfl,q _ hf⟩;exact⟨z,us,r,⟨_,J6 _ rfl,rfl,⟨_,rfl⟩,rfl⟩⟩
theorem wQ(h:PA X es t):PE X (.List es pos) (Fw t):=by
 intro af s σ H Q I hq;refine wpAny_List_spliced (thn (h pos af s σ H _ I hq) fun us s1 ⟨xs,H1,I1,r,z,q⟩=>⟨by rw[<-r.length];exact z,?_⟩);have hf:H1 s1.heap.objs.size=none:=I1.hok.fresh (F7 _);refine⟨.ref s1.heap.objs.size,upd H1 s1.heap.objs.size (.lst xs),I1.laid (t':=s1.toks) (fun b u e=>F1 _ e) (F7 _) ?_,rfl,q _ hf⟩;exact⟨z,us,0,r,J6 _ rfl⟩
end
abbrev Sp:=List V->Hp->VK->XK->Prop
abbrev CXT:=List Env->Hp->F2->XK->s0->F2->Prop
structure sy(P:K6) (w:Q7) (K:F0) (mg:Str->Option s0) (base:K5) (A:N6) (outer:List Env) (s:F2) (H:Hp):Prop where
 frames:A.frames=some outer
 mod:Mod K mg base
 bs:∀b o,base.get? b=some o->s.heap.get? b=some o/\H b=none
 bsz:base.objs.size<=s.heap.objs.size
 funs:s.heap.FunFrames base outer
 frf:∀b∈frs outer,H b=none
 hok:HOk P w H s.heap
 bare:am5 s.gens
def CE(outer:List Env) (P:K6) (w:Q7) (H:Hp) (s:F2) (Q:VK) (u:s0) (s':F2):Prop :=
 ∃v H',s'.os=s.os/\am5 s'.gens/\Un (frs outer) [] H H' s.heap s'.heap/\HOk P w H' s'.heap/\aX v u/\Q v H'
def CR(CX:CXT) (outer:List Env) (P:K6) (w:Q7) (H:Hp) (s:F2) (Q:VK) (E:XK) (r:at1) (s':F2):Prop :=
 match r with
 |.ok (.ret u)=>CE outer P w H s Q u s'
 |.ok _=>False
 |.error e=>CX outer H s E e s'
structure a7(P:K6) (w:Q7) (K:F0) (mg:Str->Option s0) (base:K5) (CX:CXT) (k:Nat) (f:F9) (fd:K4) (ps:List Str) (sp:Sp):Prop where
 len:∀vs H Q E,sp vs H Q E->vs.length=ps.length
 run:∀(A:N6) (outer:List Env) (s:F2) (H:Hp) (args:Args) (us:List s0) (vs:List V) (Q:VK) (E:XK),cC k A->sy P w K mg base A outer s H->as6 s fd args (ps.zip us)->aE vs us->sp vs H Q E ->
  ah6 (M0 P w) A (.call (.ref f) args) (CR CX outer P w H s Q E) s
theorem sy.make{P:K6}{w:Q7}{K:F0}{mg:Str->Option s0}{base:K5}{A:N6}{outer:List Env}{s:F2}{H:Hp}(e:sy P w K mg base A outer s H) (C:F9) (us:List s0) (kw:List (Str×s0)) :
  sy P w K mg base (A.under (.builtin "type.__call__" ⟨.ref C::us,kw⟩)) outer s H:=⟨by first|exact e.frames|(simpa[N6.under,at4.envs,at4.isFrame,pushEnvs]using e.frames),e.mod,e.bs,e.bsz,e.funs,e.frf,e.hok,e.bare⟩
section
variable{X:Cx}{af:List (F9×Obj)}{σ:St}{H:Hp}{s s':F2}
theorem Inv.env0(I:Inv X af σ H s):sy X.prog X.w X.K X.mg X.base X.A X.stack s H :=
 ⟨I.ok.frames,I.ok.mod,I.bs,O4 I.ok.bsz I.sz,I.stack,I.stkFree,I.hok,I.bare⟩
theorem Inv.after{Q:VK}{u:s0}(I:Inv X af σ H s) (h:CE X.stack X.prog X.w H s Q u s'):EP X af σ Q u s':=by
 obtain⟨v,H',os,bare,un,hok,r,q⟩:=h;obtain⟨hh,g,d,t,os'⟩:=s';obtain rfl:os'=s.os:=os;exact⟨v,H',I.call (h':=hh) (g':=g) (d':=d) (t':=t) (ch:=[]) un hok bare (fun b z=>absurd z (by simp)),r,q⟩
end
def Eb(sp:Sp) (dvs:List V) (E:XK) (t:TA):TE:=fun σ H Q=>t σ H fun vs H1=>sp (vs++dvs) H1 Q E
def cZ(K:F0) (fd:K4) (ps:List Str) (ds:List s0):Prop :=
 ∀(s:F2) (us:List s0),K.In s.heap->(us++ds).length=ps.length->as6 s fd ⟨us,[]⟩ (ps.zip (us++ds))
theorem cZ.all{K:F0}{fd:K4}{ps:List Str}(h:∀us:List s0,us.length=ps.length->bindArgs fd ⟨us,[]⟩=af5 (ps.zip us)):cZ K fd ps []:=fun s us _ hl=>by
 rw[ab1]at hl ⊢;exact .of_eq (h us hl)
def sG(CX:CXT) (X:Cx) (E:XK):Prop:=∀(af:List (F9×Obj)) (σ:St) (H:Hp) (s:F2) (e:s0) (s':F2),Inv X af σ H s->CX X.stack H s E e s'->X.xe e s'
section
variable{X:Cx}{CX:CXT}{k:Nat}{f C:F9}{fd:K4}{ps:List Str}{sp:Sp}{dvs:List V}{ds:List s0}{E:XK}{x m:Str}{p pos iZ:Pos}{e o:O3}{es:List O3}{ta:TE}{t:TA}
theorem Dt{af:List (F9×Obj)}{σ:St}{H:Hp}{s:F2}{Q:VK}{us:List s0}{vs:List V}(F:a7 X.prog X.w X.K X.mg X.base CX k f fd ps sp) (hr:cC k X.A) (hb:cZ X.K fd ps ds) (hd:aE dvs ds) (hx:sG CX X E)
  (I:Inv X af σ H s) (r:aE vs us) (h:sp (vs++dvs) H Q E):J4 (M0 X.prog X.w) X.A (call (.ref f) us) (EP X af σ Q) X.xe s:=by
 have r2:aE (vs++dvs) (us++ds):=r.append hd;have hl:(us++ds).length=ps.length:=by rw[<-r2.length];exact F.len _ _ _ _ h
 refine af4 (aa4 (F.run X.A X.stack s H ⟨us,[]⟩ (us++ds) (vs++dvs) Q E hr I.env0 (hb s us I.kIn hl) r2 h) fun r s' hq=>?_);cases r with
 |error e=>exact hx af σ H s e s' I hq
 |ok fl =>
  cases fl with
  |ret u=>exact I.after hq
  |next=>exact U1 hq
  |brk=>exact U1 hq
  |cont=>exact U1 hq
theorem ut(F:a7 X.prog X.w X.K X.mg X.base CX k f fd ps sp) (hr:cC k X.A) (hg:Gl X x) (hm:X.mg x=some (.ref f)) (hk:W3 X.K (.ref f)=true) (hb:cZ X.K fd ps ds) (hd:aE dvs ds) (hx:sG CX X E)
  (ha:PA X (e::es) t) (hdb:(x==("__debug__":Str))=false:=by decide) (he:F8 (e::es) X.env=(false,ab7 e X.env)::F8 es X.env:=by rfl) (hpl:(V4 pos (F8 es X.env)).any (·.1)=false:=by rfl) :
  PE X (.Call (.Name x p) (e::es) [] pos) (Eb sp dvs E t):=by
 intro af s σ H Q I h;refine U0 (jV I hg hm ?_ hdb);refine PySem.W.callWith_K (h₀:=X.base) I.ok.mod.kin hk (thn (ha pos af s σ H _ I h) fun us s1 hup=>hup.el fun vs H1 I1 r q=>⟨I1.kIn,?_⟩) he hpl;exact Dt F hr hb hd hx I1 r q
end
structure ay(N P:List Str) (sc:af8):Prop where
 kind:sc.kind=.function
 co:sc.isCoroutine=false
 gen:sc.isGenerator=false
 nd:N.Nodup
 pre:N.take P.length=P
 par:∀x∈P,sc.names.lookup x=some .local∨sc.names.lookup x=some .cell
 nofree:∀y∈sc.names,y.2≠.free
theorem oU{ao9:Str->Option U2}{x:Str}:∀{binds:List (Str×s0)}{m:Str->Option s0},(∀v,(x,v)∉binds)->bindL ao9 binds m x=m x
 |[],_,_=>rfl
 |(n,v)::r,m,h=>by
  unfold bindL;rw[oU fun w hw=>h w (O0 _ hw)]
  split
  ·have:x≠n:=by rintro rfl;exact h v R5
   simp[this]
  ·rfl
theorem oK{ao9:Str->Option U2}{x:Str}:∀{binds:List (Str×s0)}{m:Str->Option s0},(∀v,(x,v)∉binds)->bindC ao9 binds m x=m x
 |[],_,_=>rfl
 |(n,v)::r,m,h=>by
  unfold bindC;rw[oK fun w hw=>h w (O0 _ hw)]
  split
  ·rfl
  ·have:x≠n:=by rintro rfl;exact h v R5
   simp[this]
theorem oF{ao9:Str->Option U2}{x:Str}{v:s0}:∀{P:List Str}{vs:List s0}{i:Nat}{m:Str->Option s0},P.Nodup->P[i]?=some x->vs[i]?=some v->ao9 x=some .local ->
  bindL ao9 (P.zip vs) m x=some v
 |[],_,_,_,_,h,_,_=>by simp at h
 |_::_,[],_,_,_,_,h,_=>by simp at h
 |p::P,w::vs,0,m,nd,h1,h2,hk=>by
  simp at h1 h2;subst h1;subst h2;show bindL ao9 ((p,w)::P.zip vs) m p=_;unfold bindL;rw[oU fun v hv=>(ad3.mp nd).1 (List.of_mem_zip hv).1,if_pos hk];simp
 |p::P,w::vs,i+1,m,nd,h1,h2,hk=>by
  show bindL ao9 ((p,w)::P.zip vs) m x=_;unfold bindL;exact oF (i:=i) (ad3.mp nd).2 (by simpa using h1) (by simpa using h2) hk
theorem oA{ao9:Str->Option U2}{x:Str}{v:s0}:∀{P:List Str}{vs:List s0}{i:Nat}{m:Str->Option s0},P.Nodup->P[i]?=some x->vs[i]?=some v->ao9 x≠some .local ->
  bindC ao9 (P.zip vs) m x=some v
 |[],_,_,_,_,h,_,_=>by simp at h
 |_::_,[],_,_,_,_,h,_=>by simp at h
 |p::P,w::vs,0,m,nd,h1,h2,hk=>by
  simp at h1 h2;subst h1;subst h2;show bindC ao9 ((p,w)::P.zip vs) m p=_;unfold bindC;rw[oK fun v hv=>(ad3.mp nd).1 (List.of_mem_zip hv).1,if_neg hk];simp
 |p::P,w::vs,i+1,m,nd,h1,h2,hk=>by
  show bindC ao9 ((p,w)::P.zip vs) m x=_;unfold bindC;exact oA (i:=i) (ad3.mp nd).2 (by simpa using h1) (by simpa using h2) hk
def gR(N:List Str) (vs:List V):St:=vs.map some++J7 (N.length-vs.length) none
noncomputable def mn(CX:CXT) (P:K6) (w:Q7) (K:F0) (mg:Str->Option s0) (base:K5) (N:List Str) (qual:Str) (scope:af8) (f:F9) (cd:s0) (A:N6) (outer:List Env) (s:F2) (H:Hp) (E:XK):Cx where
 prog:=P
 w:=w
 K:=K
 mg:=mg
 base:=base
 A:=A.deeper (aj4 qual scope s.heap.objs.size f cd)
 N:=N
 s₀:=s
 H₀:=H
 env:=aj4 qual scope s.heap.objs.size f cd
 outer:=outer
 stack:=aj4 qual scope s.heap.objs.size f cd::outer
 ex:=[]
 calm:=true
 fn:=fun _=>true
 pn:=[]
 xe:=fun e s'=>J4 (M0 P w) (A.deeper (aj4 qual scope s.heap.objs.size f cd)) (leaving (aj4 qual scope s.heap.objs.size f cd) e) (fun _ s''=>CX outer H s E e s'') (fun e' s''=>CX outer H s E e' s'') s'
theorem qy{sc:af8}{n:Nat}{x:Str}(h:sc.names.lookup x=some .cell):∃c,(at7 n sc.names []).lookup x=some c:=by
 have q:=PySem.W.cellsFrom_some sc.names n [] (.inl h);exact Z8.mp q
theorem vE{CX:CXT}{P:K6}{w:Q7}{K:F0}{mg:Str->Option s0}{base:K5}{N ps:List Str}{qual:Str}{scope:af8}{f:F9}{cd:s0}{A:N6}{outer:List Env}{s s1:F2}{H:Hp}{E:XK}{us:List s0}{vs:List V}
  (S:ay N ps scope) (hd:A.handled=none) (e0:sy P w K mg base A outer s H) (hl:vs.length=ps.length) (r:aE vs us)
  (x:InCallC s s.heap.objs.size (bindL (aj4 qual scope s.heap.objs.size f cd).kindOf (ps.zip us) fun _=>none) (at7 (s.heap.objs.size+1) scope.names []) (bindC (aj4 qual scope s.heap.objs.size f cd).kindOf (ps.zip us) fun _=>none) s1) :
  Inv (mn CX P w K mg base N qual scope f cd A outer s H E) [] (gR N vs) H s1:=by
 have hpl:ps.length<=N.length:=by have:=congrArg an8 S.pre;rw[P4]at this;lia
 obtain⟨h1,tk,rfl,hk⟩:=x.done;have noA:∀b:F9,b∉(mn CX P w K mg base N qual scope f cd A outer s H E).ex:=fun b z=>absurd (show b∈([]:List F9)from z) (by simp);refine⟨⟨e0.mod,S.kind,rfl,rfl,F7 _,fun y z c h1 h2=>?_,fun y hy=>?_,fun y c _ h=>?_,fun _=>hd,N6.frames_deeper e0.frames,.inr ⟨rfl,rfl⟩,fun b z=>absurd z (noA b),e0.bs,e0.bsz,fun b _ _=>noA b,fun b z=>absurd z (noA b),e0.funs,e0.frf⟩,
  rfl,e0.bare,Un.kept hk,⟨_,x.toInCall.ns,fun i y v h1 h2 h3=>?_⟩,fun y c h=>⟨_,x.cell y c h⟩,e0.hok.fresh (F7 _),fun y c h=>?_,fun p hp=>absurd (show p∈([]:List (F9×Obj))from hp) (by simp),e0.hok.kept hk,?_⟩
 ·exact name_of_addr x.apart (U3 h1) (U3 h2)
 ·have hy:scope.names.lookup y=some .cell∨scope.names.lookup y=some .free:=hy;rcases hy with hy|hy
  ·exact qy hy
  ·exact absurd rfl (S.nofree _ (U3 hy))
 ·exact al9 (x.above y c (U3 h))
 ·have hi:i<vs.length:=by
   unfold gR at h2
   by_cases hi:i<vs.length
   ·exact hi
   ·rw[X3 (by simpa using hi)]at h2;rw[ae5]at h2
    split at h2<;>cases h2
  have ha:vs[i]?=some v:=by
   unfold gR at h2;rw[T5 (by simpa using hi),N0]at h2;cases e:vs[i]? with
   |none=>rw[e]at h2;cases h2
   |some a=>rw[e]at h2;cases h2;rfl
  obtain⟨u,hu,rv⟩:=r.get ha;have hp:ps[i]?=some y:=by
   rw[<-S.pre,Z9 (by lia)];exact h1
  have ndP:ps.Nodup:=by rw[<-S.pre];exact S.nd.sublist (List.take_sublist _ _)
  refine⟨u,rv,?_⟩;rcases S.par y (R4 hp)with k|k
  ·exact .inl ⟨k,oF ndP hp hu k⟩
  ·obtain⟨c,e⟩:=qy (n:=s.heap.objs.size+1) k;refine .inr ⟨.inl k,c,e,?_⟩;have q:=x.cell y c e;rw[oA ndP hp hu (by show scope.names.lookup y≠_;rw[k];decide)]at q;exact q
 ·exact e0.hok.fresh (al9 (x.above y c (U3 h)))
 ·unfold gR;show _=N.length;rw[J1,F3,List.length_replicate]
  lia
theorem Bk{CX:CXT}{P:K6}{w:Q7}{K:F0}{mg:Str->Option s0}{base:K5}{k:Nat}{f:F9}{name qual:Str}{params:Arguments}{body:List aa1}{scope:af8}{dV kV doc pm cdv ct oc:s0}{an od:Option F9}
  {osl:Array (Option s0)} {N ps:List Str} {sp:Sp} (lk:K.lookup f=some ⟨oc,od,.func (ac3 name qual params body scope dV kV doc pm an cdv ct),osl⟩) (hcd:al4 K cdv qual=true) (S:ay N ps scope)
  (len:∀vs H Q E,sp vs H Q E->vs.length=ps.length)
  (hbody:∀ (A:N6) (outer:List Env) (s:F2) (H:Hp) (vs:List V) (Q:VK) (E:XK),cC k (A.deeper (aj4 qual scope s.heap.objs.size f cdv)) → sp vs H Q E →
   ∃t,PSs (mn CX P w K mg base N qual scope f cdv A outer s H E) body t/\t { nx:=fun _ H'=>Q .non H',rt:=Q } (gR N vs) H) :
  a7 P w K mg base CX (k+1) f (ac3 name qual params body scope dV kV doc pm an cdv ct) ps sp:=by
 refine⟨len,fun A outer s H args us vs Q E hr e0 hb r hsp=>?_⟩;have hl:=len _ _ _ _ hsp;have KX:K.In s.heap:=e0.mod.kin.keeps fun b o e=>(e0.bs b o e).1;have lim:s.heap.NoLimit:=e0.mod.nolimit.keeps fun b o e=>(e0.bs b o e).1;have hkind:∀y∈ps.zip us,scope.names.lookup y.1=some .local∨(scope.names.lookup y.1=some .cell/\((at7 (s.heap.objs.size+1) scope.names []).lookup y.1).isSome=true):=fun⟨n,v⟩ hy=>by
  rcases S.par n (List.of_mem_zip hy).1 with q|q
  ·exact .inl q
  ·exact .inr ⟨q,PySem.W.cellsFrom_some _ _ _ (.inl q)⟩
 refine codeAny_call_function hr.depth (KX _ _ lk) rfl S.co S.gen rfl (PySem.W.codeRec_of KX hcd) (hb _ _ _ _ ?_);refine wpAny_newFunctionEnv_cells S.kind hkind fun env he s1 x=>?_;subst he;refine⟨lim.keeps x.toInCall.keep,codeAny_func ?_⟩;obtain⟨t,ht,hq⟩:=hbody A outer s H vs Q E (hr.deeper _) hsp;have I:Inv (mn CX P w K mg base N qual scope f cdv A outer s H E) [] (gR N vs) H s1:=vE S hr.hd e0 hl r x;refine Q8 (ht [] s1 (gR N vs) H _ I hq) (fun fl s' hs=>?_) fun e s' hs=>hs;have fin:∀{σ':St} {H':Hp} {v:V} {u:s0},Inv (mn CX P w K mg base N qual scope f cdv A outer s H E) [] σ' H' s'->aX v u->Q v H'->CE outer P w H s Q u s' :=
  fun {σ' H' v u} J rv q=>⟨v,H',J.os,J.bare,J.base,J.hok,rv,q⟩
 cases fl with
 |ret u =>
  obtain⟨v,σ',H',J,rv,q⟩:=hs;exact fin J rv q
 |next =>
  obtain⟨σ',H',J,q⟩:=hs;exact fin (v:=V.non) (u:=L8) J rfl q
 |brk =>
  obtain⟨_,_,_,q⟩:=hs;exact U1 q
 |cont =>
  obtain⟨_,_,_,q⟩:=hs;exact U1 q
section
variable{X:Cx}{x:Str}{p pos:Pos}{e:O3}{es:List O3}{t:TA}{id T:String}{r:List V->Hp->VK->Prop}
def tCB(r:List V->Hp->VK->Prop) (t:TA):TE:=fun σ H Q=>t σ H fun vs H1=>r vs H1 Q
theorem jO(hc:dj X (.builtin id) r) (hg:Gl X x) (hm:X.mg x=none) (hv:ac1 x=some (.builtin id)) (ha:PA X (e::es) t) (hn:x≠"__name__":=by decide) (hdb:(x==("__debug__":Str))=false:=by decide)
  (he:F8 (e::es) X.env=(false,ab7 e X.env)::F8 es X.env:=by rfl) (hpl:(V4 pos (F8 es X.env)).any (·.1)=false:=by rfl):PE X (.Call (.Name x p) (e::es) [] pos) (tCB r t):=by
 intro af s σ H Q I h;refine U0 (gN I hg hm hv ?_ hn hdb);exact V6 (thn (ha pos af s σ H _ I h) fun us s1 hup=>hup.el fun vs H1 I1 r1 q1=>hc af s1 σ H1 vs us Q I1 r1 q1) he hpl
theorem vA(hc:dj X (.type T) r) (hg:Gl X x) (hm:X.mg x=none) (hv:ac1 x=some (.type T)) (ha:PA X (e::es) t) (hn:x≠"__name__":=by decide) (hdb:(x==("__debug__":Str))=false:=by decide)
  (he:F8 (e::es) X.env=(false,ab7 e X.env)::F8 es X.env:=by rfl) (hpl:(V4 pos (F8 es X.env)).any (·.1)=false:=by rfl):PE X (.Call (.Name x p) (e::es) [] pos) (tCB r t):=by
 intro af s σ H Q I h;refine U0 (gN I hg hm hv ?_ hn hdb);exact aa9 (thn (ha pos af s σ H _ I h) fun us s1 hup=>hup.el fun vs H1 I1 r1 q1=>hc af s1 σ H1 vs us Q I1 r1 q1) he hpl
end
end L2
namespace HT
open PySem PyProof.Rows
section
open PySem.SeqAt
open PySem.AutoSeq1 (wpAny_loadPart')
open PySem.MeetsSeq PySem.MeetsSeq2 PySem.MeetsSeq3
end
section
variable{prog:K6}{w:Q7}{A:N6}{E:s0->F2->Prop}{s:F2}
theorem cat_tup{t b:F9}{vs ws:List s0}{Q:s0->F2->Prop}(ht:ap8 s.heap t vs.toArray) (hb:ap8 s.heap b ws.toArray) (hv:vs≠[])
  (h1:ws=[]->Q (.ref t) s) (h2:ws≠[]->Q (.ref s.heap.objs.size) { s with heap:=s.heap.push { cls:=.type "tuple",data:=.seq (vs++ws).toArray } })
  (hsz:vs.length+ws.length<=I0):J4 (M0 prog w) A (Z1 .Add (.ref t) (.ref b)) Q E s:=by
 obtain⟨⟨cls,dd,data,sl⟩,ho,hc,n,hd⟩:=id ht;obtain⟨⟨cls2,dd2,data2,sl2⟩,ho2,hc2,n2,hd2⟩:=id hb;simp only at hc hd hc2 hd2;subst hc hd hc2 hd2;have e:vs.toArray++ws.toArray=(vs++ws).toArray:=by simp
 by_cases hw:ws=[]
 ·exact concat_meets ⟨_,ho,rfl⟩ ⟨_,ho2,rfl⟩ noFill_tuple_add seq_tuple_add PySem.F.slot_tuple_add PySem.F.entry_tuple_add (PySem.F.args_tuple_add_2 _ _)
   (tuple_addW1 t b vs.toArray ws.toArray n n2 dd dd2 sl sl2 (by simpa using hv) (by simp[hw])) ⟨ho,ho2,h1 hw⟩
 ·refine concat_meets ⟨_,ho,rfl⟩ ⟨_,ho2,rfl⟩ noFill_tuple_add seq_tuple_add PySem.F.slot_tuple_add PySem.F.entry_tuple_add (PySem.F.args_tuple_add_2 _ _)
   (tuple_addW2 t b vs.toArray ws.toArray n n2 dd dd2 sl sl2 (by simpa using hv) (by simpa using hw) (by rw[J0,J0];exact hsz)) ⟨ho,ho2,?_⟩
  rw[e];exact h2 hw
noncomputable def sIx(n d:Nat):Option Int->Nat
 |none=>d
 |some v=>if v<0 then(v+(n:Int)).toNat else min v.toNat n
theorem sIx_none(n d:Nat):sIx n d none=d:=rfl
theorem sIx_nat(n d k:Nat):sIx n d (some (k:Int))=min k n:=by
 show(if(k:Int)<0 then((k:Int)+(n:Int)).toNat else min (k:Int).toNat n)=min k n;rw[if_neg (by lia),W1]
theorem CP(n d:Nat) (hd:d<=n) (o:Option Int):sIx n d o<=n:=by
 cases o with
 |none=>exact hd
 |some v =>
  show(if v<0 then(v+(n:Int)).toNat else min v.toNat n)<=n
  by_cases hv:v<0
  ·rw[if_pos hv];lia
  ·rw[if_neg hv];exact Nat.min_le_right _ _
theorem uj(v:Int) (n d:Nat):(if v<0 then max (v+(n:Int)) 0 else min v (n:Int))=((sIx n d (some v):Nat):Int):=by
 show(if v<0 then max (v+(n:Int)) 0 else min v (n:Int))=(((if v<0 then(v+(n:Int)).toNat else min v.toNat n):Nat):Int)
 by_cases hv:v<0
 ·simp only[if_pos hv];lia
 ·simp only[if_neg hv];lia
theorem sF(lo hi:Option Int) (n:Nat):K7.Slice.sliceAdjust lo hi 1 (n:Int)=(((sIx n 0 lo:Nat):Int),((sIx n n hi:Nat):Int)):=by
 have h1:¬ ((1:Int)<0):=by lia
 unfold K7.Slice.sliceAdjust;simp only[h1,if_false];refine Prod.ext ?_ ?_
 ·cases lo with
  |none=>rfl
  |some v=>exact uj v n 0
 ·cases hi with
  |none=>rfl
  |some v=>exact uj v n n
theorem tT(i j:Nat):T6 (i:Int) (j:Int) 1=j-i:=by
 unfold T6;have h1:(1:Int) > 0:=by lia
 simp only[h1,if_true,Int.ediv_one]
 split<;>lia
theorem lV{v:s0}{o:Option Int}{Q:Option Int->F2->Prop}(p:as1 v o) (h:Q o s):J4 (M0 prog w) A (K7.Slice.slicePartIndex v) Q E s:=by
 cases p with
 |none=>exact ap1 h
 |int i t=>exact slicePart_int h
theorem fZ{sl:F9}{vl vu:s0}{lo hi:Option Int}{n:Nat}{Q:Int×Int×Nat->F2->Prop}(hs:s.heap.IsSliceOf sl vl vu .none) (pl:as1 vl lo) (pu:as1 vu hi)
  (h:Q (((sIx n 0 lo:Nat):Int),1,sIx n n hi-sIx n 0 lo) s):J4 (M0 prog w) A (ab6 (.ref sl) (af5 (n:Int))) Q E s:=by
 obtain⟨os,hos,hcs,hds⟩:=id hs;unfold ab6 K7.Slice.sliceFields;refine o0 (o0 (ag1 hos hds (x:=vl) rfl (o0 (ag1 hos hds (x:=vu) rfl (o0 (ag1 hos hds (x:=.none) rfl (u8 ?_)))))));refine o0 (ap1 ?_);show J4 _ _ (if((1:Int)==0)=true then _ else _) _ _ s;rw[if_neg (by decide)];refine o0 (lV pl (o0 (lV pu (o0 (u8 ?_)))));show J4 _ _ (match K7.Slice.sliceAdjust lo hi 1 (n:Int)with|(lo,hi)=>af5 (lo,(1:Int),T6 lo hi 1)) _ _ s;rw[sF lo hi n];show J4 _ _ (af5 (((sIx n 0 lo:Nat):Int),(1:Int),T6 ((sIx n 0 lo:Nat):Int) ((sIx n n hi:Nat):Int) 1)) _ _ s;rw[tT];exact u8 h
theorem xl(xs:Array s0) (i k:Nat):((P0 k).filterMap fun(m:Nat)=>xs[((i:Int)+(m:Int)*1).toNat]?).toArray=((xs.toList.drop i).take k).toArray:=by
 have e:(fun(m:Nat)=>xs[((i:Int)+(m:Int)*1).toNat]?)=fun m=>xs[i+m]?:=by
  funext m;have:((i:Int)+(m:Int)*1).toNat=i+m:=by lia
  rw[this]
 rw[e];have:=pick_run xs i k;rw[List.filterMap_map]at this;have e2:((fun x=>xs[x]?)∘fun x=>i+x)=fun m=>xs[i+m]?:=rfl;rw[e2]at this;rw[this]
theorem getItem_tuple_cut{t sl:F9}{items:Array s0}{vl vu:s0}{lo hi:Option Int}{Q:s0->F2->Prop}(ht:ap8 s.heap t items) (hs:s.heap.IsSliceOf sl vl vu .none) (pl:as1 vl lo) (pu:as1 vu hi)
  (hw:¬ (sIx items.size 0 lo=0/\sIx items.size items.size hi=items.size))
  (h:Q (.ref s.heap.objs.size) { s with heap:=s.heap.push { cls:=.type "tuple",data:=.seq ((items.toList.drop (sIx items.size 0 lo)).take (sIx items.size items.size hi-sIx items.size 0 lo)).toArray } })
  (hsz:items.size<=I0):J4 (M0 prog w) A (aq8 (.ref t) (.ref sl)) Q E s:=by
 have htake:sizeOk (.seq ((items.toList.drop (sIx items.size 0 lo)).take (sIx items.size items.size hi-sIx items.size 0 lo)).toArray):=by
  show((items.toList.drop (sIx items.size 0 lo)).take (sIx items.size items.size hi-sIx items.size 0 lo)).toArray.size<=I0;rw[J0,P4,af3,K3]
  lia
 have hj:sIx items.size items.size hi<=items.size:=CP _ _ (F7 _) hi;obtain⟨os,hos,hcs,hds⟩:=id hs;have hTs:s.TypeIs (.ref sl) "slice":=⟨os,hos,hcs⟩;unfold aq8
 try with_reducible refine O9 ?_
 first|refine o0 (u8 ?_)|skip
 refine o0 (wpAny_sequenceKey ht.typeIs (by decide) ?_);refine o0 (V1 (name:=F5 "__getitem__") ht.typeIs P1
  (U7 P1 ht.typeIs entry_tuple_getitem ?_ (args_tuple_getitem _ _)))
 show J4 _ _ (X4 (.ref t) >>= _) _ _ s;refine o0 (an0 ht ?_);refine o0 (ag2 hTs ?_);rw[if_pos (by decide)];refine o0 (fZ hs pl pu ?_);have hno:¬ ((((sIx items.size 0 lo:Nat):Int)==0&&(1:Int)==1&&(sIx items.size items.size hi-sIx items.size 0 lo)==items.size)=true):=by
  intro q;rw[K1,K1]at q;have q1:((sIx items.size 0 lo:Nat):Int)=0:=eq_of_beq q.1.1;have q2:sIx items.size items.size hi-sIx items.size 0 lo=items.size:=eq_of_beq q.2;exact hw ⟨by lia,by lia⟩
 show J4 _ _ (if(((sIx items.size 0 lo:Nat):Int)==0&&(1:Int)==1&&(sIx items.size items.size hi-sIx items.size 0 lo)==items.size)=true then _ else _) _ _ s;rw[if_neg hno,xl]
 first
  |exact o0 (m:=P6 _) (O7 (u8 ⟨_,rfl,u8 h⟩) htake)
  |exact o0 (m:=P6 _) (O7 (o0 (u8 (u8 ⟨_,rfl,u8 h⟩))) htake)
  |exact o0 (o0 (m:=P6 _) (O7 (u8 (u8 ⟨_,rfl,u8 h⟩)) htake))
  |exact o0 (o0 (m:=P6 _) (O7 (u8 ⟨_,rfl,u8 h⟩) htake))
end
end HT
namespace L2
open PySem PySem.Spec PyProof.Rows
abbrev TO:=St->Hp->(Option Int->Hp->Prop)->Prop
def PO(X:Cx) (e:Option O3) (t:TO):Prop :=
 ∀(af:List (F9×Obj)) (s:F2) (σ:St) (H:Hp) (Q:Option Int->Hp->Prop),Inv X af σ H s->t σ H Q ->
  J4 (M0 X.prog X.w) X.A (evalPart e X.env) (fun u s'=>∃o H',Inv X af σ H' s'/\as1 u o/\Q o H') X.xe s
def AN:TO:=fun _ H Q=>Q none H
def EA(t:TE):TO:=fun σ H Q=>t σ H fun x H1=>∃i,x=.int i/\Q (some i) H1
section
variable{X:Cx}{e:O3}{te:TE}{lo hi:Option O3}{tl th:TO}{pos p2:Pos}
theorem Al:PO X none AN:=by
 intro af s σ H Q I h;rw[evalPart_none];exact u8 ⟨none,H,I,.none,h⟩
theorem AB(h:PE X e te):PO X (some e) (EA te):=by
 intro af s σ H Q I hw;rw[evalPart_some];refine thn (h af s σ H _ I hw) fun u s1 hup=>hup.el fun x H1 I1 r1 q1=>?_;obtain⟨i,rfl,q⟩:=q1;obtain⟨t,rfl⟩:=r1;exact⟨some i,H1,I1,.int i t,q⟩
def SlR(X:Cx) (r:V->Option Int->Option Int->Hp->VK->Prop):Prop :=
 ∀(af:List (F9×Obj)) (s:F2) (σ:St) (H:Hp) (x:V) (v vl vu:s0) (lo hi:Option Int) (sl:F9) (Q:VK),Inv X af σ H s->aX x v->s.heap.IsSliceOf sl vl vu .none->as1 vl lo->as1 vu hi->r x lo hi H Q ->
  ∃T id,typeLookup (.type T) "__getitem__"=af5 (some (.builtin id))/\s.TypeIs v T/\J4 (M0 X.prog X.w) X.A (aq8 v (.ref sl)) (EP X af σ Q) X.xe s
theorem SlR.or{r r':V->Option Int->Option Int->Hp->VK->Prop}(h:SlR X r) (h':SlR X r'):SlR X (fun x lo hi H Q=>r x lo hi H Q∨r' x lo hi H Q):=by
 intro af s σ H x v vl vu lo hi sl Q I rx hs pl pu q;rcases q with q|q
 ·exact h af s σ H x v vl vu lo hi sl Q I rx hs pl pu q
 ·exact h' af s σ H x v vl vu lo hi sl Q I rx hs pl pu q
def tSl(r:V->Option Int->Option Int->Hp->VK->Prop) (te:TE) (tl th:TO):TE:=fun σ H Q=>te σ H fun x H1=>tl σ H1 fun l H2=>th σ H2 fun u H3=>r x l u H3 Q
theorem w9{r:V->Option Int->Option Int->Hp->VK->Prop}(hr:SlR X r) (he:PE X e te) (hl:PO X lo tl) (hu:PO X hi th):PE X (.Subscript e (.Slice lo hi none p2) pos) (tSl r te tl th):=by
 intro af s σ H Q I h;refine Subscript_ (thn (he af s σ H _ I h) fun v s1 hup=>hup.el fun x H1 I1 r1 q1=>?_);refine wpAny_Slice (thn (hl af s1 σ H1 _ I1 q1) fun vl s2 ⟨l,H2,I2,pl,q2⟩=>thn (hu af s2 σ H2 _ I2 q2) fun vu s3 ⟨u,H3,I3,pu,q3⟩=>?_);rw[evalPart_none];refine u8 ?_;have I4:Inv X af σ H3 { s3 with heap:=s3.heap.push { cls:=.type "slice",data:=.fields #[vl,vu,.none] } }:=I3.kept (t':=s3.toks) fun b ob q=>F1 _ q;obtain⟨T,id,hT,ht,hg⟩:=hr af { s3 with heap:=s3.heap.push { cls:=.type "slice",data:=.fields #[vl,vu,.none] } } σ H3 x v vl vu l u s3.heap.objs.size Q I4 r1 (K5.IsSliceOf.new ..) pl pu q3;show J4 (M0 X.prog X.w) X.A (subscriptTail e (.Slice lo hi none p2) v (.ref s3.heap.objs.size)) (EP X af σ Q) X.xe { s3 with heap:=s3.heap.push { cls:=.type "slice",data:=.fields #[vl,vu,.none] } };exact tail_any (ops:=[.ref s3.heap.objs.size,v]) ht hT hg (by with_unfolding_all rfl)
def o3(xs:List V) (lo hi:Option Int):List V:=(xs.drop (HT.sIx xs.length 0 lo)).take (HT.sIx xs.length xs.length hi-HT.sIx xs.length 0 lo)
theorem kX(xs:List V) (lo hi:Option Int):(o3 xs lo hi).length<=xs.length:=by
 unfold o3;rw[P4,af3]
 lia
def Fq(K:F0):V->Option Int->Option Int->Hp->VK->Prop:=fun x lo hi H Q=>∃a xs,x=.ref a/\SqT K H a xs /\
 ¬ (HT.sIx xs.length 0 lo=0/\HT.sIx xs.length xs.length hi=xs.length)/\∀p,H p=none->Q (.ref p) (upd H p (.tup (o3 xs lo hi)))
theorem Dj:SlR X (Fq X.K):=by
 intro af s σ H x v vl vu lo hi sl Q I rx hs pl pu h;obtain⟨a,xs,rfl,hx,hw,q⟩:=h;cases rx;obtain⟨its,r,ht,hz⟩:=I.tuple hx;have bX:its.toArray.size=xs.length:=by rw[J0];exact r.length.symm
 refine⟨"tuple",_,P1.lookup,ht.typeIs,?_⟩;refine HT.getItem_tuple_cut ht hs pl pu (by rw[bX];exact hw) ?_ (by rw[bX];exact hz);rw[bX];refine⟨.ref s.heap.objs.size,_,I.laid (t':=s.toks) (o:=.tup (o3 xs lo hi)) (fun b ob q=>F1 _ q) (F7 _) ?_,rfl,q _ (I.hok.fresh (F7 _))⟩;exact⟨O4 (kX xs lo hi) hz,_,(r.drop (HT.sIx xs.length 0 lo)).take (HT.sIx xs.length xs.length hi-HT.sIx xs.length 0 lo),lF.new _ _⟩
def D1(K:F0):R2:=fun x y H Q=>∃a b xs ys,x=.ref a/\y=.ref b/\SqT K H a xs/\SqT K H b ys/\xs≠[]/\xs.length+ys.length<=I0 /\
 (ys=[]->Q (.ref a) H)/\(ys≠[]->∀p,H p=none->Q (.ref p) (upd H p (.tup (xs++ys))))
theorem aE.nil_iff{xs:List V}{us:List s0}(r:aE xs us):us=[]↔xs=[]:=by
 cases r with
 |nil=>simp
 |cons _ _=>simp
theorem zI:OpR X (Z1 .Add) (D1 X.K):=by
 intro af s σ H x y v u Q I rx ry h;obtain⟨a,b,xs,ys,rfl,rfl,ha,hb,hx,hz,q1,q2⟩:=h;cases rx;cases ry;obtain⟨its,r1,p1,_⟩:=I.tuple ha;obtain⟨its2,r2,p2,_⟩:=I.tuple hb;refine HT.cat_tup p1 p2 (fun z=>hx (r1.nil_iff.mp z)) (fun z=>⟨.ref a,H,I,rfl,q1 (r2.nil_iff.mp z)⟩) (fun z=>?_) (by rw[<-r1.length,<-r2.length];exact hz);refine⟨.ref s.heap.objs.size,_,I.laid (t':=s.toks) (o:=.tup (xs++ys)) (fun b ob q=>F1 _ q) (F7 _) ?_,rfl,q2 (fun w=>z (r2.nil_iff.mpr w)) _ (I.hok.fresh (F7 _))⟩;exact⟨by rw[J1];exact hz,_,r1.append r2,lF.new _ _⟩
end
noncomputable def ixN(n:Nat) (i:Int):Option Nat:=if 0<=i then(if i<n then some i.toNat else none)else if -(n:Int)<=i then some (i+n).toNat else none
def atI{α:Type}(xs:List α) (i:Int):Option α:=(ixN xs.length i).bind fun j=>xs[j]?
theorem uJ{n:Nat}{i:Int}{j:Nat}(h:ixN n i=some j):seqIndex? i n=some j/\j<n/\-(n:Int)<=i/\i<n:=by
 unfold ixN at h
 by_cases h0:0<=i
 ·rw[if_pos h0]at h
  by_cases h1:i<n
  ·rw[if_pos h1]at h;have e:i.toNat=j:=P9 h;exact⟨by rw[seqIndex_of h0 h1,e],by lia,by lia,h1⟩
  ·rw[if_neg h1]at h;cases h
 ·rw[if_neg h0]at h
  by_cases h1:-(n:Int)<=i
  ·rw[if_pos h1]at h;have e:(i+n).toNat=j:=P9 h;exact⟨by rw[seqIndex_neg (by lia) h1,e],by lia,h1,by lia⟩
  ·rw[if_neg h1]at h;cases h
theorem pQ{α:Type}{xs:List α}{i:Int}{v:α}(h:atI xs i=some v):∃j,seqIndex? i xs.length=some j/\xs[j]?=some v/\j<xs.length/\-(xs.length:Int)<=i/\i<xs.length:=by
 unfold atI at h;cases e:ixN xs.length i with
 |none=>rw[e]at h;cases h
 |some j =>
  rw[e]at h;obtain⟨h1,h2,h3,h4⟩:=uJ e;exact⟨j,h1,h,h2,h3,h4⟩
theorem dA{α:Type}{xs:List α}{j:Nat}{v:α}(h:xs[j]?=some v):atI xs (j:Int)=some v:=by
 have hj:j<xs.length:=(N1.mp h).1;have e:ixN xs.length (j:Int)=some j:=by
  unfold ixN;rw[if_pos (by lia),if_pos (by lia)];simp
 unfold atI;rw[e];exact h
def vb(b:O3):Prop:=∀o i,subscripted b false o i=operate [o,i] (aq8 o i)
def IxR(X:Cx) (r:R2):Prop :=
 ∀(value slice:O3) (af:List (F9×Obj)) (s:F2) (σ:St) (H:Hp) (x y:V) (v u:s0) (Q:VK),Inv X af σ H s->aX x v->aX y u->r x y H Q ->
  subscripted slice false v u=operate [v,u] (aq8 v u)->J4 (M0 X.prog X.w) X.A (subscriptTail value slice v u) (EP X af σ Q) X.xe s
def MtR(X:Cx) (id:String) (r:V->List V->Hp->VK->Prop):Prop :=
 ∀(af:List (F9×Obj)) (s:F2) (σ:St) (H:Hp) (x:V) (xs:List V) (v:s0) (us:List s0) (Q:VK),Inv X af σ H s->aX x v->aE xs us->r x xs H Q ->
  J4 (M0 X.prog X.w) X.A (call (.builtin id) (v::us)) (EP X af σ Q) X.xe s
section
variable{X:Cx}{a b:O3}{ta tb:TE}{pos:Pos}
theorem EK{r:R2}(hr:IxR X r) (ha:PE X a ta) (hb:PE X b tb) (hs:vb b):PE X (.Subscript a b pos) (tOp r ta tb):=by
 intro af s σ H Q I h;exact Subscript_ (CW ha hb I h fun v u s2 x y H2 I2 rx ry q=>hr a b af s2 σ H2 x y v u Q I2 rx ry q (hs _ _))
def Fx(K:F0):R2:=fun x y H Q=>∃p xs i v,x=.ref p/\y=.int i/\SqL K H p xs/\atI xs i=some v/\Q v H
def Fg(K:F0):R2:=fun x y H Q=>∃p xs i v,x=.ref p/\y=.int i/\SqT K H p xs/\atI xs i=some v/\Q v H
def Fj:R2:=fun x y H Q=>∃z i c,x=.str z/\y=.int i/\z.length<=I0/\atI z.cps.toList i=some c/\Q (.str ⟨#[c]⟩) H
theorem uD:IxR X (Fx X.K):=by
 intro value slice af s σ H x y v u Q I rx ry h hs;obtain⟨p,xs,i,z,rfl,rfl,hq,he,q⟩:=h;cases rx;obtain⟨t,rfl⟩:=ry;obtain⟨its,r,pl,hz⟩:=I.list hq;obtain⟨j,h1,h2,h3,h4,h5⟩:=pQ he;obtain⟨w,ew,rw'⟩:=r.get h2;have hl:=r.length;have hn:=kq;have fin:EP X af σ Q w s:=⟨z,H,I,rw',q⟩
 by_cases h0:0<=i
 ·have hj:i.toNat=j:=by
   rw[seqIndex_of h0 h5]at h1;exact P9 h1
  exact item_listR pl.isList h0 (by lia) (by rw[hj];simpa using ew) fin hs
 ·have hj:(i+(its.toArray.size:Int)).toNat=j:=by
   rw[seqIndex_neg (by lia) h4]at h1;rw[J0,<-hl];exact P9 h1
  exact subscriptTail_builtinR (x:=w) pl.isList.typeIs slot_list_getitem.lookup
   (wpAny_getItem_list_neg (Q:=fun r s'=>r=w/\EP X af σ Q r s') pl.isList (by lia) (by rw[J0]<;>lia) (by lia) (by rw[hj];simpa using ew) ⟨rfl,fin⟩) hs
theorem BW:IxR X (Fg X.K):=by
 intro value slice af s σ H x y v u Q I rx ry h hs;obtain⟨p,xs,i,z,rfl,rfl,hq,he,q⟩:=h;cases rx;obtain⟨t,rfl⟩:=ry;obtain⟨its,r,pl,hz⟩:=I.tuple hq;obtain⟨j,h1,h2,h3,h4,h5⟩:=pQ he;obtain⟨w,ew,rw'⟩:=r.get h2;have hl:=r.length;have hn:=kq;have fin:EP X af σ Q w s:=⟨z,H,I,rw',q⟩;exact subscriptTail_builtinR (x:=w) pl.typeIs slot_tuple_getitem.lookup
  (getItem_tuple (j:=j) (Q:=fun r s'=>r=w/\EP X af σ Q r s') pl (by lia) (by lia) (by rw[J0,<-hl];exact h1) (by simpa using ew) ⟨rfl,fin⟩) hs
theorem CY:IxR X Fj:=by
 intro value slice af s σ H x y v u Q I rx ry h hs;obtain⟨z,i,c,rfl,rfl,hz,he,q⟩:=h;obtain⟨t,rfl⟩:=rx;obtain⟨t',rfl⟩:=ry;obtain⟨j,h1,h2,h3,h4,h5⟩:=pQ he;have hl:z.cps.toList.length=z.length:=by simp[Str.length]
 rw[hl]at h1 h4 h5;have hn:=kq;exact tail_any (typeIs_str s z t) slot_str_getitem.lookup (getItem_str (c:=c) (by
  have e1:decide (i < -(2 ^ 63:Int))=false:=decide_eq_false (by lia);have e2:decide (i>=2 ^ 63)=false:=decide_eq_false (by lia);rw[e1,e2,Bool.or_false]) (by rw[h1];simpa using h2) ⟨.str ⟨#[c]⟩,H,I.tok _,⟨_,rfl⟩,q⟩) hs
theorem tO(its:List s0) (n j:Nat) (u:s0):ad4 (·.setIfInBounds j u) { cls:=.type "list",data:=.seq its.toArray n }={ cls:=.type "list",data:=.seq (its.set j u).toArray n }:=by
 simp[ad4]
theorem Inv.lst{af:List (F9×Obj)}{σ:St}{H:Hp}{s:F2}{p:F9}{xs:List V}(I:Inv X af σ H s) (h:H p=some (.lst xs)) :
  ∃(its:List s0) (n:Nat),aE xs its/\s.heap.get? p=some { cls:=.type "list",data:=.seq its.toArray n }/\xs.length<=I0:=by
 obtain⟨z,its,n,r,e⟩:=I.hok p _ h;exact⟨its,n,r,e,z⟩
theorem Inv.lstUpd{af:List (F9×Obj)}{σ:St}{H:Hp}{s:F2}{p:F9}{xs ys:List V}{its its':List s0}{n n':Nat}{f:Obj->Obj}(I:Inv X af σ H s) (h:H p=some (.lst xs))
  (ho:s.heap.get? p=some { cls:=.type "list",data:=.seq its.toArray n }) (hf:f { cls:=.type "list",data:=.seq its.toArray n }={ cls:=.type "list",data:=.seq its'.toArray n' }) (r:aE ys its') (hz:ys.length<=I0) (t:Nat) :
  Inv X af σ (upd H p (.lst ys)) { s with heap:=s.heap.update p f,toks:=t }:=by
 have e:(s.heap.update p f).get? p=some { cls:=.type "list",data:=.seq its'.toArray n' }:=by
  rw[O1 f ho (by rw[hf]<;>rfl),hf]
 refine I.write (x:=p) (e:=p) (by rw[h];trivial) (.inl rfl) (fun b u hb q=>(N3 _ _ (V0 hb)).trans q) ⟨_,e⟩ ?_;exact⟨hz,its',n',r,e⟩
def Eh:V->V->V->Hp->(Hp->Prop)->Prop:=fun o i v H Q=>∃p xs k j,o=.ref p/\i=.int k/\H p=some (.lst xs)/\ixN xs.length k=some j/\Q (upd H p (.lst (xs.set j v)))
theorem wR:D4 X Eh:=by
 intro af s σ H o i v ov iv u Q I ro ri rv h;obtain⟨p,xs,k,j,rfl,rfl,hp,hj,q⟩:=h;cases ro;obtain⟨t,rfl⟩:=ri;obtain⟨its,n,r,ho,hz⟩:=I.lst hp;obtain⟨h1,h2,h3,h4⟩:=uJ hj;have hl:=r.length;have hn:=kq;have I':Inv X af σ (upd H p (.lst (xs.set j v))) { s with heap:=s.heap.update p (ad4 (·.setIfInBounds j u)) } :=
  I.lstUpd hp ho (tO its n j u) (r.set rv j) (by rw[List.length_set];exact hz) s.toks
 by_cases h0:0<=k
 ·have hk:k.toNat=j:=by
   rw[seqIndex_of h0 h4]at h1;exact P9 h1
  exact PySem.W.ki_setAt ho h0 (by lia) (by rw[J0,<-hl];exact h4) (by rw[hk];exact⟨_,I',q⟩)
 ·have hk:(k+(its.toArray.size:Int)).toNat=j:=by
   rw[seqIndex_neg (by lia) h3]at h1;rw[J0,<-hl];exact P9 h1
  exact PySem.W.ki_setBack ho (by lia) (by rw[J0,<-hl];exact h3) (by lia) (by rw[hk];exact⟨_,I',q⟩)
theorem oX(lo hi:Option Int) (n:Nat):(ak2 lo hi none n).1=((HT.sIx n 0 lo:Nat):Int)/\(ak2 lo hi none n).2.1=((HT.sIx n n hi:Nat):Int)/\(ak2 lo hi none n).2.2=1:=by
 refine⟨?_,?_,rfl⟩
 ·cases lo with
  |none=>simp[ak2,HT.sIx]
  |some i =>
   simp only[ak2,HT.sIx,Option.getD_none,show(1:Int) > 0 by decide,if_true]
   by_cases h:i<0
   ·simp only[h,if_true]<;>lia
   ·simp only[h,if_false]<;>lia
 ·cases hi with
  |none=>simp[ak2,HT.sIx]
  |some i =>
   simp only[ak2,HT.sIx,Option.getD_none,show(1:Int) > 0 by decide,if_true]
   by_cases h:i<0
   ·simp only[h,if_true]<;>lia
   ·simp only[h,if_false]<;>lia
theorem nE(its:List s0) (lo hi:Option Int):slicePick its.toArray lo hi none=((its.drop (HT.sIx its.length 0 lo)).take (HT.sIx its.length its.length hi-HT.sIx its.length 0 lo)).toArray:=by
 obtain⟨h1,h2,h3⟩:=oX lo hi its.toArray.size;unfold slicePick;rw[h1,h2,h3];simp only[sliceRange_one,pick_run,J0]<;>rfl
def Ft(K:F0):V->Option Int->Option Int->Hp->VK->Prop:=fun x lo hi H Q=>∃a xs,x=.ref a/\SqL K H a xs/\∀p,H p=none->Q (.ref p) (upd H p (.lst (o3 xs lo hi)))
theorem zt:SlR X (Ft X.K):=by
 intro af s σ H x v vl vu lo hi sl Q I rx hs pl pu h;obtain⟨a,xs,rfl,hx,q⟩:=h;cases rx;obtain⟨its,r,ht,hz⟩:=I.list hx;have bX:=r.length;refine⟨"list",_,slot_list_getitem.lookup,ht.isList.typeIs,?_⟩;refine wpAny_getItem_list_slice ht.isList hs pl pu .none (by simp) ?_ (by rw[J0]<;>lia);rw[nE,<-bX];refine⟨.ref s.heap.objs.size,_,I.laid (t':=s.toks) (o:=.lst (o3 xs lo hi)) (fun b ob q=>F1 _ q) (F7 _) ?_,rfl,q _ (I.hok.fresh (F7 _))⟩;exact⟨O4 (kX xs lo hi) hz,_,0,(r.drop (HT.sIx xs.length 0 lo)).take (HT.sIx xs.length xs.length hi-HT.sIx xs.length 0 lo),J6 _ rfl⟩
def iH:V->Bool
 |.non=>true
 |.bl _=>true
 |.int _=>true
 |.str _=>true
 |_=>false
noncomputable def eqV:V->V->Bool
 |.non,.non=>true
 |.bl a,.bl b=>a==b
 |.bl a,.int b=>(if a then 1 else 0)==b
 |.int a,.bl b=>a==(if b then 1 else 0)
 |.int a,.int b=>a==b
 |.str a,.str b=>a==b
 |_,_=>false
theorem Cn{A:N6}{s:F2}{y x:V}{u v:s0}(ry:aX y u) (rx:aX x v) (fy:iH y=true) (fx:iH x=true):U9 A s u v (eqV y x):=by
 cases y with
 |non =>
  cases ry;cases x with
  |non=>cases rx;exact U9.same _
  |bl b=>cases rx;exact U9.none_bool b
  |int b=>obtain⟨t,rfl⟩:=rx;exact U9.none_int b t
  |str b=>obtain⟨t,rfl⟩:=rx;exact U9.none_str b t
  |_=>exact absurd (show false=true from fx) V7
 |bl a =>
  cases ry;cases x with
  |non=>cases rx;exact U9.bool_none a
  |bl b=>cases rx;exact U9.bool_bool a b
  |int b=>obtain⟨t,rfl⟩:=rx;exact U9.bool_int a b t
  |str b=>obtain⟨t,rfl⟩:=rx;exact U9.bool_str a b t
  |_=>exact absurd (show false=true from fx) V7
 |int a =>
  obtain⟨t',rfl⟩:=ry;cases x with
  |non=>cases rx;exact U9.int_none a t'
  |bl b=>cases rx;exact U9.int_bool a t' b
  |int b=>obtain⟨t,rfl⟩:=rx;exact U9.int_int a t' b t
  |str b=>obtain⟨t,rfl⟩:=rx;exact U9.int_str a t' b t
  |_=>exact absurd (show false=true from fx) V7
 |str a =>
  obtain⟨t',rfl⟩:=ry;cases x with
  |non=>cases rx;exact U9.str_none a t'
  |bl b=>cases rx;exact U9.str_bool a t' b
  |int b=>obtain⟨t,rfl⟩:=rx;exact U9.str_int a t' b t
  |str b=>obtain⟨t,rfl⟩:=rx;exact U9.str_str a t' b t
  |_=>exact absurd (show false=true from fx) V7
 |_=>exact absurd (show false=true from fy) V7
def eqU(x:V) (u:s0):Bool:=match u with
 |.none=>eqV .non x
 |.bool b=>eqV (.bl b) x
 |.int i _=>eqV (.int i) x
 |.str z _=>eqV (.str z) x
 |_=>false
theorem xh{x y:V}{u:s0}(r:aX y u) (f:iH y=true):eqU x u=eqV y x:=by
 cases y with
 |non=>cases r;rfl
 |bl b=>cases r;rfl
 |int i=>obtain⟨t,rfl⟩:=r;rfl
 |str z=>obtain⟨t,rfl⟩:=r;rfl
 |_=>exact absurd (show false=true from f) V7
theorem jI{x:V}:∀{xs:List V}{us:List s0},aE xs us->xs.all iH=true->us.any (eqU x)=xs.any fun y=>eqV y x
 |_,_,.nil,_=>rfl
 |y::xs,u::us,.cons r t,f=>by
  rw[Z3,K1]at f;rw[ac4,ac4,xh r f.1,jI t f.2]
theorem iD{A:N6}{s:F2}{x:V}{v:s0}(rx:aX x v) (fx:iH x=true):∀{xs:List V}{us:List s0},aE xs us->xs.all iH=true->∀u∈us,U9 A s u v (eqU x u)
 |_,_,.nil,_=>fun u hu=>by cases hu
 |y::xs,u::us,.cons r t,f=>fun u' hu=>by
  rw[Z3,K1]at f;rcases J3.mp hu with rfl|hu
  ·rw[xh r f.1];exact Cn r rx f.1 fx
  ·exact iD rx fx t f.2 u' hu
def inV(x:V) (xs:List V):Bool:=xs.any fun y=>eqV y x
def rIn(K:F0) (neg:Bool):R2:=fun x y H Q=>∃p xs,y=.ref p/\(SqL K H p xs∨SqT K H p xs)/\iH x=true/\xs.all iH=true/\Q (.bl (if neg then !inV x xs else inV x xs)) H
theorem vV:OpR X (S4 .In) (rIn X.K false):=by
 intro af s σ H x y v u Q I rx ry h;obtain⟨p,xs,rfl,hq,fx,fs,q⟩:=h;cases ry;rcases hq with hq|hq
 ·obtain⟨its,r,pl,hz⟩:=I.list hq;refine SeqAt.in_listAt (eqU x) pl.isList (fun w hw=>iD rx fx r fs w (by simpa using hw)) ⟨.bl _,H,I,rfl,?_⟩;rw[show its.toArray.any (eqU x)=its.any (eqU x)by simp,jI r fs];exact q
 ·obtain⟨its,r,pl,hz⟩:=I.tuple hq;refine SeqAt.in_tupleAt (eqU x) pl (fun w hw=>iD rx fx r fs w (by simpa using hw)) ⟨.bl _,H,I,rfl,?_⟩;rw[show its.toArray.any (eqU x)=its.any (eqU x)by simp,jI r fs];exact q
theorem qk:OpR X (S4 .NotIn) (rIn X.K true):=by
 intro af s σ H x y v u Q I rx ry h;obtain⟨p,xs,rfl,hq,fx,fs,q⟩:=h;cases ry;rcases hq with hq|hq
 ·obtain⟨its,r,pl,hz⟩:=I.list hq;refine SeqAt.notIn_listAt (eqU x) pl.isList (fun w hw=>iD rx fx r fs w (by simpa using hw)) ⟨.bl _,H,I,rfl,?_⟩;rw[show its.toArray.any (eqU x)=its.any (eqU x)by simp,jI r fs];exact q
 ·obtain⟨its,r,pl,hz⟩:=I.tuple hq;refine SeqAt.notIn_tupleAt (eqU x) pl (fun w hw=>iD rx fx r fs w (by simpa using hw)) ⟨.bl _,H,I,rfl,?_⟩;rw[show its.toArray.any (eqU x)=its.any (eqU x)by simp,jI r fs];exact q
theorem pf:dj X (.builtin "len") (fun xs H Q=>∃p ys,xs=[.ref p]/\(SqL X.K H p ys∨SqT X.K H p ys)/\Q (.int ys.length) H):=by
 intro af s σ H xs us Q I r h;obtain⟨p,ys,rfl,hq,q⟩:=h;obtain⟨u,rfl,rx⟩:=oG r;cases rx;have hn:=kq;rcases hq with hq|hq
 ·obtain⟨its,r',pl,hz⟩:=I.list hq;have bX:=r'.length;exact Calls.call_len_list pl.isList (by simp only[J0]<;>lia) ⟨.int ys.length,H,I.tok _,⟨s.toks+1,by rw[J0,bX]⟩,q⟩
 ·obtain⟨its,r',pl,hz⟩:=I.tuple hq;have bX:=r'.length;exact len_tuple pl (by simp only[J0]<;>lia) ⟨.int ys.length,H,I.tok _,⟨s.toks+1,by rw[J0,bX]⟩,q⟩
theorem ph:dj X (.builtin "len") (fun xs H Q=>∃z,xs=[.str z]/\z.length<=I0/\Q (.int z.length) H):=by
 intro af s σ H xs us Q I r h;obtain⟨z,rfl,hz,q⟩:=h;obtain⟨u,rfl,t,rfl⟩:=oG r;have hn:=kq;exact len_str (by lia) ⟨.int z.length,H,I.tok _,⟨_,rfl⟩,q⟩
theorem dj.or{f:s0}{r r':List V->Hp->VK->Prop}(h:dj X f r) (h':dj X f r'):dj X f (fun xs H Q=>r xs H Q∨r' xs H Q):=by
 intro af s σ H xs us Q I rs q;rcases q with q|q
 ·exact h af s σ H xs us Q I rs q
 ·exact h' af s σ H xs us Q I rs q
theorem pY:dj X (.type "list") (fun xs H Q=>∃p ys,xs=[.ref p]/\(SqL X.K H p ys∨SqT X.K H p ys)/\∀l,H l=none->Q (.ref l) (upd H l (.lst ys))):=by
 intro af s σ H xs us Q I r h;obtain⟨p,ys,rfl,hq,q⟩:=h;obtain⟨u,rfl,rx⟩:=oG r;cases rx;have fin:∀(its:List s0),aE ys its->ys.length<=I0->∀(h':K5) (c':Nat),(∀b o',s.heap.get? b=some o'->h'.get? b=some o') ->
   h'.get? s.heap.objs.size=some { cls:=.type "list",dict:=none,data:=.seq its.toArray c',slots:=#[] }->EP X af σ Q (.ref s.heap.objs.size) { s with heap:=h' }:=fun its r' hz h' c' kp e =>
  ⟨.ref s.heap.objs.size,_,I.laid (t':=s.toks) kp (F7 _) (show cj X.prog X.w _ h' _ (.lst ys)from⟨hz,its,c',r',e⟩),rfl,q _ (I.hok.fresh (F7 _))⟩
 rcases hq with hq|hq
 ·obtain⟨its,r',pl,hz⟩:=I.list hq;have bX:=r'.length;obtain⟨o,ho,hc,n,hd⟩:=pl.isList;exact call_list_seq p (.inl rfl) ho hc hd (fun h' c' kp e=>fin its r' hz h' c' kp e) (by simp only[J0]<;>lia)
 ·obtain⟨its,r',pl,hz⟩:=I.tuple hq;have bX:=r'.length;obtain⟨o,ho,hc,n,hd⟩:=pl;exact call_list_seq p (.inr rfl) ho hc hd (fun h' c' kp e=>fin its r' hz h' c' kp e) (by simp only[J0]<;>lia)
theorem nQ:dj X (.type "tuple") (fun xs H Q=>∃p ys,xs=[.ref p]/\((SqL X.K H p ys/\∀l,H l=none->Q (.ref l) (upd H l (.tup ys)))∨(SqT X.K H p ys/\Q (.ref p) H))):=by
 intro af s σ H xs us Q I r h;obtain⟨p,ys,rfl,h⟩:=h;obtain⟨u,rfl,rx⟩:=oG r;cases rx;rcases h with⟨hq,q⟩|⟨hq,q⟩
 ·obtain⟨its,r',pl,hz⟩:=I.list hq;have bX:=r'.length;refine call_tuple_list pl.isList (fun h' kp=>?_) (by simp only[J0]<;>lia);have I1:Inv X af σ H { s with heap:=h' }:=I.kept (t':=s.toks) kp;have I2:Inv X af σ (upd H h'.objs.size (.tup ys)) { s with heap:=h'.push { cls:=.type "tuple",data:=.seq its.toArray } } :=
   I1.laid (t':=s.toks) (fun b o e=>F1 _ e) (F7 _) (show cj X.prog X.w _ _ _ (.tup ys)from⟨hz,its,r',lF.new _ _⟩)
  exact⟨.ref h'.objs.size,_,I2,rfl,q _ (I1.hok.fresh (F7 _))⟩
 ·obtain⟨its,r',pl,hz⟩:=I.tuple hq;exact call_tuple_same pl ⟨.ref p,H,I,rfl,q⟩
def tyV(K:F0) (T:String) (x:V) (H:Hp):Prop:=match x with
 |.str _=>T="str"
 |.int _=>T="int"
 | .ref p => (T = "list" ∧ ∃ xs,SqL K H p xs) ∨ (T = "tuple" ∧ ∃ o,K.lookup p = some o ∧ o.cls = .type "tuple" ∧ o.dict = none) ∨
   (T="dict"/\((∃kvs,H p=some (.dK kvs))∨∃kvs,H p=some (.dT kvs)))∨(T="set"/\∃S n,H p=some (.set S n))
 |_=>False
theorem B8{af:List (F9×Obj)}{σ:St}{H:Hp}{s:F2}{T:String}{x:V}{v:s0}(I:Inv X af σ H s) (r:aX x v) (ty:tyV X.K T x H) :
  s.TypeIs v T/\∀a,v=.ref a->∃ob,s.heap.get? a=some ob/\ob.dict=none:=by
 cases x with
 |str z =>
  obtain⟨t,rfl⟩:=r;cases(show T="str" from ty);exact⟨typeIs_str s z t,fun _ e=>nomatch e⟩
 |int i =>
  obtain⟨t,rfl⟩:=r;cases(show T="int" from ty);exact⟨an5 s i t,fun _ e=>nomatch e⟩
 |ref p =>
  cases r;rcases ty with⟨rfl,xs,hq⟩|⟨rfl,o,hk,hc,hd⟩|⟨rfl,hk⟩|⟨rfl,S,n,hk⟩
  ·obtain⟨its,_,pl,_⟩:=I.list hq;refine⟨pl.isList.typeIs,fun a e=>?_⟩;cases e;obtain⟨o,n,e,c,hd,_⟩:=pl;exact⟨o,e,hd⟩
  ·refine⟨⟨o,I.kIn p o hk,hc⟩,fun a e=>?_⟩;cases e;exact⟨o,I.kIn _ o hk,hd⟩
  ·have z:∃o,s.heap.get? p=some o/\o.ExactDict:=by
    rcases hk with⟨kvs,hk⟩|⟨kvs,hk⟩
    ·obtain⟨_,_,_,_,o,_,_,e,ex,_⟩:=I.hok p _ hk;exact⟨o,e,ex⟩
    ·obtain⟨_,_,_,_,o,_,_,e,ex,_⟩:=I.hok p _ hk;exact⟨o,e,ex⟩
   obtain⟨o,e,ex⟩:=z;refine⟨⟨o,e,ex.1⟩,fun a e2=>?_⟩;cases e2;exact⟨o,e,ex.2.1⟩
  ·obtain⟨o,_,_,_,e,ex,_⟩:=I.hok p _ hk;refine⟨⟨o,e,ex.1⟩,fun a e2=>?_⟩;cases e2;exact⟨o,e,ex.2.1⟩
 |_=>exact U1 ty
def tBM(K:F0) (T:String) (r:V->List V->Hp->VK->Prop) (to:TE) (t:TA):TE:=fun σ H Q=>to σ H fun x H1=>tyV K T x H1/\t σ H1 fun xs H2=>r x xs H2 Q
variable{o e:O3}{es:List O3}{to:TE}{t:TA}{name:Str}{iZ cu:Pos}{T id:String}{r:V->List V->Hp->VK->Prop}
theorem xp(pa:PlainAttrs T) (slot:Slot T name id) (hty:typeOf (.builtin id)=af5 (.type "method_descriptor")) (hm:MtR X id r) (ho:PE X o to) (ha:PA X (e::es) t)
  (ic:ae4 o name X.env (ab7 o X.env)=ab7 o X.env:=by rfl)
  (sU:((V4 cu (F8 (e :: es) X.env)).all (fun x => !x.1) && (ar3 cu (ak3 [] X.env)).all (fun x => x.1.isSome)
  &&decide ((e::es).length+([]:List an9).length+(if([]:List an9).isEmpty then 0 else 1)<30))=true:=by rfl)
  (mm:(iZ.endLine==cu.line)=true:=by rfl) (hs:F8 (e::es) X.env=(false,ab7 e X.env)::F8 es X.env:=by rfl) (jw:(V4 cu (F8 es X.env)).any (·.1)=false:=by rfl) :
  PE X (.Call (.Attribute o name iZ) (e::es) [] cu) (tBM X.K T r to t):=by
 intro af s σ H Q I h;refine wpAny_Call_method_late ic sU mm rfl (thn (ho af s σ H _ I h) fun v s1 ⟨x,H1,I1,r1,ty,q1⟩=>?_);obtain⟨h1,h2⟩:=B8 I1 r1 ty;refine⟨T,id,pa,slot,hty,h1,h2,?_⟩;have hA:=ha cu af s1 σ H1 _ I1 q1;rw[hs]at hA ⊢;refine Calls.callWith_builtin (by show(false || (V4 cu (F8 es X.env)).any (·.1))=false;rw[jw]<;>rfl) (Calls.evalArgs_plain ?_);exact thn hA fun us s2 hup=>hup.el fun vs H2 I2 r2 q2=>hm af s2 σ H2 x vs v us Q I2 r1 r2 q2
end
def MtM(X:Cx) (id:String) (r:V->List V->Hp->VK->Prop):Prop :=
 ∀(af:List (F9×Obj)) (s:F2) (σ:St) (H:Hp) (x:V) (xs:List V) (v:s0) (us:List s0) (Q:VK),Inv X af σ H s->aX x v->aE xs us->r x xs H Q ->
  J4 (M0 X.prog X.w) X.A (call (.builtin id) (v::us)) (EP X af σ Q) X.xe s
theorem aE.un{x:V}{xs:List V}{us:List s0}(h:aE (x::xs) us):∃u vs,us=u::vs/\aX x u/\aE xs vs:=by
 cases h with
 |cons r t=>exact⟨_,_,rfl,r,t⟩
theorem aE.one{x:V}{us:List s0}(h:aE [x] us):∃u,us=[u]/\aX x u:=by
 obtain⟨u,vs,rfl,r,t⟩:=h.un;cases t;exact⟨u,rfl,r⟩
theorem aE.two{x y:V}{us:List s0}(h:aE [x,y] us):∃u v,us=[u,v]/\aX x u/\aX y v:=by
 obtain⟨u,vs,rfl,r,t⟩:=h.un;obtain⟨v,rfl,q⟩:=t.one;exact⟨u,v,rfl,r,q⟩
theorem aE.reverse{xs:List V}{us:List s0}(h:aE xs us):aE xs.reverse us.reverse:=by
 induction h with
 |nil=>exact .nil
 |cons r t ih=>rw[ak4,ak4];exact aE.append ih (.cons r .nil)
theorem aE.rep{xs:List V}{us:List s0}(h:aE xs us):∀k:Nat,aE (J7 k xs).flatten (J7 k us).flatten
 |0=>.nil
 |k+1=>by
  rw[X7,X7,ad5,ad5];exact aE.append h (aE.rep h k)
theorem kP(its:List s0):∀(k:Nat) (acc:List s0),
  as7 (fun x1 x2=>x1++x2) acc.toArray (J7 k its.toArray)=(acc++(J7 k its).flatten).toArray
 |0,acc=>by simp
 |k+1,acc=>by
  have e:acc.toArray++its.toArray=(acc++its).toArray:=by simp
  have e2:(acc++its)++(J7 k its).flatten=acc++(J7 (k+1) its).flatten:=by
   rw[X7,ad5,aa6]
  rw[<-e2,<-kP its k (acc++its),<-e,X7,W5]
section
variable{X:Cx}{af:List (F9×Obj)}{σ:St}{H:Hp}{s:F2}{l b:F9}{xs ys zs:List V}
theorem Inv.lset{its its':List s0}{n:Nat}{f:Array s0->Array s0}{t':Nat}(I:Inv X af σ H s) (hH:H l=some (.lst xs))
  (e:s.heap.get? l=some { cls:=.type "list",data:=.seq its.toArray n }) (hf:f its.toArray=its'.toArray) (hv:aE ys its') (hz:ys.length<=I0) :
  Inv X af σ (upd H l (.lst ys)) { s with heap:=s.heap.update l (ad4 f),toks:=t' }:=by
 have q:=PySem.IsL.update e f;rw[hf]at q;refine I.write (x:=l) (e:=l) (by rw[hH];exact trivial) (.inl rfl) (fun b' u hb hu=>(N3 s.heap (ad4 f) (V0 hb)).trans hu) ⟨_,q⟩ ?_;exact⟨hz,its',_,hv,q⟩
theorem Inv.lnew{its:List s0}{t':Nat}(I:Inv X af σ H s) (hv:aE ys its) (hz:ys.length<=I0) :
  Inv X af σ (upd H s.heap.objs.size (.lst ys)) { s with heap:=s.heap.push { cls:=.type "list",data:=.seq its.toArray },toks:=t' } :=
 I.laid (fun _ _ q=>F1 _ q) (F7 _) ⟨hz,its,0,hv,J6 _ rfl⟩
theorem Inv.fresh(I:Inv X af σ H s):H s.heap.objs.size=none:=I.hok.fresh (F7 _)
theorem Inv.lstM(I:Inv X af σ H s) (hH:H l=some (.lst xs)):xs.length<=I0/\∃(its:List s0) (n:Nat),aE xs its/\xs.length=its.length/\s.heap.get? l=some { cls:=.type "list",data:=.seq its.toArray n }:=by
 obtain⟨z,its,n,r,e⟩:=I.hok l _ hH;exact⟨z,its,n,r,r.length,e⟩
theorem xB{n:Nat}(h:n<=I0):K7.List.listTooLong n=false:=by
 unfold K7.List.listTooLong;exact decide_eq_false (by lia)
end
section
variable{X:Cx}
def uu:V->List V->Hp->VK->Prop:=fun x vs H Q=>∃l xs y,x=.ref l/\vs=[y]/\H l=some (.lst xs)/\xs.length<I0/\Q .non (upd H l (.lst (xs++[y])))
theorem vp:MtM X "list.append" uu:=by
 intro af s σ H x vs v us Q I rx rv h;obtain⟨l,xs,y,rfl,rfl,hH,hz,q⟩:=h;cases rx;obtain⟨u,rfl,ru⟩:=rv.one;obtain⟨z,its,n,r,hl,e⟩:=I.lstM hH;refine ak5 F.slot_list_append ⟨_,e,rfl⟩ F.entry_list_append (F.args_list_append_2 _ _) (PySem.list_append l its.toArray n u (by rw[J0];lia)) ⟨e,?_⟩;refine⟨.non,_,I.lset (its':=its++[u]) hH e (by simp) (r.append (.cons ru .nil)) ?_,rfl,q⟩;rw[J1,Z7]
 lia
def FD:R2:=fun x y H Q=>∃l b xs zs,x=.ref l/\y=.ref b/\H l=some (.lst xs)/\H b=some (.lst zs)/\xs.length+zs.length<=I0/\∀p,H p=none->Q (.ref p) (upd H p (.lst (xs++zs)))
theorem wj:OpR X (Z1 .Add) FD:=by
 intro af s σ H x y v u Q I rx ry h;obtain⟨l,b,xs,zs,rfl,rfl,hH,hB,hz,q⟩:=h;cases rx;cases ry;obtain⟨z,its,n,r,hl,e⟩:=I.lstM hH;obtain⟨z2,its2,n2,r2,hl2,e2⟩:=I.lstM hB;refine PySem.P.add_list e e2 ?_ (by rw[J0,J0];lia);have ea:its.toArray++its2.toArray=(its++its2).toArray:=by simp
 rw[ea];exact⟨.ref _,_,I.lnew (t':=s.toks) (r.append r2) (by rw[J1];lia),rfl,q _ I.fresh⟩
def FI:R2:=fun x y H Q=>∃l k xs,x=.ref l/\y=.int k/\H l=some (.lst xs)/\-(2 ^ 63)<=k/\k<2 ^ 63/\xs.length*k.toNat<=I0 /\
 ∀p,H p=none->Q (.ref p) (upd H p (.lst (J7 k.toNat xs).flatten))
theorem qt{α:Type}(xs:List α) (k:Nat):(J7 k xs).flatten.length=k*xs.length:=by
 induction k with
 |zero=>simp
 |succ k ih=>rw[X7,ad5,J1,ih,Nat.succ_mul,Nat.add_comm]
theorem Di:OpR X (Z1 .Mult) FI:=by
 intro af s σ H x y v u Q I rx ry h;obtain⟨l,k,xs,rfl,rfl,hH,h1,h2,hz,q⟩:=h;cases rx;obtain⟨t,rfl⟩:=ry;obtain⟨z,its,n,r,hl,e⟩:=I.lstM hH;have bX:its.toArray.size*k.toNat<=I0:=by rw[J0,<-hl];exact hz
 have hcap:¬ its.toArray.size*k.toNat > (2 ^ 63-1) / 8:=by
  have:(I0:Nat)<=(2 ^ 63-1) / 8:=by decide
  lia
 have hfit:¬ (!Builtin.List.listFitsIndex k)=true:=by
  rw[fitsIndex_both h1 h2];exact V7
 have hlong:¬ K7.List.listTooLong (its.toArray.size*k.toNat)=true:=by
  rw[xB bX];exact V7
 have hnew:as7 (fun x1 x2=>x1++x2) #[] (J7 (if its.toArray.isEmpty=true then 0 else k.toNat) its.toArray)=(J7 k.toNat its).flatten.toArray:=by
  have f0:∀m:Nat,as7 (fun x1 x2=>x1++x2) #[] (J7 m its.toArray)=(J7 m its).flatten.toArray:=fun m=>by
   have:=kP its m [];rw[M9]at this;exact this
  rw[f0];cases its with
  |nil=>simp
  |cons a r'=>rw[if_neg (by simp)]
 refine wpAny_binaryOp_repeat_ref (T:="list") (U:="int") (by decide) ⟨_,e,rfl⟩ (fun s'=>an5 s' k t) noFill_list_mul F.fills_int_mul ag3 repeat_list F.slot_int_index.lookup
  (ak5 ag3 (an5 s k t) F.entry_int_rmul (F.args_int_rmul_2 _ _) (int___rmul___int_list k t l its.toArray n)
   ⟨e,rfl,⟨_,e,rfl⟩,ak5 F.slot_list_mul ⟨_,e,rfl⟩ F.entry_list_mul (F.args_list_mul_2 _ _) (AutoListH.list___mul___list_int_3 l its.toArray n k t hfit hcap hlong) ⟨e,?_⟩⟩)
 rw[hnew];exact⟨.ref _,_,I.lnew (t':=s.toks) (r.rep k.toNat) (by rw[qt,am1];exact hz),rfl,q _ I.fresh⟩
end
end L2
namespace Att
open PySem PySem.W PySem.Calls PyProof.Rows
theorem lu{P:Params}{h:K5}:∀(ns:List Int) (vs:List s0),WellAll P h vs (ns.map WData.int)->IntsAre vs ns:=by
 intro ns
 induction ns with
 |nil =>
  intro vs w;rw[ap0]at w;cases w;exact .nil
 |cons n ns ih =>
  intro vs w;rw[N8]at w;cases w with
  |cons a b =>
   cases a;exact .cons _ _ (ih _ b)
theorem vw{l:OpenLaw}{n:Nat}(hn:l.most=some n) {P:Params}{h:K5}{args:List WData}{vals:List s0}
  (hpre:l.row.toRowW.claim.pre args=true) (hwl:WellAll P h vals args) :
  ∃a vs ns,vals=[L7 a]/\args=[WData.list (ns.map WData.int)]/\h.get? a=some { cls:=.type "list",data:=.seq vs.toArray }/\IntsAre vs ns/\ns.length<=n:=by
 have hsh:WShape.hasAll [] args [.list .int]=true:=(pre_splitW hpre).1;have hc:l.pre.holds [] { args:=args }=true:=(pre_splitW hpre).2;obtain⟨d,r,rfl,h1,h2⟩:=hasAllW_cons hsh;obtain rfl:=hasAllW_nil h2;obtain⟨xs,rfl,h3⟩:=hasW_list h1;obtain⟨ns,rfl⟩:=items_int h3;have bX:ns.length<=n:=by
  unfold OpenLaw.pre at hc;have h4:(WTm.not (.lt (.lit (.int (n:Int))) (.len (.arg 0)))).holds [] { args:=[.list (ns.map .int)] }=true:=by
   have h4:=(holds_andW hc).1;rw[hn]at h4;exact h4
  have h5:=condW_of h4 (w_not (w_lt w_lit (w_len_list (w_arg rfl))));rw[F3]at h5;refine Nat.le_of_not_lt fun q=>?_;have q':(n:Int)<((ns.length:Nat):Int):=by lia
  first
   |(rw[decide_eq_true q']at h5;exact absurd h5 (by decide))
   |(simp at h5;lia)
 cases hwl with
 |cons w1 w2 =>
  cases w2;cases w1 with
  |list ho hall=>exact⟨_,_,ns,rfl,rfl,ho,lu ns _ hall,bX⟩
theorem vK(l:OpenLaw) (args:List WData):l.row.toRowW.claim.post args (.bool true) args=true :=
 postW_of (r:=l.row.toRowW) (X:=(true==true))
  (show WShape.has [] (.bool true) .bool=true by first|rfl|decide|simp[WShape.has,WShape.arms,WShape.armsAll])
  (show(WTm.eq .res (.lit (.bool true))).value [] { args:=args,res:=some (.bool true),after:=args }=some (.bool (true==true))from w_eq_bool (w_res rfl) w_lit) rfl
theorem attach_call{l:OpenLaw}{n:Nat}{q:K6}{loose:List Str}{XP:(Str->Option s0)->K5->Prop}{YP:Q7->K5->Prop}{d:DefRec}
  (hn:l.most=some n) (hdf:d.params.defaults=[])
  (call:∀ (w:Q7) (s₀ s₁:F2) (mg mb:Str → Option s0) (fa:F9) (o:Obj) (pm cd doc:s0) (a:F9) (vs:List s0) (ns:List Int),
   Ground q loose [] XP w s₀ mg mb s₁.heap->YP w s₁.heap ->
   s₁.heap.get? fa=some o->o.data=.func (docDef d.name d.params d.body d.scope pm cd doc)->s₁.heap.CodeRec cd d.name->mg d.name=some (.ref fa) ->
   s₁.heap.get? a=some { cls:=.type "list",data:=.seq vs.toArray }->IntsAre vs ns->ns.length<=n->s₁.gens=#[] ->
   ah6 (M0 l.prog w) ar8 (.call (.ref fa) ⟨[.ref a],[]⟩) (fun r s'=>r=.ok (.ret (.bool true))/\OldK s₁.heap s'.heap/\s'.os=s₁.os/\am5 s'.gens) s₁) :
  WalkO q loose XP YP l.row.toRowW d [] (fun f vs=>PySem.call f vs):=by
 intro w s₀ s₁ mg mb G Y fa o pm cd doc dV kV ho hd hcd hD hmg hg args vals as hpre hlay hrd hwl hlo;obtain rfl:dV=.none:=Dflts.none hD hdf;obtain rfl:kV=.none:=Dflts.noKw hD;obtain⟨a,vs,ns,rfl,rfl,hobj,hints,bX⟩:=vw hn hpre hwl;refine enter_call (aa4 (call w s₀ s₁ mg mb fa o pm cd doc a vs ns G Y ho (fd_plain hd) hcd hmg hobj hints bX hg) fun r s' hq=>?_);obtain⟨rfl,h2,h3,h4⟩:=hq;exact⟨.inl ⟨.bool true,.bool true,[],rfl,fun _=>rfl,.bool true,vK l _,fun _=>⟨List.Pairwise.nil,fun _ hm=>(nomatch hm)⟩⟩,h2,h3,h4⟩
section
variable{prog:K6}{w:Q7}{A:N6}{E:s0->F2->Prop}{s:F2}{K:Frag}
end
end Att
namespace L2
open PySem PySem.Spec PyProof.Rows
theorem oo:∀{vs:List s0}{ns:List Int},IntsAre vs ns->aE (ns.map V.int) vs
 |_,_,.nil=>.nil
 |_,_,.cons n t h=>.cons ⟨t,rfl⟩ (oo h)
def zz(H:Hp):Prop:=∀b,H b=none∨∃o xs,H b=some (.frz o (.lst xs))
theorem xY{P:K6}{w:Q7}{K:F0}{mg mb:Str->Option s0}{CX:CXT}{k:Nat}{fa a:F9}{fd:K4}{x:Str}{sp:Sp}{s₁:F2}{vs:List s0}{ns:List Int}
  (KX:K.In s₁.heap) (hns:s₁.heap.Ns K2 mg) (hb:s₁.heap.Ns builtinsNs mb) (hbb:∀x:Str,x≠"__name__"->mb x=ac1 x) (hlim:s₁.heap.NoLimit) (hg:s₁.gens=#[])
  (ha:s₁.heap.get? a=some { cls:=.type "list",data:=.seq vs.toArray }) (hi:IntsAre vs ns) (hl:ns.length<=I0) (hr:cC k ar8)
  (F:∀base:K5,K.In base->base.Ns K2 mg->a7 P w K mg base CX k fa fd [x] sp) (hbind:∀(s:F2) (u:s0),as6 s fd ⟨[u],[]⟩ [(x,u)])
  (hsp:∀H:Hp,zz H->SqL K H a (ns.map V.int)->sp [.ref a] H (fun v _=>v=.bl true) fun _ _ _=>False)
  (hCX:∀H e s',CX [] H s₁ (fun _ _ _=>False) e s'->False) :
  ah6 (M0 P w) ar8 (.call (.ref fa) ⟨[.ref a],[]⟩) (fun r s'=>r=.ok (.ret (.bool true))/\OldK s₁.heap s'.heap/\s'.os=s₁.os/\am5 s'.gens) s₁:=by
 have rv:=oo hi;have lenV:=hi.length
 -- from an abstract heap in which nothing but the script may be tracked
 have core:∀H:Hp,zz H->SqL K H a (ns.map V.int)->HOk P w H s₁.heap->(∀b,H b≠none->b=a)->(H a≠none->K.lookup a=none) ->
   ah6 (M0 P w) ar8 (.call (.ref fa) ⟨[.ref a],[]⟩) (fun r s'=>r=.ok (.ret (.bool true))/\OldK s₁.heap s'.heap/\s'.os=s₁.os/\am5 s'.gens) s₁:=by
  intro H hO hS hok hA hK;have base_of:∀{b:F9} {o:Obj},s₁.heap.get? b=some o->H b=none->(pX s₁.heap H).get? b=some o:=fun e n=>yv e n;have noA:∀{b:F9} {o:Obj} {es:Array at8} {ep:Nat},s₁.heap.get? b=some o->o.data=.dict es ep->H b=none:=fun {b o es ep} e d=>by
   cases q:H b with
   |none=>rfl
   |some u =>
    have e':b=a:=hA b (by rw[q];simp);subst e';rw[ha]at e;cases e;have d':ar4 vs.toArray _=ap6 es ep:=d;cases d'
  have nsK:∀{b:F9} {m:Str->Option s0},s₁.heap.Ns b m->(pX s₁.heap H).Ns b m:=fun {b m} ⟨o,es,ep,e,d,r⟩=>⟨o,es,ep,base_of e (noA e d),d,r⟩;have hKb:K.In (pX s₁.heap H):=fun b o e=>base_of (KX b o e) (by
   cases q:H b with
   |none=>rfl
   |some u =>
    have e':b=a:=hA b (by rw[q];simp);subst e';rw[hK (by rw[q];simp)]at e;cases e)
  have hM:Mod K mg (pX s₁.heap H):=⟨hKb,nsK hns,⟨mb,nsK hb,hbb⟩,let⟨mc,h1,h2⟩:=hlim;⟨mc,nsK h1,h2⟩⟩;have e0:sy P w K mg (pX s₁.heap H) ar8 [] s₁ H:=⟨rfl,hM,fun b o e=>AH e,Nat.le_of_eq (vW _ _),trivial,fun b hb=>absurd (show b∈([]:List F9)from hb) (by simp),hok,.of_eq hg⟩;refine aa4 ((F _ hKb (nsK hns)).run ar8 [] s₁ H ⟨[.ref a],[]⟩ [.ref a] [.ref a] _ _ hr e0 (hbind s₁ (.ref a)) (.cons rfl .nil) (hsp H hO hS)) fun r s' h=>?_;cases r with
  |error e=>exact(hCX H e s' h).elim
  |ok fl =>
   cases fl with
   |next=>exact U1 h
   |brk=>exact U1 h
   |cont=>exact U1 h
   |ret u =>
    obtain⟨v,H',os,bare,un,hok',r',q⟩:=h;have q':v=.bl true:=q;subst q';obtain rfl:u=ak0 true:=r';refine⟨rfl,OldK.of_keep fun b o e=>?_,os,bare⟩;cases q:H b with
    |none=>exact un.keep b o e q (by intro z;exact absurd (show b∈([]:List F9)from z) (by simp)) (by simp)
    |some u =>
     rcases hO b with z|⟨ob,xs,z⟩
     ·rw[q]at z;cases z
     ·have z2:=un.frzs b ob _ z;obtain⟨e1,_⟩:=hok b _ z;obtain⟨e2,_⟩:=hok' b _ z2;rw[e]at e1;cases e1;exact e2
 cases hk:K.lookup a with
 |some o =>
  -- the script is one of the module's own objects
  have e:=KX a o hk;rw[ha]at e;cases e;refine core (fun _=>none) (fun _=>.inl rfl) (.inr ⟨_,vs.toArray,_,hk,rfl,rfl,rfl,by rw[J0,lenV];exact hl,by simpa using rv⟩) (fun b u z=>by have z':(none:Option HO)=some u:=z;cases z') (fun b z=>absurd rfl z) fun z=>absurd rfl z
 |none =>
  refine core (fun b=>if b=a then some (.frz { cls:=.type "list",data:=.seq vs.toArray } (.lst (ns.map V.int)))else none) (fun b=>?_) (.inl (.inr ⟨{ cls:=.type "list",data:=.seq vs.toArray },if_pos rfl⟩)) (fun b u z=>?_) (fun b z=>?_) fun _=>hk
  ·by_cases hb:b=a
   ·exact .inr ⟨_,_,if_pos hb⟩
   ·exact .inl (if_neg hb)
  ·by_cases hb:b=a
   ·have z':=(if_pos hb).symm.trans z;cases z';subst hb;exact⟨ha,by rw[F3];exact hl,vs,_,rv,ha⟩
   ·have z':=(if_neg hb).symm.trans z;cases z'
  ·by_cases hb:b=a
   ·exact hb
   ·exact absurd (if_neg hb) z
theorem ub{l:PySem.W.OpenLaw}{n k:Nat}{q:K6}{loose:List Str}{XP:(Str->Option s0)->K5->Prop}{YP:Q7->K5->Prop}{d:DefRec}{K:Params->F0}{CX:Q7->CXT}{sp:Q7->Sp}{x:Str}
  (hn:l.most=some n) (hn2:n<=I0) (hdf:d.params.defaults=[]) (hr:cC k ar8)
  (hY:∀(w:Q7) (h:K5),YP w h->(K w.params).In h)
  (F:∀ (w:Q7) (mg:Str → Option s0) (fa:F9) (h:K5),(K w.params).In h → h.Ns K2 mg → mg d.name = some (.ref fa) →
   ∃fd:K4,(∀(s:F2) (u:s0),as6 s fd ⟨[u],[]⟩ [(x,u)]) /\
    ∀base:K5,(K w.params).In base->base.Ns K2 mg->a7 l.prog w (K w.params) mg base (CX w) k fa fd [x] (sp w))
  (hsp:∀(w:Q7) (H:Hp) (a:F9) (ns:List Int),ns.length<=n->zz H->SqL (K w.params) H a (ns.map V.int)->sp w [.ref a] H (fun v _=>v=.bl true) fun _ _ _=>False)
  (hCX:∀(w:Q7) (H:Hp) (s:F2) (e:s0) (s':F2),CX w [] H s (fun _ _ _=>False) e s'->False) :
  PySem.W.WalkO q loose XP YP l.row.toRowW d [] (fun f vs=>PySem.call f vs):=by
 refine Att.attach_call hn hdf fun w s₀ s₁ mg mb fa o pm cd doc a vs ns G Y ho hd hcd hmg hobj hints bX hg=>?_;have KX:=hY w _ Y;obtain⟨fd,hb,hF⟩:=F w mg fa _ KX G.T.g hmg;exact xY KX G.T.g G.T.b G.T.builtins G.T.nolimit hg hobj hints (O4 bX hn2) hr hF hb (fun H hO hS=>hsp w H a ns bX hO hS) fun H e s'=>hCX w H s₁ e s'
end L2
/- THE LAST THEOREM (shape; LID,My.* are yours):
   My.Adr: a structure of the addresses that your layer names (classes,functions);My.Txt K t: a structure (Prop) of the equations over K;
   My.txt_mk:{K} {implicit addresses ..} (e1:nsIn K K2 "law"=some (some (.ref f))) (e2:K.lookup f=some ⟨oc,od,.func (fnOf "law" "law" params body scope dV kV doc pm an cdv ct),sl⟩) (e3:codeIn K cdv "law"=true) ..:∃t,My.Txt K t
set_option maxRecDepth 100000 in
set_option maxHeartbeats 0 in
theorem PySem.Challenge.cw_LID_holds : PySem.Challenge.rw_LID.Holds := by
 w_on;o_law;k_head;(case hw=>w_witness2)
 k_fill
 refine L2.ub (l:=PySem.Challenge.rw_LID) (n:=63) (k:=40) (x:="script") (CX:=fun w=>..) (sp:=fun _=>My.sp_law) rfl (by decide) rfl ⟨rfl,by decide,by decide⟩ (fun w h Y=>PySem.W.kIn_of Y) ?F ?S ?C
 case F =>
  intro w mg fa h KX G hmg;have T:∃t,My.Txt (L2.KOf KX) t:=by
   dsimp only[L2.KOf]                          -- K must stand as «<heap const> w.params» for k_is
   refine' My.txt_mk ?e1 ?e2 ?e3 ..
   (case e1=>PySem.W.k_is)                    -- in the order: a name->its address->its object->its parts
   (case e2=>PySem.W.k_is)
   ..
  obtain⟨t,T⟩:=T;have e0:=hmg.symm.trans (P8 KX G T.law);cases e0                                       -- fa is the law's own address;exact⟨_,fun s u=>.of_eq rfl,fun base kb nb=>My.law_fn T kb nb⟩     -- if «.of_eq rfl» comes too early: refine' ⟨_,?b,fun base kb nb=>My.law_fn T kb nb⟩;exact fun s u=>.of_eq rfl
 case S=>exact fun w H a ns hl hO hS=>..
 case C=>exact ..
(the tactic k_is has no namespace: write k_is) -/
namespace L2
open PySem PySem.Spec PyProof.Rows
def fE(s:aa1):Arguments:=match s with
 |.FunctionDef _ a _ _ _ _ _ _ _ _=>a
 |_=>{ posonlyargs:=[],args:=[],vararg:=none,kwonlyargs:=[],kw_defaults:=[],kwarg:=none,defaults:=[] }
def cO(s:aa1):List aa1:=match s with
 |.FunctionDef _ _ b _ _ _ _ _ _ _=>b
 |_=>[]
def ah(s:aa1):af8:=match s with
 |.FunctionDef _ _ _ _ _ _ sc _ _ _=>sc
 |_=>{ kind:=.function,names:=[],isGenerator:=false,isCoroutine:=false }
abbrev CX0:CXT:=fun _ _ _ _ _ _=>False
abbrev E0:XK:=fun _ _ _=>False
theorem Bc{X:Cx}:sG CX0 X E0:=fun _ _ _ _ _ _ _ h=>h.elim
structure Fun(K:F0) (x qual:Str) (st:aa1) (f:F9) (fd:K4):Prop where
 ex:∃(oc:s0) (od:Option F9) (kV doc pm:s0) (an:Option F9) (cdv ct:s0) (osl:Array (Option s0)),
  fd=ac3 x qual (fE st) (cO st) (ah st) .none kV doc pm an cdv ct/\K.lookup f=some ⟨oc,od,.func fd,osl⟩/\al4 K cdv qual=true
 kp:W3 K (.ref f)=true
section
variable{P:K6}{w:Q7}{K:F0}{mg:Str->Option s0}{base:K5}{f:F9}{fd:K4}
theorem Fun.ok{x qual:Str}{st:aa1}{f:F9}{fd:K4}{N ps:List Str}{k:Nat}{sp:Sp}(F:Fun K x qual st f fd) (S:ay N ps (ah st)) (len:∀vs H Q E,sp vs H Q E->vs.length=ps.length)
  (hbody:∀ (cdv:s0) (A:N6) (outer:List Env) (s:F2) (H:Hp) (vs:List V) (Q:VK) (E:XK),cC k (A.deeper (aj4 qual (ah st) s.heap.objs.size f cdv)) → sp vs H Q E →
   ∃t,PSs (mn CX0 P w K mg base N qual (ah st) f cdv A outer s H E).nox (cO st) t/\t { nx:=fun _ H'=>Q .non H',rt:=Q } (gR N vs) H):a7 P w K mg base CX0 (k+1) f fd ps sp:=by
 obtain⟨oc,od,kV,doc,pm,an,cdv,ct,osl,rfl,lk,hcd⟩:=F.ex;refine Bk lk hcd S len fun A outer s H vs Q E hr hsp=>?_;obtain⟨t,h,q⟩:=hbody cdv A outer s H vs Q E hr hsp;exact⟨t,h.nox,q⟩
theorem Fun.binds{x qual:Str}{st:aa1}{f:F9}{fd:K4}{ps:List Str}(F:Fun K x qual st f fd)
  (h:∀(kV doc pm:s0) (an:Option F9) (cdv ct:s0) (us:List s0),us.length=ps.length->bindArgs (ac3 x qual (fE st) (cO st) (ah st) .none kV doc pm an cdv ct) ⟨us,[]⟩=af5 (ps.zip us)):cZ K fd ps []:=by
 obtain⟨oc,od,kV,doc,pm,an,cdv,ct,osl,rfl,lk,hcd⟩:=F.ex;exact .all (h kV doc pm an cdv ct)
theorem sJ{x qual:Str}{st:aa1}{f:F9}{oc:s0}{od an:Option F9}{osl:Array (Option s0)}{kV doc pm cdv ct:s0}(l:K.lookup f=some ⟨oc,od,.func (ac3 x qual (fE st) (cO st) (ah st) .none kV doc pm an cdv ct),osl⟩)
  (c:al4 K cdv qual=true) (k:W3 K (.ref f)=true):Fun K x qual st f (ac3 x qual (fE st) (cO st) (ah st) .none kV doc pm an cdv ct):=⟨⟨oc,od,kV,doc,pm,an,cdv,ct,osl,rfl,l,c⟩,k⟩
end
theorem oM{n:Nat}(h:n<=1000):n<I0:=aj5 h (by decide)
section
variable{X:Cx}
theorem pv(i:Nat) {x:Str}{pos:Pos}(hN:X.N[i]?=some x:=by rfl) (hv:Vis X.env.scope x:=by first|exact Q9 rfl|exact ao0 (Q9 rfl)|exact ao0 (ao0 rfl)) (hd:(x==("__debug__":Str))=false:=by decide)
  (hcd:(x==("__classdict__":Str))=false:=by decide):PE X (.Name x pos) (vi i):=yH hN hv hd hcd
end
theorem b6{c A B:Prop} [Decidable c] (h1:c->A) (h2:¬ c->B):if c then A else B:=by
 by_cases h:c
 ·rw[if_pos h];exact h1 h
 ·rw[if_neg h];exact h2 h
section
variable{κ:Type} [DecidableEq κ]
noncomputable def qX(kvs:List (κ×V)) (k:κ):Option V:=(kvs.find? fun kv=>decide (kv.1=k)).map (·.2)
noncomputable def zE(kvs:List (κ×V)) (k:κ) (v:V):List (κ×V) :=
 if(kvs.any fun kv=>decide (kv.1=k))=true then kvs.map (fun kv=>if kv.1=k then(kv.1,v)else kv)else kvs++[(k,v)]
def FW(kvs:List (κ×V)) (k:κ):List (κ×V):=kvs.filter fun kv=>decide (kv.1≠k)
theorem qQ{p:κ×V}{r:List (κ×V)}{k:κ}(e:p.1=k):qX (p::r) k=some p.2:=by simp[qX,ab3,e]
theorem rS{p:κ×V}{r:List (κ×V)}{k:κ}(e:¬ p.1=k):qX (p::r) k=qX r k:=by simp[qX,ab3,e]
theorem yC.getD{o:Option V}{u:Option s0}{d:V}{d':s0}(r:yC o u) (rd:aX d d'):aX (o.getD d) (u.getD d'):=by
 cases o with
 |none=>cases u with
  |none=>exact rd
  |some _=>exact(show False from r).elim
 |some _=>cases u with
  |none=>exact(show False from r).elim
  |some _=>exact r
theorem KV.val{kvs:List (κ×V)}{vs:List (κ×s0)}(r:KV kvs vs) (k:κ):yC (qX kvs k) (at9 vs k):=by
 unfold KV at r
 induction r with
 |nil=>exact True.intro
 |@cons p q ps qs h t ih =>
  obtain⟨h1,h2⟩:=h
  by_cases e:p.1=k
  ·have e':q.1=k:=h1.symm.trans e;have b:at9 (q::qs) k=some q.2:=by simp[at9,ab3,e']
   rw[qQ e,b];exact h2
  ·have e':¬ q.1=k:=fun z=>e (h1.trans z);have b:at9 (q::qs) k=at9 qs k:=by simp[at9,ab3,e']
   rw[rS e,b];exact ih
theorem KV.any{kvs:List (κ×V)}{vs:List (κ×s0)}(r:KV kvs vs) (k:κ):(kvs.any fun kv=>decide (kv.1=k))=vs.any fun kv=>decide (kv.1=k):=by
 unfold KV at r
 induction r with
 |nil=>rfl
 |cons h t ih=>rw[ac4,ac4,ih,h.1]
theorem KV.repl{kvs:List (κ×V)}{vs:List (κ×s0)}(r:KV kvs vs) (k:κ) {y:V}{u:s0}(ry:aX y u) :
  KV (kvs.map fun kv=>if kv.1=k then(kv.1,y)else kv) (vs.map fun kv=>if kv.1=k then(kv.1,u)else kv):=by
 unfold KV at r ⊢
 induction r with
 |nil=>exact .nil
 |@cons p q ps qs h t ih =>
  rw[N8,N8];refine .cons ?_ ih;obtain⟨h1,h2⟩:=h
  by_cases e:p.1=k
  ·rw[if_pos e,if_pos (h1.symm.trans e)];exact⟨h1,ry⟩
  ·rw[if_neg e,if_neg (fun z=>e (h1.trans z))];exact⟨h1,h2⟩
theorem KV.put{kvs:List (κ×V)}{vs:List (κ×s0)}(r:KV kvs vs) (k:κ) {y:V}{u:s0}(ry:aX y u):KV (zE kvs k y) (stored vs k u):=by
 unfold zE stored;rw[r.any k]
 by_cases e:(vs.any fun kv=>decide (kv.1=k))=true
 ·rw[if_pos e,if_pos e];exact r.repl k ry
 ·rw[if_neg e,if_neg e];exact ae0.snoc r ⟨rfl,ry⟩
theorem KV.length{kvs:List (κ×V)}{vs:List (κ×s0)}(r:KV kvs vs):kvs.length=vs.length:=ae0.length r
end
theorem wo{P:K6}{w:Q7}{H:Hp}(h:K5) (hb:as3<h.objs.size):cj P w H (h.push { cls:=.type "dict",data:=.dict #[] }) h.objs.size (.dK []) :=
 ⟨Q5 _,beq_eq_false_iff_ne.mpr (V0 (L6 hb)),[],.nil,K5.DictOf.new h⟩
structure M1(X:Cx) (o:O3) (m:Str) (iZ:Pos) (e:O3) (cu:Pos):Prop where
 base:ae4 o m X.env (ab7 o X.env)=ab7 o X.env
 few:((V4 cu (F8 [e] X.env)).all (fun x=>!x.1)&&(ar3 cu (ak3 [] X.env)).all (fun x=>x.1.isSome)
 &&decide (([e]:List O3).length+([]:List an9).length+(if([]:List an9).isEmpty then 0 else 1)<30))=true
 line:(iZ.endLine==cu.line)=true
 trees:V4 cu (F8 [e] X.env)=[(false,ab7 e X.env)]
structure M2(X:Cx) (o:O3) (m:Str) (iZ:Pos) (e f:O3) (cu:Pos):Prop where
 base:ae4 o m X.env (ab7 o X.env)=ab7 o X.env
 few:((V4 cu (F8 [e,f] X.env)).all (fun x=>!x.1)&&(ar3 cu (ak3 [] X.env)).all (fun x=>x.1.isSome)
 &&decide (([e,f]:List O3).length+([]:List an9).length+(if([]:List an9).isEmpty then 0 else 1)<30))=true
 line:(iZ.endLine==cu.line)=true
 trees:V4 cu (F8 [e,f] X.env)=[(false,ab7 e X.env),(false,ab7 f X.env)]
noncomputable def aH(X:Cx) (scope:af8) (cl:List (Str×F9)) (N:List Str) (C:F9) (s:F2) (H:Hp) (ex:List F9):Cx where
 prog:=X.prog
 w:=X.w
 K:=X.K
 mg:=X.mg
 base:=X.base
 A:=X.A
 N:=N
 s₀:=s
 H₀:=H
 env:=as2 scope cl C X.env
 outer:=X.stack
 stack:=X.stack
 ex:=ex
 calm:=X.calm
 fn:=fun _=>false
 pn:=[]
 xe:=fun _ _=>False
noncomputable def bU:List Bool->St->St
 |true::ms,v::σ=>v::bU ms σ
 |false::ms,_::σ=>none::bU ms σ
 |[],_::σ=>none::bU [] σ
 |_,[]=>[]
theorem bW:∀(ms:List Bool) (σ:St),(bU ms σ).length=σ.length
 |true::ms,v::σ=>by simp[bU,bW ms σ]
 |false::ms,_::σ=>by simp[bU,bW ms σ]
 |[],_::σ=>by simp[bU,bW [] σ]
 |[],[]=>by simp[bU]
 |true::_,[]=>by simp[bU]
 |false::_,[]=>by simp[bU]
theorem iY:∀{ms:List Bool}{σ:St}{i:Nat}{v:V},(bU ms σ)[i]?=some (some v)->ms[i]?=some true/\σ[i]?=some (some v)
 |true::ms,v::σ,0,x,h=>by simpa[bU]using h
 |true::ms,v::σ,i+1,x,h=>by
  have:=iY (ms:=ms) (σ:=σ) (i:=i) (v:=x) (by simpa[bU]using h);simpa using this
 |false::ms,_::σ,0,x,h=>by simp[bU]at h
 |false::ms,_::σ,i+1,x,h=>by
  have:=iY (ms:=ms) (σ:=σ) (i:=i) (v:=x) (by simpa[bU]using h);simpa using this
 |[],_::σ,0,x,h=>by simp[bU]at h
 |[],_::σ,i+1,x,h=>by
  have:=iY (ms:=[]) (σ:=σ) (i:=i) (v:=x) (by simpa[bU]using h);simpa using this
 |[],[],_,_,h=>by simp[bU]at h
 |true::_,[],_,_,h=>by simp[bU]at h
 |false::_,[],_,_,h=>by simp[bU]at h
def i7(ms:List Bool) (k:Nat) (σ:St):St:=bU ms σ++J7 k none
theorem vY{ms:List Bool}{k:Nat}{σ:St}{i:Nat}{v:V}(h:(i7 ms k σ)[i]?=some (some v)):i<σ.length/\ms[i]?=some true/\σ[i]?=some (some v):=by
 unfold i7 at h
 by_cases hi:i<(bU ms σ).length
 ·rw[T5 hi]at h;exact⟨by rwa [bW]at hi,iY h⟩
 ·rw[X3 (by lia),ae5]at h
  split at h<;>cases h
structure fo(X:Cx) (scope:af8) (cl:List (Str×F9)) (ms:List Bool) (ao:List Str):Prop where
 kind:scope.kind=.function
 ncell:∀y∈scope.names,y.2≠.cell
 names:∀y∈scope.names,y.2=.local->scope.names.lookup y.1=some .local
 clos:closureFor scope X.env=af5 cl
 sub:∀x c,cl.lookup x=some c->X.env.cells.lookup x=some c
 has:∀x,scope.names.lookup x=some .free->∃c,cl.lookup x=some c
 fr:∀x,scope.names.lookup x=some .free->X.env.scope.names.lookup x=some .cell∨X.env.scope.names.lookup x=some .free
 mask:∀(i:Nat) (x:Str),ms[i]?=some true->X.N[i]?=some x->scope.names.lookup x=some .free
 mlen:ms.length<=X.N.length
theorem kh{env:Env}:∀{names:List (Str×U2)}{x:Str}{k:U2},
  (names.map fun(n,k)=>if(k==Z4&&env.scope.kind==.function&&env.kindOf n==some .cell)then(n,aj6)else(n,k)).lookup x=some k->(∀y∈names,y.2≠.cell)->k=.cell∨k=.free->names.lookup x=some .free
 |[],_,_,h,_,_=>by simp at h
 |(n,k0)::r,x,k,h,hc,hk=>by
  have ih:=@kh env r x k;have h:ar9 x ((if(k0==Z4&&env.scope.kind==.function&&env.kindOf n==some .cell)=true then(n,aj6)else(n,k0))::_)=some k:=h;cases hx:x==n with
  |true =>
   by_cases hq:(k0==Z4&&env.scope.kind==.function&&env.kindOf n==some .cell)=true
   ·have:k0=.free:=by
     simp at hq;exact hq.1.1
    subst this;simp[S2,hx]
   ·rw[if_neg hq]at h;simp only[S2,hx]at h;cases h;rcases hk with rfl|rfl
    ·exact absurd rfl (hc (n,.cell) R5)
    ·simp[S2,hx]
  |false =>
   by_cases hq:(k0==Z4&&env.scope.kind==.function&&env.kindOf n==some .cell)=true
   ·rw[if_pos hq]at h;simp only[S2,hx]at h ⊢;exact ih h (fun y hy=>hc y (O0 _ hy)) hk
   ·rw[if_neg hq]at h;simp only[S2,hx]at h ⊢;exact ih h (fun y hy=>hc y (O0 _ hy)) hk
theorem kf{env:Env}:∀{names:List (Str×U2)}{x:Str},names.lookup x=some .free ->
  (names.map fun(n,k)=>if(k==Z4&&env.scope.kind==.function&&env.kindOf n==some .cell)then(n,aj6)else(n,k)).lookup x=some .cell ∨
  (names.map fun(n,k)=>if(k==Z4&&env.scope.kind==.function&&env.kindOf n==some .cell)then(n,aj6)else(n,k)).lookup x=some .free
 |[],_,h=>by simp at h
 |(n,k0)::r,x,h=>by
  have ih:=@kf env r x;show ar9 x ((if(k0==Z4&&env.scope.kind==.function&&env.kindOf n==some .cell)=true then(n,aj6)else(n,k0))::_)=_∨ar9 x ((if(k0==Z4&&env.scope.kind==.function&&env.kindOf n==some .cell)=true then(n,aj6)else(n,k0))::_)=_;cases hx:x==n with
  |true =>
   simp only[S2,hx]at h;cases h
   split
   ·left;simp[S2,hx]
   ·right;simp[S2,hx]
  |false =>
   simp only[S2,hx]at h
   split<;>(simp only[S2,hx];exact ih h)
section
variable{X:Cx}{af:List (F9×Obj)}{σ:St}{H H2:Hp}{s s2:F2}{scope:af8}{cl:List (Str×F9)}{ms:List Bool}{ao:List Str}
theorem wb(I:Inv X af σ H s) (S:fo X scope cl ms ao) {fp:List F9}(hfp:∀b∈fp,j4 X af H b) (hlt:∀b∈fp,b<s.heap.objs.size) {C:F9}(hC:s.heap.objs.size<=C) :
  (aH X scope cl (X.N++ao) C s H fp).Ok where
 mod:=I.ok.mod
 kind:=S.kind
 glob:=I.ok.glob
 blt:=I.ok.blt
 above:=hC
 inj:=fun x y c h1 h2=>I.ok.inj x y c (S.sub x c h1) (S.sub y c h2)
 has:=fun x hx=>S.has x (kh (env:=X.env) (k:=if(aH X scope cl (X.N++ao) C s H fp).env.kindOf x=some .cell then .cell else .free) (by
  rcases hx with hx|hx
  ·rw[if_pos hx];exact hx
  ·rw[if_neg (by rw[hx];decide)];exact hx) S.ncell (by split<;>simp))
 cab:=fun x c h=>by cases h
 hd:=I.ok.hd
 frames:=I.ok.frames
 stk:=.inl rfl
 exf:=fun b hb=>⟨L6 (J9 (hlt b hb) hC),fun x c e=>(hfp b hb).2.2.2.2.1 x c (S.sub x c e)⟩
 bs:=I.bs
 bsz:=O4 I.ok.bsz I.sz
 noex:=fun b o e hb=>by
  rcases(hfp b hb).2.2.2.1 with z|z
  ·exact I.ok.noex b o e z
  ·exact absurd (J9 (J8 e) (O4 I.ok.bsz z)) (ac0 _)
 exfs:=fun b hb z=>by
  rcases J3.mp (I.stkSub b z)with e|e
  ·exact(hfp b hb).2.1 e
  ·exact(hfp b hb).2.2.1 e
 funs:=I.stack
 frf:=I.stkFree
theorem Ar(I:Inv X af σ H s) (S:fo X scope cl ms ao) {fp:List F9}(hfp:∀b∈fp,j4 X af H b) (hlt:∀b∈fp,b<s.heap.objs.size) {C:F9}(hC:s.heap.objs.size<=C)
  (os:s2.os=s.os) (bare:am5 s2.gens) (keep:∀b o,s.heap.get? b=some o->s2.heap.get? b=some o) {m:Str->Option s0} (hn:s2.heap.Ns C m) :
  Inv (aH X scope cl (X.N++ao) C s H fp) [] (i7 ms ao.length σ) H s2 where
 ok:=wb I S hfp hlt hC
 os:=os
 bare:=bare
 base:=Un.kept keep
 loc:=⟨m,hn,fun i x v h1 h2 h3=>by
  obtain⟨hi,hm,hv⟩:=vY h2;have hiN:i<X.N.length:=by rw[<-I.len];exact hi
  have hx:X.N[i]?=some x:=by
   have h1':(X.N++ao)[i]?=some x:=h1
   rwa [T5 hiN]at h1'
  have hf:=S.mask i x hm hx;obtain⟨m0,hn0,hl⟩:=I.loc;obtain⟨u,r,l⟩:=hl i x v hx hv (by rcases S.fr x hf with z|z<;>simp[Vis,z]);refine⟨u,r,.inr ⟨?_,?_⟩⟩
  ·exact kf (env:=X.env) hf
  ·obtain⟨c,hc⟩:=S.has x hf;have hc':=S.sub x c hc;rcases l with⟨k,_⟩|⟨_,c',e,z⟩
   ·rcases S.fr x hf with z|z<;>(have k':X.env.scope.names.lookup x=some .local:=k;rw[z]at k';cases k')
   ·rw[hc']at e;cases e;obtain⟨o,ho,hd⟩:=z;exact⟨c,hc,o,keep _ _ ho,hd⟩⟩
 cell:=fun x c e=>by
  obtain⟨v,o,ho,hd⟩:=I.cell x c (S.sub x c e);exact⟨v,o,keep _ _ ho,hd⟩
 free:=I.hok.fresh hC
 freeC:=fun x c e=>I.freeC x c (S.sub x c e)
 pin:=fun p hp=>absurd (show p∈([]:List (F9×Obj))from hp) (by simp)
 hok:=I.hok.kept keep
 len:=by
  unfold i7;rw[J1,bW,List.length_replicate,I.len];show _=(X.N++ao).length;rw[J1]
end
def PIf(X:Cx) (ifs:List O3) (t:TT):Prop :=
 ∀(af:List (F9×Obj)) (s:F2) (σ:St) (H:Hp) (Q:Bool->Hp->Prop),Inv X af σ H s->t σ H Q ->
  J4 (M0 X.prog X.w) X.A (forIn ifs true fun c r=>if r=true then do let ok <-isTrue c X.env (ab7 c X.env);af5 (W6 ok)else af5 (W6 r)) (TP X af σ Q) X.xe s
def Fl:TT:=fun _ H Q=>Q true H
theorem zY{X:Cx}:PIf X [] Fl:=fun _ _ _ H _ I h=>wpAny_tests_nil ⟨H,I,h⟩
theorem Az{X:Cx}{c:O3}{t:TT}(h:PT X c t):PIf X [c] t:=fun af s σ H Q I q=>wpAny_tests_one (h af s σ H Q I q)
abbrev fY(its:List s0) (n:Nat):Obj:={ cls:=.type "list",data:=.seq its.toArray n }
theorem thF{α:Type}{t:Sem α}{Q Q':α->F2->Prop}{M:at2}{A:N6}{E:s0->F2->Prop}{s:F2}(hE:E=fun _ _=>False) (h:J4 M A t Q E s) (hQ:∀a s,Q a s->Q' a s):J4 M A t Q' (fun _ _=>False) s:=Q8 h hQ fun e s x=>by rw[hE]at x;exact x
abbrev lcE(el:O3) (gs:List an1) (sc:af8) (ps:Pos):O3:=.ListComp el gs sc ps
section
variable{prog:K6}{w:Q7}{A:N6}{R:at1->F2->Prop}{s:F2}{el tg elt i:O3}{fs:List O3}{k:Nat}{p:Pos}{it acc:s0}{env:Env}{gs:List an1}{sc:af8}{ps:Pos}
abbrev AWt:=(F2->Prop)->F2->Prop
def u9(prog:K6) (w:Q7) (A:N6) (elt:O3) (acc:s0) (env:Env):AWt:=fun Ok s=>J4 (M0 prog w) A (ab7 elt env) (fun x s₄=>J4 (M0 prog w) A (call (.builtin "list.append") [acc,x]) (fun _ s₅=>Ok s₅) (fun _ _=>False) s₄) (fun _ _=>False) s
def xG(prog:K6) (w:Q7) (A:N6) (ce:O3) (k:Nat) (i:O3) (acc:s0) (env:Env):AWt:=fun Ok s=>J4 (M0 prog w) A (ab7 i env) (fun x s₄=>J4 (M0 prog w) A (aq6 x) (fun it2 s₅ =>
 ah6 (M0 prog w) A (.compStart ce k it2 acc env) (fun r s₆=>(∃f,r=.ok f)/\Ok s₆) s₅) (fun _ _=>False) s₄) (fun _ _=>False) s
def zQ(ce:O3) (k:Nat) (p:Pos) (tg:O3) (fs:List O3) (bd:s0->s0->Env->Sem Fin):Prop:=∀it acc env,compTurn ce k it acc env=(do
  aq7 p
  let r <-an7 it
  match r with
   |none=>af5 (Fin.done Flow.next)
   |some v=>do
    aj2 tg it v
    ao8 tg env v
    let ok <-forIn fs true fun c r=>if r=true then do let ok <-PySem.isTrue c env (ab7 c env);af5 (W6 ok)else af5 (W6 r)
    if ok=true then bd it acc env else again (ah0 ce k it acc env))
def zK(prog:K6) (w:Q7) (A:N6) (ce:O3) (k:Nat) (bd:s0->s0->Env->Sem Fin) (it acc:s0) (env:Env) (AW:AWt):Prop :=
 ∀Ok s (R:at1->F2->Prop) (E:s0->F2->Prop),AW Ok s->J4 (M0 prog w) A (bd it acc env) (fun fin s'=>match fin with|.done f=>R (.ok f) s'|.again c'=>c'=ah0 ce k it acc env/\Ok s') E s
theorem nt{bd:s0->s0->Env->Sem Fin}{AW:AWt}(hT:zQ (lcE el gs sc ps) k p tg fs bd) (hq:(ah0 (lcE el gs sc ps) k it acc env).quiet=true:=by rfl) (hb:zK prog w A (lcE el gs sc ps) k bd it acc env AW) (I:Nat->F2->Prop)
  (turn:∀ n s,I n s → J4 (M0 prog w) A (an7 it) (fun r s₁ => match r with
   |none=>R (.ok .next) s₁
   | some v => J4 (M0 prog w) A (aj2 tg it v) (fun _ s₁ => J4 (M0 prog w) A (ao8 tg env v) (fun _ s₂ =>
     J4 (M0 prog w) A (forIn fs true fun c r=>if r=true then do let ok <-isTrue c env (ab7 c env);af5 (W6 ok)else af5 (W6 r)) (fun ok s₃ =>
      if ok=true then AW (fun s₅=>∃m,m<n/\I m s₅) s₃
      else ∃m,m<n/\I m s₃) (fun _ _=>False) s₂) (fun _ _=>False) s₁) (fun _ _=>False) s₁) (fun _ _=>False) s)
  (n:Nat) (h:I n s) :
  ah6 (M0 prog w) A (.compLoop (lcE el gs sc ps) k it acc env) R s:=by
 refine codeAny_loop hq I (fun n s hI=>?_) n h;show J4 _ A ((compTurn (lcE el gs sc ps) k it acc env).onRaise (fun x=>do aq9 x env;theTreesLotGoes x)) _ _ s;refine wpAny_noted ?_;rw[hT];refine o0 (ag9 (o0 (Q8 (turn n s hI) (fun r s₁ h₁=>?_) fun _ _ h'=>h'.elim)));cases r with
 |none=>exact u8 h₁
 |some v =>
  refine o0 (Q8 h₁ (fun _ s1 h₁=>?_) fun _ _ h'=>h'.elim);refine o0 (Q8 h₁ (fun _ s₂ h₂=>o0 (Q8 h₂ (fun ok s₃ h₃=>?_) fun _ _ h'=>h'.elim)) fun _ _ h'=>h'.elim);cases ok with
  |false=>exact u8 ⟨rfl,h₃⟩
  |true=>exact hb _ _ _ _ h₃
noncomputable def Bi(ce:O3) (k:Nat) (elt:O3):s0->s0->Env->Sem Fin:=fun it acc env=>bind (bind (ab7 elt env) fun x=>bind (call (ah1 "list.append") [acc,x]) fun _=>af5 ()) fun(_:Unit)=>again (ah0 ce k it acc env)
noncomputable def A8(ce:O3) (k:Nat) (i:O3):s0->s0->Env->Sem Fin:=fun it acc env=>do
 let x <-ab7 i env
 aq7 i.pos
 let x <-Q0 i env x
 let it2 <-ak1 [x] (aq6 x)
 let _ <-runOwn (at4.compStart ce (k+1) it2 acc env) env
 again (ah0 ce k it acc env)
theorem Ag:zK prog w A (lcE el gs sc ps) k (Bi (lcE el gs sc ps) k elt) it acc env (u9 prog w A elt acc env):=fun Ok s R E h =>
 o0 (o0 (Q8 h (fun x s₄ h₄=>o0 (Q8 h₄ (fun _ s₅ h₅=>u8 (u8 ⟨rfl,h₅⟩)) fun _ _ h'=>h'.elim)) fun _ _ h'=>h'.elim))
theorem zw(hs:∀x,Q0 i env x=af5 x):zK prog w A (lcE el gs sc ps) k (A8 (lcE el gs sc ps) k i) it acc env (xG prog w A (lcE el gs sc ps) (k+1) i acc env):=fun Ok s R E h=>by
 refine o0 (Q8 h (fun x s₄ h₄=>o0 (ag9 ?_)) fun _ _ h'=>h'.elim);rw[hs x];refine o0 (u8 (o0 (O9 (Q8 h₄ (fun it2 s₅ h₅=>?_) fun _ _ h'=>h'.elim))));refine o0 (wpAny_runOwn (aa4 h₅ fun r s₆ h₆=>?_));obtain⟨⟨f,rfl⟩,h₆⟩:=h₆;exact u8 ⟨rfl,h₆⟩
def yW(ce:O3) (k:Nat) (p:Pos):Prop:=∀it acc env,compStart ce k it acc env=(do
  let r <-ask
  if r.params.followText "comprehension-iter-twice"=true then again (ah0 ce k it acc env)
   else do
    rule "comprehension.iter-twice"
    aq7 p
    let i <-aq6 it
    again (ah0 ce k i acc env))
theorem nc(hS:yW (lcE el gs sc ps) k p) (h:ah6 (M0 prog w) A (.compLoop (lcE el gs sc ps) k it acc env) R s)
  (h2:J4 (M0 prog w) A (aq6 it) (fun it' s'=>ah6 (M0 prog w) A (.compLoop (lcE el gs sc ps) k it' acc env) R s') (fun _ _=>False) s) :
  ah6 (M0 prog w) A (.compStart (lcE el gs sc ps) k it acc env) R s:=by
 refine aj7 ?_;show J4 _ A ((compStart (lcE el gs sc ps) k it acc env).onRaise (fun x=>do aq9 x env;aq7 theWindowsPlace)) _ _ s;refine wpAny_onRaise ?_;rw[hS];refine o0 (ai0 ?_);dsimp only
 split
 ·exact u8 ⟨rfl,h⟩
 ·exact o0 (ak6 (o0 (ag9 (o0 (Q8 h2 (fun it' s' h'=>u8 ⟨rfl,h'⟩) fun _ _ h'=>h'.elim)))))
end
abbrev BK:=List V->St->Hp->(List V->St->Hp->Prop)->Prop
def kA(J:It) (g:TG) (tc:TT) (B:BK) (W:Nat->Nat->List V->St->Hp->Prop) (Z:List V->St->Hp->Prop):Prop :=
 ∀i m ys σ H,W i m ys σ H->ys.length<=I0/\((J.stop i H/\Z ys σ H) ∨
  (J.go i H/\∀x H',J.yld i H x H'->g x σ H' fun σ2 H2=>tc σ2 H2 fun b H3=>if b=true then B ys σ2 H3 (fun ys' σ' H'=>∃m',m'<m/\W (i+1) m' ys' σ' H')else ∃m',m'<m/\W (i+1) m' ys σ2 H3))
def k8(te:TE):BK:=fun ys σ H Z=>te σ H fun y H'=>Z (ys++[y]) σ H'
def qT(wi:TI) (g:TG) (tc:TT) (B:BK):BK:=fun ys σ H Z=>wi σ H fun J H'=>∃W:Nat->Nat->List V->St->Hp->Prop,(∃m,W 0 m ys σ H')/\kA J g tc B W Z
section
variable{Y:Cx}{D:F9}{el tg elt i1:O3}{fs:List O3}{g:TG}{tc:TT}{te:TE}{wi:TI}{B:BK}{k:Nat}{p:Pos}{gs:List an1}{sc:af8}{ps:Pos}
def Bn(Y:Cx) (D:F9) (AW:AWt) (B:BK):Prop:=∀(P:List (F9×Obj)) (its:List s0) (nn:Nat) (ys:List V) (σ:St) (H:Hp) (s:F2) (Z:List V->St->Hp->Prop),Inv Y ([(D,fY its nn)]++P) σ H s->aE ys its->ys.length<=I0->(∀p∈P,p.1≠D)->B ys σ H Z ->
 AW (fun s'=>∃ys' its' n' σ' H',Inv Y ([(D,fY its' n')]++P) σ' H' s'/\aE ys' its'/\Z ys' σ' H') s
structure md(Y:Cx) (D:F9):Prop where
 pn:Y.pn=[]
 calm:Y.calm=true
 xe:Y.xe=fun _ _=>False
 ex:D∈Y.ex∨Y.s₀.heap.objs.size<=D
 cell:∀x c,Y.env.cells.lookup x=some c->c≠D
theorem AWt.mono_leaf{prog:K6}{w:Q7}{A:N6}{acc:s0}{env:Env}{Ok Ok':F2->Prop}{s:F2}(h:u9 prog w A elt acc env Ok s) (k:∀s,Ok s->Ok' s):u9 prog w A elt acc env Ok' s :=
 Q8 h (fun _ _ h1=>Q8 h1 (fun _ _ h2=>k _ h2) fun _ _ x=>x) fun _ _ x=>x
theorem v6(c:md Y D) (he:PE Y elt te):Bn Y D (u9 Y.prog Y.w Y.A elt (.ref D) Y.env) (k8 te):=by
 intro P its nn ys σ H s Z I rv hz hPD q;refine thF c.xe (he _ s σ H _ I q) fun v s9 hup=>hup.el fun y H9 I9 r9 q9=>?_;have pacc:=I9.pin (D,fY its nn) (O5 _ (List.mem_append_left _ R5));have hzi:its.toArray.size<=I0:=by rw[J0,<-rv.length];exact hz
 refine PySem.wpAny_list_append_plain (hsz:=hzi) ⟨nn,pacc.1⟩ fun h' hl' hs'=>?_;obtain⟨n',hl'⟩:=hl';have I10:Inv Y [] σ H9 { s9 with heap:=h' } :=
  Inv.turned (t':=s9.toks) (it:=D) (I9.pins_of fun p hp=>absurd hp (by simp)) (fun b o hb e=>(hs'.2 b hb).trans e) pacc.2.1 pacc.2.2.1 c.ex c.cell (fun p hp=>absurd (show p∈([]:List (F9×Obj))from by rw[c.pn]at hp;exact hp) (by simp))
 refine⟨ys++[y],its++[v],n',σ,H9,I10.pins_of fun p hp=>?_,rv.append (.cons r9 .nil),q9⟩;rcases K0.mp hp with z|z
 ·have e:p=(D,fY (its++[v]) n'):=J5.mp z;subst e;refine⟨?_,pacc.2.1,pacc.2.2.1,pacc.2.2.2.1,fun v z=>by cases z⟩;rw[hl'];simp[fY]
 ·obtain⟨b1,b2,b3,b4,b5⟩:=I9.pin p (O5 _ (O5 _ z));exact⟨(hs'.2 _ (hPD p z)).trans b1,b2,b3,b4,b5⟩
structure Lv(Y:Cx) (D:F9) (ce:O3) (k:Nat) (p:Pos) (tg:O3) (fs:List O3) (B:BK):Prop where
 ex:∃bd AW,zQ ce k p tg fs bd/\(∀it,zK Y.prog Y.w Y.A ce k bd it (.ref D) Y.env AW)/\Bn Y D AW B/\∀{Ok Ok':F2->Prop} {s:F2},AW Ok s->(∀s,Ok s->Ok' s)->AW Ok' s
theorem o6(c:md Y D) (he:PE Y elt te) (hT:zQ (lcE el gs sc ps) k p tg fs (Bi (lcE el gs sc ps) k elt)):Lv Y D (lcE el gs sc ps) k p tg fs (k8 te):=⟨_,_,hT,fun _=>Ag,v6 c he,AWt.mono_leaf⟩
theorem oO(c:md Y D) (L:Lv Y D (lcE el gs sc ps) k p tg fs B) {it2:F9}
  (hg:PG Y tg g) (hif:PIf Y fs tc) {P:List (F9×Obj)} (hPD:∀p∈P,p.1≠D)
  {its0:List s0} {nn0:Nat} {ys0:List V} {σ:St} {H:Hp} {s:F2} (I:Inv Y ([(D,fY its0 nn0)]++P) σ H s) (rv0:aE ys0 its0) {fp2:List F9} {tn2:Nat->K5->Prop} {J2:It} (T:rC Y.prog Y.w Y.K tg J2 fp2 it2 tn2) (st:tn2 0 s.heap)
  (f:∀b∈fp2,j4 Y ([(D,fY its0 nn0)]++P) H b) {W2:Nat->Nat->List V->St->Hp->Prop} {Z2:List V->St->Hp->Prop} {m0:Nat} (w0:W2 0 m0 ys0 σ H) (turn:kA J2 g tc B W2 Z2) {R:at1->F2->Prop}
  (hR:∀(s':F2) (ys:List V) (its:List s0) (n:Nat) (σ':St) (H':Hp),Inv Y ([(D,fY its n)]++P) σ' H' s'->aE ys its->ys.length<=I0->Z2 ys σ' H'->R (.ok .next) s') :
  ah6 (M0 Y.prog Y.w) Y.A (.compLoop (lcE el gs sc ps) k (.ref it2) (.ref D) Y.env) R s:=by
 obtain⟨bd,AW,hT,hb,hB,hAW⟩:=L.ex;have fpc:∀{H:Hp} {n:Nat} {its:List s0},(∀b∈fp2,H b=none)->∀b∈fp2,j4 Y ([(D,fY its n)]++P) H b:=fun hn b hb=>by
  obtain⟨_,a1,a2,a3,a4,a5⟩:=f b hb;refine⟨hn b hb,a1,a2,a3,a4,fun p hp=>?_⟩;rw[c.pn,M9]at hp;rcases K0.mp hp with z|z
  ·obtain rfl:=J5.mp z;exact a5 (D,fY its0 nn0) (by rw[c.pn];simp)
  ·exact a5 p (by rw[c.pn];simp[z])
 refine nt hT rfl (hb _) (fun n s'=>∃i ys its nn σ' H',Inv Y ([(D,fY its nn)]++P) σ' H' s'/\aE ys its/\tn2 i s'.heap/\(∀b∈fp2,H' b=none)/\W2 i n ys σ' H') ?_ m0
  ⟨0,ys0,its0,nn0,σ,H,I,rv0,st,fun b hb=>(f b hb).1,w0⟩
 rintro n s' ⟨i,ys,its,nn,σ',H',I4,rv,st4,fr4,w4⟩;obtain⟨hz,h⟩:=turn i n ys σ' H' w4;rcases h with⟨stop,hZ⟩|⟨go,step⟩
 ·refine thn (T.done Y rfl rfl rfl c.calm i _ s' _ H' (fun _ _=>False) I4 (fpc fr4) st4 stop) fun r s4 ⟨hr,I5⟩=>?_;subst hr;exact hR s4 ys its nn σ' H' I5 rv hz hZ
 ·refine thn (T.item Y rfl rfl rfl c.calm i _ s' _ H' (fun _ _=>False) I4 (fpc fr4) st4 go) fun r s5 ⟨u,hr,h5⟩=>?_;subst hr;refine thn h5 fun _ s6 ⟨x,H6,I6,r6,y6,st6,fr6⟩=>?_;have I6':=I6.pinned (fpc fr6) (T.obj _ _ st6);refine thF c.xe (hg _ s6 _ H6 x u _ I6' r6 (step x H6 y6)) fun _ s7 ⟨σ7,H7,I7,q7⟩=>?_;refine thF c.xe (hif _ s7 σ7 H7 _ I7 q7) fun ok s8 hup=>hup.el fun H8 I8 q8=>?_;have keepfp:∀{its:List s0} {nn:Nat} {σ9:St} {H9:Hp} {s9:F2},Inv Y (([(D,fY its nn)]++P)++js fp2 s6.heap) σ9 H9 s9->tn2 (i+1) s9.heap/\∀b∈fp2,H9 b=none:=fun {its nn σ9 H9 s9} I9 =>
   ⟨T.keep _ _ _ st6 fun b hb o e=>(I9.pin (b,o) (O5 _ (O5 _ (gp hb e)))).1,fun b hb=>by
    obtain⟨o,e,d⟩:=T.obj _ _ st6 b hb;exact(I9.pin (b,o) (O5 _ (O5 _ (gp hb e)))).2.1⟩
  cases ok with
  |false =>
   obtain⟨m',hm,w8⟩:=q8;obtain⟨a8,b8⟩:=keepfp I8;exact⟨m',hm,i+1,ys,its,nn,σ7,H8,I8.unpinned,rv,a8,b8,w8⟩
  |true =>
   have hPD2:∀p∈P++js fp2 s6.heap,p.1≠D:=fun p hp=>by
    rcases K0.mp hp with z|z
    ·exact hPD p z
    ·have hb:=(n3 z).1;intro e;exact(f _ hb).2.2.2.2.2 (D,fY its0 nn0) (by rw[c.pn];simp) e.symm
   refine hAW (hB (P++js fp2 s6.heap) its nn ys σ7 H8 s8 _ (by rw[<-aa6];exact I8) rv hz hPD2 q8) ?_;rintro s9 ⟨ys',its',n',σ',H',I',rv',m',hm,w'⟩;rw[<-aa6]at I';obtain⟨a9,b9⟩:=keepfp I';exact⟨m',hm,i+1,ys',its',n',σ',H',I'.unpinned,rv',a9,b9,w'⟩
theorem tP{prog:K6}{w:Q7}{A:N6}{acc:s0}{env:Env}{Ok Ok':F2->Prop}{s:F2}(h:xG prog w A (lcE el gs sc ps) k i1 acc env Ok s) (h':∀s,Ok s->Ok' s):xG prog w A (lcE el gs sc ps) k i1 acc env Ok' s :=
 Q8 h (fun _ _ h1=>Q8 h1 (fun _ _ h2=>aa4 h2 fun _ _ h3=>⟨h3.1,h' _ h3.2⟩) fun _ _ x=>x) fun _ _ x=>x
theorem pF{tg1:O3}{fs1:List O3}{p1:Pos}(c:md Y D) (L:Lv Y D (lcE el gs sc ps) (k+1) p1 tg1 fs1 B) (hS:yW (lcE el gs sc ps) (k+1) p1) (hs:∀x,Q0 i1 Y.env x=af5 x) (hi:PI Y tg1 i1 wi) (hg:PG Y tg1 g) (hif:PIf Y fs1 tc)
  (hT:zQ (lcE el gs sc ps) k p tg fs (A8 (lcE el gs sc ps) k i1)):Lv Y D (lcE el gs sc ps) k p tg fs (qT wi g tc B):=by
 refine⟨_,_,hT,fun _=>zw hs,?_,tP⟩;intro P its nn ys σ H s Z I rv hz hPD q;refine thF c.xe (hi _ s σ H _ I q) fun v s9 h9=>thF c.xe h9 fun itv s10 h10=>?_;obtain⟨it2,fp2,tn2,J2,H10,e,I10,T2,st10,f10,W2,⟨m2,w2⟩,cin⟩:=h10;subst e;have loop:=oO c L hg hif hPD I10 rv T2 st10 f10 w2 cin (R:=fun r s₆=>(∃f,r=.ok f)/\∃ys' its' n' σ' H',Inv Y ([(D,fY its' n')]++P) σ' H' s₆/\aE ys' its'/\Z ys' σ' H')
  (fun s' ys its n σ' H' I' rv' _ hZ=>⟨⟨_,rfl⟩,ys,its,n,σ',H',I',rv',hZ⟩)
 exact nc hS loop (T2.self _ 0 _ _ _ st10 loop)
end
section
variable{X:Cx}{af:List (F9×Obj)}{σ σ':St}{H2 H':Hp}{s2 s':F2}{scope:af8}{cl:List (Str×F9)}{ms:List Bool}{ao:List Str}{elt t0 i0:O3}{f0:List O3}{gs:List an1}{g0:TG}{tc0:TT}{B:BK}{p pos:Pos}
theorem nX(S:fo X scope cl ms ao) (eQ:X.calm=true)
  (hg0:∀C s H ex,PG (aH X scope cl (X.N++ao) C s H ex) t0 g0) (hif0:∀C s H ex,PIf (aH X scope cl (X.N++ao) C s H ex) f0 tc0)
  (hL:∀C s H ex D,md (aH X scope cl (X.N++ao) C s H ex) D->Lv (aH X scope cl (X.N++ao) C s H ex) D (lcE elt (⟨t0,i0,f0,0⟩::gs) scope pos) 0 p t0 f0 B)
  (I2:Inv X af σ H2 s2) {it:F9} {fp:List F9} {tn:Nat->K5->Prop} {J:It} (T:rC X.prog X.w X.K t0 J fp it tn) (st2:tn 0 s2.heap) (fz:∀b∈fp,j4 X af H2 b)
  {W:Nat->Nat->List V->St->Hp->Prop} {Z:List V->St->Hp->Prop} {m0:Nat} (w0:W 0 m0 [] (i7 ms ao.length σ) H2) (turn:kA J g0 tc0 B W Z)
  {RR:s0->F9->at1->F2->Prop} {E:s0->F2->Prop}
  (hRR:∀ (s':F2) (ys:List V) (its:List s0) (n:Nat) (σ':St) (H':Hp),Inv (aH X scope cl (X.N ++ ao) (s2.heap.objs.size + 1) s2 H2 fp) [(s2.heap.objs.size,fY its n)] σ' H' s' → aE ys its → ys.length ≤ I0 → Z ys σ' H' →
   RR (.ref s2.heap.objs.size) (s2.heap.objs.size+1) (.ok .next) s') :
  J4 (M0 X.prog X.w) X.A (newList []) (fun acc s₃=>J4 (M0 X.prog X.w) X.A (newFunctionEnv scope X.env.globals cl [] X.env.qual none .none (some X.env)) (fun cenv s₄ =>
   ah6 (M0 X.prog X.w) X.A (.compStart (lcE elt (⟨t0,i0,f0,0⟩::gs) scope pos) 0 (.ref it) acc { cenv with scope:=relabel scope X.env }) (RR acc cenv.locals) s₄) E s₃) E s2:=by
 refine O7 (wpAny_newFunctionEnv S.ncell (by intro y hy;simp at hy) (fun h₁ hns₁ hsb₁=>?_) S.kind);dsimp only at hns₁ hsb₁ ⊢;have hsz:(s2.heap.push { cls:=.type "list",dict:=none,data:=.seq ([]:List s0).toArray }).objs.size=s2.heap.objs.size+1:=by rw[U8]
 rw[hsz]at hns₁ hsb₁ ⊢;have hlt:∀b∈fp,b<s2.heap.objs.size:=fun b hb=>by
  obtain⟨o,e,_⟩:=T.obj _ _ st2 b hb;exact J8 e
 have old:∀b o,s2.heap.get? b=some o->h₁.get? b=some o:=fun b o e=>hsb₁.extBut b o (L6 (S6 (J8 e))) (F1 _ (F1 _ e));have hacc:h₁.get? s2.heap.objs.size=some (fY [] 0):=hsb₁.extBut _ _ (L6 (ab8 _)) (F1 _ (J6 _ rfl));have hDn:H2 s2.heap.objs.size=none:=I2.hok.fresh (F7 _);have hDfs:∀b,s2.heap.objs.size<=b->b∉(aH X scope cl (X.N++ao) (s2.heap.objs.size+1) s2 H2 fp).fs:=fun b hb z=>by
  rcases J3.mp (I2.stkSub b z)with e|e
  ·subst e;exact absurd (J9 I2.lt hb) (ac0 _)
  ·exact I2.nofs hb e
 have loop:∀s₃:F2,s₃={ s2 with heap:=h₁,toks:=s2.toks+([]:List (Str×s0)).length } ->
   ah6 (M0 X.prog X.w) X.A (.compLoop (lcE elt (⟨t0,i0,f0,0⟩::gs) scope pos) 0 (.ref it) (.ref s2.heap.objs.size) (as2 scope cl (s2.heap.objs.size+1) X.env)) (RR (.ref s2.heap.objs.size) (s2.heap.objs.size+1)) s₃:=by
  rintro s₃ rfl;have I3:Inv (aH X scope cl (X.N++ao) (s2.heap.objs.size+1) s2 H2 fp) [] (i7 ms ao.length σ) H2 { s2 with heap:=h₁,toks:=s2.toks+([]:List (Str×s0)).length } :=
   Ar I2 S fz hlt (ai4 _) rfl I2.bare old hns₁
  have c:md (aH X scope cl (X.N++ao) (s2.heap.objs.size+1) s2 H2 fp) s2.heap.objs.size:=⟨rfl,eQ,rfl,.inr (F7 _),fun x c e=>by
   obtain⟨v,o,ho,_⟩:=I2.cell x c (S.sub x c e);exact L6 (J8 ho)⟩
  refine oO c (hL _ _ _ _ _ c) (hg0 _ _ _ _) (hif0 _ _ _ _) (P:=[]) (fun p hp=>nomatch hp) (its0:=[]) (nn0:=0) (I3.pins_of fun p hp=>?_) .nil T (T.keep _ _ _ st2 fun b _ o e=>old b o e) (fun b hb=>?_) w0 turn ?_
  ·have e:p=(s2.heap.objs.size,fY [] 0):=J5.mp hp;subst e;exact⟨hacc,hDn,L6 (ab8 _),hDfs _ (F7 _),fun v z=>by cases z⟩
  ·exact⟨(fz b hb).1,L6 (S6 (hlt b hb)),(wb I2 S fz hlt (ai4 _)).exfs b hb,.inl hb,fun x c e=>(fz b hb).2.2.2.2.1 x c (S.sub x c e),fun p hp=>by
    have:p=(s2.heap.objs.size,_):=J5.mp (show p∈[(s2.heap.objs.size,_)]from hp);subst this;exact af9 (hlt b hb)⟩
  ·exact fun s' ys its n σ' H' I' rv hz hZ=>hRR s' ys its n σ' H' I' rv hz hZ
 exact codeAny_compStart_list (loop _ rfl) (T.self _ 0 _ _ _ (T.keep _ _ _ st2 fun b _ o e=>old b o e) (loop _ rfl))
end
section
variable{X:Cx}{af:List (F9×Obj)}{σ σ':St}{H2 H':Hp}{s2 s':F2}{scope:af8}{cl:List (Str×F9)}{ms:List Bool}{ao:List Str}{tg iter elt:O3}{ifs:List O3}{g:TG}{tc:TT}{te:TE}{pos p:Pos}{B:BK}{gs:List an1}
theorem oy(I2:Inv X af σ H2 s2) {fp:List F9}(f2:∀b∈fp,j4 X af H2 b) {its:List s0}{n:Nat}{ys:List V}
  (I':Inv (aH X scope cl (X.N++ao) (s2.heap.objs.size+1) s2 H2 fp) [(s2.heap.objs.size,fY its n)] σ' H' s') (rv:aE ys its) (hz:ys.length<=I0) {h':K5} (hs:P2 (s2.heap.objs.size+1) s'.heap h') :
  Inv X af σ (upd H' s2.heap.objs.size (.lst ys)) { s' with heap:=h' }/\H' s2.heap.objs.size=none:=by
 have pacc:=I'.pin (s2.heap.objs.size,fY its n) (O5 _ R5);have hC:H' (s2.heap.objs.size+1)=none:=I'.free;have hD:H' s2.heap.objs.size=none:=pacc.2.1;have up:∀b o,b≠s2.heap.objs.size+1->s'.heap.get? b=some o->h'.get? b=some o:=fun b o hb e=>(hs.2 b hb).trans e;have nD:∀b u,H' b=some u->b≠s2.heap.objs.size:=fun b u e z=>by rw[z,hD]at e;cases e
 have nC:∀b u,H' b=some u->b≠s2.heap.objs.size+1:=fun b u e z=>by rw[z,hC]at e;cases e
 have hacc:h'.get? s2.heap.objs.size=some (fY its n):=up _ _ (L6 (ab8 _)) pacc.1;have hok:HOk X.prog X.w (upd H' s2.heap.objs.size (.lst ys)) h':=fun b u e=>by
  by_cases hb:b=s2.heap.objs.size
  ·subst hb;rw[bh]at e;cases e;exact⟨hz,its,n,rv,hacc⟩
  ·rw[aK hb]at e;refine(I'.hok b u e).stay (fun c v hc q=>up c v ?_ q) (fun c q=>by rw[aK (nD c _ q)];exact q) fun c xs q=>by rw[aK (nD c _ q)];exact q
   rcases hc with rfl|hc
   ·exact nC _ _ e
   ·exact nC _ _ hc
 have un:Un (frs X.stack) fp H2 (upd H' s2.heap.objs.size (.lst ys)) s2.heap h':=by
  have U:=I'.base;have ltD:∀b o,s2.heap.get? b=some o->b≠s2.heap.objs.size:=fun b o e=>L6 (J8 e);have ltC:∀b o,s2.heap.get? b=some o->b≠s2.heap.objs.size+1:=fun b o e=>L6 (S6 (J8 e));refine⟨fun b o e nb hb hx=>up b o (ltC b o e) (U.keep b o e nb hb hx),fun b o e nb hb hx=>?_,fun b o e nb hx=>by rw[aK (ltD b o e)];exact U.free b o e nb hx,fun b o e hx=>?_,
   fun b xs e=>by have q:=U.tups b xs e;rw[aK (nD b _ q)];exact q,fun b o u e=>by have q:=U.frzs b o u e;rw[aK (nD b _ q)];exact q,fun b ps e=>?_⟩
  ·obtain⟨sl,q⟩:=U.slot b o e nb hb hx;exact⟨sl,up b _ (ltC b o e) q⟩
  ·obtain⟨o',q⟩:=U.there b o e hx;exact⟨o',up b _ (ltC b o e) q⟩
  ·obtain⟨more,q⟩:=U.tbls b ps e;exact⟨more,by rw[aK (nD b _ q)];exact q⟩
 exact⟨I2.call' (s':={ s' with heap:=h' }) (ch:=fp) I'.os un hok I'.bare fun b hb=>⟨(f2 b hb).2.2.2.1,(f2 b hb).2.1,(f2 b hb).2.2.2.2.1,(f2 b hb).2.2.2.2.2⟩,hD⟩
def z5(ms:List Bool) (k:Nat) (wi:TI) (g:TG) (tc:TT) (B:BK):TE:=fun σ H Q=>wi σ H fun J H1=>∃(W:Nat->Nat->List V->St->Hp->Prop) (Z:List V->St->Hp->Prop),(∃m,W 0 m [] (i7 ms k σ) H1)/\kA J g tc B W Z /\
 ∀ys σ' H p,Z ys σ' H->H p=none->Q (.ref p) (upd H p (.lst ys))
abbrev tLc(ms:List Bool) (k:Nat) (wi:TI) (g:TG) (tc:TT) (te:TE):TE:=z5 ms k wi g tc (k8 te)
abbrev LvC(X:Cx) (scope:af8) (cl:List (Str×F9)) (ao:List Str) (ce:O3) (p:Pos) (tg:O3) (ifs:List O3) (B:BK):Prop:=∀C s H ex D,md (aH X scope cl (X.N++ao) C s H ex) D->Lv (aH X scope cl (X.N++ao) C s H ex) D ce 0 p tg ifs B
theorem CZ(S:fo X scope cl ms ao) (eQ:X.calm=true) {wi:TI}(hi:PI X tg iter wi)
  (hg:∀C s H ex,PG (aH X scope cl (X.N++ao) C s H ex) tg g) (hif:∀C s H ex,PIf (aH X scope cl (X.N++ao) C s H ex) ifs tc) (hL:LvC X scope cl ao (lcE elt (⟨tg,iter,ifs,0⟩::gs) scope pos) p tg ifs B)
  (hs:∀x,Q0 iter X.env x=af5 x:=by intro _;rfl):PE X (lcE elt (⟨tg,iter,ifs,0⟩::gs) scope pos) (z5 ms ao.length wi g tc B):=by
 intro af s σ H Q I h;rw[eval_ListComp];refine wpAny_comprehension_free (use:=none) rfl hs S.clos S.kind S.names (thn (hi af s σ H _ I h) fun v s1 h1=>thn h1 fun itv s2 h2=>?_);obtain⟨it,fp,tn,J,H2,e,I2,T,st2,f2,W,Z,⟨m0,w0⟩,turn,q⟩:=h2;subst e;refine nX S eQ hg hif hL I2 T st2 f2 w0 turn (RR:=fun acc C=>compPost (M0 X.prog X.w) X.A X.xe none (EP X af σ Q) acc C) ?_;intro s' ys its n σ' H' I' rv hz hZ;obtain⟨m,hm,_⟩:=I'.loc;refine⟨m,hm,fun h' hs'=>?_⟩;obtain⟨I3,hD⟩:=oy I2 f2 I' rv hz hs';exact⟨.ref s2.heap.objs.size,_,I3,rfl,q ys _ H' _ hZ hD⟩
theorem iW{i:Nat}{x:Str}{spos pos':Pos}(hN:X.N.Nodup) (hix:X.N[i]?=some x) (hx:X.env.scope.names.lookup x=some .local)
  (hsw:ah9 (lcE elt (⟨tg,iter,ifs,0⟩::gs) scope pos) (some (.Name x pos')) spos.line X.env=af5 true)
  (S:fo X scope cl ms ao) (eQ:X.calm=true) {wi:TI} (hi:PI X tg iter wi)
  (hg:∀C s H ex,PG (aH X scope cl (X.N++ao) C s H ex) tg g) (hif:∀C s H ex,PIf (aH X scope cl (X.N++ao) C s H ex) ifs tc) (hL:LvC X scope cl ao (lcE elt (⟨tg,iter,ifs,0⟩::gs) scope pos) p tg ifs B)
  (hs:∀x,Q0 iter X.env x=af5 x:=by intro _;rfl):PS X (.Assign [.Name x pos'] (lcE elt (⟨tg,iter,ifs,0⟩::gs) scope pos) spos) (Dq (z5 ms ao.length wi g tc B) (qW i)):=by
 intro af s σ H D I h;rw[exec_Assign_Name_used _ _ _ _ hsw];refine o0 (ag9 (o0 ?_));show J4 _ _ (do let _ <-comprehension (lcE elt (⟨tg,iter,ifs,0⟩::gs) scope pos) scope X.env _ (newList []) false (ab7 iter X.env) (some (ao8 (.Name x pos') X.env))) _ _ s;refine o0 (Q8 (wpAny_comprehension_free (use:=some (ao8 (.Name x pos') X.env)) (Q:=fun _ s'=>SP X af D .next s') rfl hs S.clos S.kind S.names
  (thn (hi af s σ H _ I h) fun v s1 h1=>thn h1 fun itv s2 h2=>?_)) (fun _ s' hq=>u8 (u8 hq)) fun _ _ e=>e)
 obtain⟨it,fp,tn,J,H2,e,I2,T,st2,f2,W,Z,⟨m0,w0⟩,turn,q⟩:=h2;subst e;refine nX S eQ hg hif hL I2 T st2 f2 w0 turn (RR:=fun acc C=>compPost (M0 X.prog X.w) X.A X.xe (some (ao8 (.Name x pos') X.env)) (fun _ s'=>SP X af D .next s') acc C) ?_;intro s' ys its n σ' H' I' rv hz hZ;obtain⟨m,hm,_⟩:=I'.loc;obtain⟨I3,hD⟩:=oy I2 f2 I' rv hz (P2.refl (s2.heap.objs.size+1) s'.heap);have hq:=q ys _ H' _ hZ hD;show J4 _ _ (ao8 (.Name x pos') X.env (.ref s2.heap.objs.size)) _ _ _;refine wpAny_assign_Name (oS I3 hN hix (.inl hx) (v:=.ref s2.heap.objs.size) rfl (fun s4 I4 hsame=>?_) (.inr hx));obtain⟨a,hsb,ha⟩:=hsame;have hLC:s2.heap.objs.size+1≠X.env.locals:=af9 (S6 I2.lt);have haC:s2.heap.objs.size+1≠a:=by
  rcases ha with rfl|ha
  ·exact hLC
  ·intro z;obtain⟨v,o,ho,_⟩:=I2.cell x a ha;exact absurd (S6 (J8 ho)) (by rw[<-z];exact ac0 _)
 have hCn:upd H' s2.heap.objs.size (.lst ys) (s2.heap.objs.size+1)=none:=by rw[aK (af9 (ab8 _))];exact I'.free
 refine⟨m,hm.sameBut hsb haC,fun h' hs'=>?_⟩;refine⟨_,_,?_,hq⟩;have hL:∀b o,b≠s2.heap.objs.size+1->s4.heap.get? b=some o->h'.get? b=some o:=fun b o hb e=>(hs'.2 b hb).trans e;have I5:=Inv.turned (t':=s4.toks) (h':=h') (it:=s2.heap.objs.size+1) I4 (fun b o hb e=>hL b o hb e) hCn hLC (.inr (Nat.le_succ_of_le I2.sz)) (fun y c e=>by
  obtain⟨v,o,ho,_⟩:=I2.cell y c e;exact L6 (S6 (J8 ho))) (fun p hp=>by
  exact L6 (S6 (J8 (I2.pin p hp).1)))
 exact I5
theorem sV(he:∀C s H ex,PE (aH X scope cl (X.N++ao) C s H ex) elt te):LvC X scope cl ao (lcE elt [⟨tg,iter,ifs,0⟩] scope pos) iter.pos tg ifs (k8 te):=fun _ _ _ _ _ c=>o6 c (he _ _ _ _) fun _ _ _=>rfl
end
inductive Bx where
 |dk (ks:List Key)|dt (ks:List (List Key))|ins (C:F9) (fs:List Str)|key
 deriving Inhabited
inductive D where
 |non|bl (b:Bool)|int (i:Int)|str (x:Str)|tup (ds:List D)|lst (ds:List D)|scr (ds:List D)|emp|ref (a:F9)|box (t:Bx) (ds:List D)
 deriving Inhabited
inductive HD where
 |lst (ds:List D)|dK (kvs:List (Key×D))|dT (kvs:List (List Key×D))|dKr (o:Obj) (ks:List (Key×V)) (kvs:List (Key×D))|ins (C:F9) (fs:List (Str×D))
 |ext (φ:List V->K5->Prop) (ds:List D)
 deriving Inhabited
abbrev DH:=F9->Option HD
def av(M:DH) (a:F9) (o:HD):DH:=fun b=>if b=a then some o else M b
def ir(M:DH) (a:F9):DH:=fun b=>if b=a then none else M b
abbrev noM:DH:=fun _=>none
theorem aq{M:DH}{a:F9}{o:HD}:av M a o a=some o:=if_pos rfl
theorem az{M:DH}{a b:F9}{o:HD}(h:b≠a):av M a o b=M b:=if_neg h
theorem aR{M:DH}{a:F9}{o u:HD}:av (av M a o) a u=av M a u:=by
 funext b;unfold av;split<;>rfl
theorem iX{M:DH}{a:F9}:ir M a a=none:=if_pos rfl
theorem uL{M:DH}{a b:F9}(h:b≠a):ir M a b=M b:=if_neg h
theorem wx{M:DH}{a:F9}{o:HD}(h:M a=none):ir (av M a o) a=M:=by
 funext b;unfold ir av;split
 ·rename_i e;rw[e,h]
 ·rfl
theorem iP{M:DH}{a:F9}{o:HD}(h:M a=some o):av M a o=M:=by
 funext b;unfold av;split
 ·rename_i e;rw[e,h]
 ·rfl
def oa(K:F0) (M:DH) (H:Hp) (a:F9) (vs:List V):Prop:=(Rd H a (.tup vs)/\M a=none)∨SqT K (fun _=>none) a vs
def uh(M:DH) (H:Hp) (a:F9) (vs:List V):Prop:=H a=some (.lst vs)/\M a=none
def oJ(K:F0) (M:DH) (H:Hp) (a:F9) (vs:List V):Prop:=((∃o,H a=some (.frz o (.lst vs)))/\M a=none)∨SqL K (fun _=>none) a vs
def EV(M:DH) (H:Hp) (a:F9):Prop:=H a=some (.dK [])/\M a=none
def ur(M:DH) (H:Hp) (a:F9):Bx->List V->Prop
 |.dk ks,vs=>ks.length=vs.length/\(∃o,H a=some (.frz o (.dK (ks.zip vs))))/\M a=none
 |.dt ks,vs=>ks.length=vs.length/\(∃o,H a=some (.frz o (.dT (ks.zip vs))))/\M a=none
 |.ins C fs,vs=>fs.length=vs.length/\(∃dx,H a=some (.ins C dx (fs.zip vs)))/\M a=none
 |.key,vs=>True/\(∃_u:Unit,H a=some (.tup vs))/\M a=none
mutual
def Rep(K:F0) (M:DH) (H:Hp):D->V->Prop
 |.non,v=>v=.non
 |.bl b,v=>v=.bl b
 |.int i,v=>v=.int i
 |.str x,v=>v=.str x
 |.tup ds,v=>∃a vs,v=.ref a/\oa K M H a vs/\ar K M H ds vs
 |.lst ds,v=>∃a vs,v=.ref a/\uh M H a vs/\ar K M H ds vs
 |.scr ds,v=>∃a vs,v=.ref a/\oJ K M H a vs/\ar K M H ds vs
 |.emp,v=>∃a,v=.ref a/\EV M H a
 |.ref a,v=>v=.ref a
 |.box t ds,v=>∃a vs,v=.ref a/\ur M H a t vs/\ar K M H ds vs
def ar(K:F0) (M:DH) (H:Hp):List D->List V->Prop
 |[],vs=>vs=[]
 |d::ds,vs=>∃v ws,vs=v::ws/\Rep K M H d v/\ar K M H ds ws
end
def Ext(M:DH) (H:Hp) (M':DH) (H':Hp):Prop:=∀a o,H a=some o->M a=none->H' a=some o/\M' a=none
theorem Ext.refl(M:DH) (H:Hp):Ext M H M H:=fun _ _ h n=>⟨h,n⟩
theorem Ext.trans{M M1 M2:DH}{H H1 H2:Hp}(a:Ext M H M1 H1) (b:Ext M1 H1 M2 H2):Ext M H M2 H2:=fun c o h n=>b c o (a c o h n).1 (a c o h n).2
variable{K:F0}{M M' M1 M2:DH}{H H' H1 H2:Hp}
theorem oa.ext{a:F9}{vs:List V}(h:oa K M H a vs) (e:Ext M H M' H'):oa K M' H' a vs:=by
 rcases h with⟨r|⟨o,r⟩,n⟩|h
 ·exact .inl ⟨.inl (e a _ r n).1,(e a _ r n).2⟩
 ·exact .inl ⟨.inr ⟨o,(e a _ r n).1⟩,(e a _ r n).2⟩
 ·exact .inr h
theorem uh.ext{a:F9}{vs:List V}(h:uh M H a vs) (e:Ext M H M' H'):uh M' H' a vs:=e a _ h.1 h.2
theorem oJ.ext{a:F9}{vs:List V}(h:oJ K M H a vs) (e:Ext M H M' H'):oJ K M' H' a vs:=by
 rcases h with⟨⟨o,r⟩,n⟩|h
 ·exact .inl ⟨⟨o,(e a _ r n).1⟩,(e a _ r n).2⟩
 ·exact .inr h
theorem ur.ext{a:F9}{t:Bx}{vs:List V}(h:ur M H a t vs) (e:Ext M H M' H'):ur M' H' a t vs:=by
 cases t<;>(obtain⟨l,⟨o,r⟩,n⟩:=h;exact⟨l,⟨o,(e a _ r n).1⟩,(e a _ r n).2⟩)
mutual
theorem Rep.ext:∀{d:D}{v:V},Rep K M H d v->Ext M H M' H'->Rep K M' H' d v
 |.non,_,h,_=>h
 |.bl _,_,h,_=>h
 |.int _,_,h,_=>h
 |.str _,_,h,_=>h
 |.ref _,_,h,_=>h
 |.emp,_,h,e=>by
  simp only[Rep]at h ⊢;obtain⟨a,rfl,h1,h2⟩:=h;exact⟨a,rfl,e a _ h1 h2⟩
 |.tup ds,_,h,e=>by
  simp only[Rep]at h ⊢;obtain⟨a,vs,rfl,h1,h2⟩:=h;exact⟨a,vs,rfl,h1.ext e,ar.ext h2 e⟩
 |.lst ds,_,h,e=>by
  simp only[Rep]at h ⊢;obtain⟨a,vs,rfl,h1,h2⟩:=h;exact⟨a,vs,rfl,h1.ext e,ar.ext h2 e⟩
 |.scr ds,_,h,e=>by
  simp only[Rep]at h ⊢;obtain⟨a,vs,rfl,h1,h2⟩:=h;exact⟨a,vs,rfl,h1.ext e,ar.ext h2 e⟩
 |.box t ds,_,h,e=>by
  simp only[Rep]at h ⊢;obtain⟨a,vs,rfl,h1,h2⟩:=h;exact⟨a,vs,rfl,h1.ext e,ar.ext h2 e⟩
theorem ar.ext:∀{ds:List D}{vs:List V},ar K M H ds vs->Ext M H M' H'->ar K M' H' ds vs
 |[],_,h,_=>h
 |d::ds,_,h,e=>by
  simp only[ar]at h ⊢;obtain⟨v,ws,rfl,h1,h2⟩:=h;exact⟨v,ws,rfl,Rep.ext h1 e,ar.ext h2 e⟩
end
theorem ar.length:∀{ds:List D}{vs:List V},ar K M H ds vs->ds.length=vs.length
 |[],_,h=>by simp only[ar]at h;subst h;rfl
 |d::ds,_,h=>by
  simp only[ar]at h;obtain⟨v,ws,rfl,h1,h2⟩:=h;simp[ar.length h2]
theorem ar.nil:ar K M H [] []:=by simp[ar]
theorem ar.cons{d:D}{v:V}{ds:List D}{vs:List V}(h:Rep K M H d v) (t:ar K M H ds vs):ar K M H (d::ds) (v::vs):=by
 simp only[ar];exact⟨v,vs,rfl,h,t⟩
theorem ar.append:∀{ds es:List D}{vs ws:List V},ar K M H ds vs->ar K M H es ws->ar K M H (ds++es) (vs++ws)
 |[],_,_,_,h,t=>by simp only[ar]at h;subst h;exact t
 |d::ds,es,_,ws,h,t=>by
  simp only[ar]at h;obtain⟨v,us,rfl,h1,h2⟩:=h;exact ar.cons h1 (ar.append h2 t)
theorem ar.get:∀{ds:List D}{vs:List V}{i:Nat}{d:D},ar K M H ds vs->ds[i]?=some d->∃v,vs[i]?=some v/\Rep K M H d v
 |[],_,_,_,_,e=>by simp at e
 |d::ds,_,0,x,h,e=>by
  simp only[ar]at h;obtain⟨v,us,rfl,h1,h2⟩:=h;simp at e;subst e;exact⟨v,rfl,h1⟩
 |d::ds,_,i+1,x,h,e=>by
  simp only[ar]at h;obtain⟨v,us,rfl,h1,h2⟩:=h;obtain⟨w,a,b⟩:=ar.get (i:=i) (d:=x) h2 (by simpa using e);exact⟨w,by simpa using a,b⟩
theorem ar.take:∀{ds:List D}{vs:List V}(n:Nat),ar K M H ds vs->ar K M H (ds.take n) (vs.take n)
 |ds,vs,0,_=>by simp[ar]
 |[],_,n+1,h=>by simp only[ar]at h;subst h;simp[ar]
 |d::ds,_,n+1,h=>by
  simp only[ar]at h;obtain⟨v,us,rfl,h1,h2⟩:=h;exact ar.cons h1 (ar.take n h2)
theorem ar.drop:∀{ds:List D}{vs:List V}(n:Nat),ar K M H ds vs->ar K M H (ds.drop n) (vs.drop n)
 |ds,vs,0,h=>h
 |[],_,n+1,h=>by simp only[ar]at h;subst h;simp[ar]
 |d::ds,_,n+1,h=>by
  simp only[ar]at h;obtain⟨v,us,rfl,h1,h2⟩:=h;exact ar.drop n h2
theorem ar.set:∀{ds:List D}{vs:List V}{d:D}{v:V}(n:Nat),ar K M H ds vs->Rep K M H d v->ar K M H (ds.set n d) (vs.set n v)
 |[],_,_,_,n,h,r=>by simp only[ar]at h;subst h;simp[ar]
 |d::ds,_,_,_,0,h,r=>by
  simp only[ar]at h;obtain⟨v,us,rfl,h1,h2⟩:=h;exact ar.cons r h2
 |d::ds,_,_,_,n+1,h,r=>by
  simp only[ar]at h;obtain⟨v,us,rfl,h1,h2⟩:=h;exact ar.cons h1 (ar.set n h2 r)
theorem ar.one{d:D}{vs:List V}(h:ar K M H [d] vs):∃v,vs=[v]/\Rep K M H d v:=by
 simp only[ar]at h;obtain⟨v,us,rfl,h1,rfl⟩:=h;exact⟨v,rfl,h1⟩
def KR(K:F0) (M:DH) (H:Hp) {κ:Type}:List (κ×D)->List (κ×V)->Prop:=ae0 fun p q=>p.1=q.1/\Rep K M H p.2 q.2
theorem KR.ext{κ:Type}{kvs:List (κ×D)}{ks:List (κ×V)}(h:KR K M H kvs ks) (e:Ext M H M' H'):KR K M' H' kvs ks:=ae0.imp' (fun _ _ r=>⟨r.1,r.2.ext e⟩) h
def mN(K:F0) (M:DH) (H:Hp) (a:F9):HD->Prop
 |.lst ds=>∃vs,H a=some (.lst vs)/\ar K M H ds vs
 |.dK kvs=>∃ks,H a=some (.dK ks)/\KR K M H kvs ks
 |.dT kvs=>∃ks,H a=some (.dT ks)/\KR K M H kvs ks
 |.dKr o ks kvs=>∃_u:Unit,H a=some (.frz o (.dK ks))/\KR K M H kvs ks
 |.ins C fs=>∃gs,(∃dx,H a=some (.ins C dx gs))/\KR K M H fs gs
 |.ext φ ds=>∃vs,H a=some (.ext (φ vs))/\ar K M H ds vs
def HR(K:F0) (M:DH) (H:Hp):Prop:=∀a o,M a=some o->mN K M H a o
theorem mN.some{a:F9}{o:HD}(h:mN K M H a o):∃u,H a=R9 u/\∀xs,u≠.tup xs/\∀ob,u≠.frz ob (.tup xs):=by
 cases o with
 |ins C fs=>obtain⟨gs,⟨dx,r⟩,_⟩:=h;exact⟨_,r,fun xs=>⟨(by intro z;cases z),(by intro ob z;cases z)⟩⟩
 |_=>obtain⟨vs,r,_⟩:=h;exact⟨_,r,fun xs=>⟨(by intro z;cases z),(by intro ob z;cases z)⟩⟩
theorem mN.keep{a:F9}{o:HD}(h:mN K M H a o) (e:Ext M H M' H') (q:H' a=H a):mN K M' H' a o:=by
 cases o with
 |ins C fs=>obtain⟨gs,⟨dx,r⟩,t⟩:=h;exact⟨gs,⟨dx,by rw[q];exact r⟩,t.ext e⟩
 |_=>obtain⟨vs,r,t⟩:=h;exact⟨vs,by rw[q];exact r,t.ext e⟩
theorem HR.fresh(h:HR K M H) {p:F9}(e:H p=none):M p=none:=by
 cases q:M p with
 |none=>rfl
 |some o =>
  obtain⟨u,r,_⟩:=(h p _ q).some;rw[e]at r;cases r
theorem HR.nil:HR K noM H:=fun _ _ h=>nomatch h
theorem Ext.new{p:F9}{o:HO}(hr:HR K M H) (h:H p=none):Ext M H M (upd H p o):=fun a u e n=>by
 have:a≠p:=cS e h;rw[aK this];exact⟨e,n⟩
theorem HR.ext1(h:HR K M H) (e:Ext M H M H') (keep:∀a o,M a=some o->H' a=H a):HR K M H':=fun a o q=>(h a o q).keep e (keep a o q)
theorem HR.new{p:F9}{o:HO}(hr:HR K M H) (h:H p=none):HR K M (upd H p o):=hr.ext1 (Ext.new hr h) fun a u q=>by
 have:a≠p:=fun z=>by rw[z,hr.fresh h]at q;cases q
 rw[aK this]
theorem Ext.own{p:F9}{o:HO}{u:HD}(h:H p=none):Ext M H (av M p u) (upd H p o):=fun a x e n=>by
 have:a≠p:=cS e h;rw[aK this,az this];exact⟨e,n⟩
theorem HR.put{p:F9}{o:HO}{u:HD}(hr:HR K M H) (e:Ext M H (av M p u) (upd H p o)) (c:mN K (av M p u) (upd H p o) p u):HR K (av M p u) (upd H p o):=fun a w q=>by
 by_cases z:a=p
 ·subst z;rw[aq]at q;cases q;exact c
 ·rw[az z]at q;exact(hr a w q).keep e (aK z)
theorem HR.own{p:F9}{ds:List D}{vs:List V}(hr:HR K M H) (h:H p=none) (r:ar K M H ds vs):HR K (av M p (.lst ds)) (upd H p (.lst vs)) :=
 hr.put (Ext.own h) ⟨vs,bh,r.ext (Ext.own h)⟩
theorem Ext.write{a:F9}{o:HO}{u w:HD}(h:M a=some w):Ext M H (av M a u) (upd H a o):=fun b x e n=>by
 have:b≠a:=fun z=>by rw[z,h]at n;cases n
 rw[aK this,az this];exact⟨e,n⟩
theorem HR.write{a:F9}{w:HD}{ds:List D}{vs:List V}(hr:HR K M H) (h:M a=some w) (r:ar K M H ds vs):HR K (av M a (.lst ds)) (upd H a (.lst vs)) :=
 hr.put (Ext.write h) ⟨vs,bh,r.ext (Ext.write h)⟩
def LeM(M1 M:DH):Prop:=∀a o,M1 a=some o->M a=some o
theorem LeM.none(h:LeM M1 M) {a:F9}(n:M a=none):M1 a=none:=by
 cases q:M1 a with
 |none=>rfl
 |some o=>rw[h a o q]at n;cases n
theorem LeM.no:LeM noM M:=fun _ _ h=>nomatch h
theorem LeM.del{a:F9}:LeM (ir M a) M:=fun b o h=>by
 unfold ir at h;split at h
 ·cases h
 ·exact h
theorem Ext.le(h:LeM M1 M):Ext M H M1 H:=fun a o e n=>⟨e,h.none n⟩
theorem HR.le(hr:HR K M H) (h:LeM M1 M):HR K M1 H:=fun a o q=>(hr a o (h a o q)).keep (Ext.le h) rfl
theorem Rep.froze(hr:HR K M H) (h:LeM M1 M) {a:F9}{ds:List D}(e:M a=some (.lst ds)) (n:M1 a=none):Rep K M1 H (.lst ds) (.ref a):=by
 obtain⟨vs,r,t⟩:=hr a _ e;simp only[Rep];exact⟨a,vs,rfl,⟨r,n⟩,t.ext (Ext.le h)⟩
def jh(M M1 M2:DH):DH:=fun a=>match M2 a with|some o=>some o|none=>if M1 a=none then M a else none
theorem Ext.back(h:LeM M1 M) (e:Ext M1 H M2 H2):Ext M H (jh M M1 M2) H2:=fun a o q n=>by
 obtain⟨h1,h2⟩:=e a o q (h.none n);refine⟨h1,?_⟩;unfold jh;rw[h2];simp[h.none n,n]
mutual
def noL:D->Bool
 |.tup ds=>kH ds
 |.lst _=>false
 |.scr _=>false
 |.emp=>false
 |.box _ _=>false
 |_=>true
def kH:List D->Bool
 |[]=>true
 |d::ds=>noL d&&kH ds
end
mutual
theorem Rep.hard:∀{d:D}{v:V},noL d=true->Rep K M H d v->(∀a xs,Rd H a (.tup xs)->M' a=none)->Rep K M' H d v
 |.non,_,_,h,_=>h
 |.bl _,_,_,h,_=>h
 |.int _,_,_,h,_=>h
 |.str _,_,_,h,_=>h
 |.ref _,_,_,h,_=>h
 |.emp,_,n,_,_=>by simp[noL]at n
 |.box _ _,_,n,_,_=>by simp[noL]at n
 |.lst _,_,n,_,_=>by simp[noL]at n
 |.scr _,_,n,_,_=>by simp[noL]at n
 |.tup ds,_,n,h,e=>by
  simp only[Rep]at h ⊢;obtain⟨a,vs,rfl,h1,h2⟩:=h;refine⟨a,vs,rfl,?_,ar.hard (by simpa[noL]using n) h2 e⟩;rcases h1 with⟨r,_⟩|r
  ·exact .inl ⟨r,e a vs r⟩
  ·exact .inr r
theorem ar.hard:∀{ds:List D}{vs:List V},kH ds=true->ar K M H ds vs->(∀a xs,Rd H a (.tup xs)->M' a=none)->ar K M' H ds vs
 |[],_,_,h,_=>h
 |d::ds,_,n,h,e=>by
  simp only[ar]at h ⊢;obtain⟨v,ws,rfl,h1,h2⟩:=h;simp only[kH,K1]at n;exact⟨v,ws,rfl,Rep.hard n.1 h1 e,ar.hard n.2 h2 e⟩
end
theorem cP(hr:HR K M H) (h:LeM M1 M) (e:Ext M1 H M2 H2) (h2:HR K M2 H2):∀a xs,Rd H2 a (.tup xs)->jh M M1 M2 a=none:=by
 intro a xs r;unfold jh;cases q:M2 a with
 |some o =>
  obtain⟨u,z,n⟩:=(h2 a _ q).some;rcases r with r|⟨o,r⟩
  ·rw[z]at r;exact absurd (P9 r) (n xs).1
  ·rw[z]at r;exact absurd (P9 r) ((n xs).2 o)
 |none =>
  by_cases n:M1 a=none
  ·simp only[n,if_true];cases q2:M a with
   |none=>rfl
   |some o =>
    obtain⟨u,z,m⟩:=(hr a _ q2).some;have z2:=(e a _ z n).1;rcases r with r|⟨o,r⟩
    ·rw[z2]at r;exact absurd (P9 r) (m xs).1
    ·rw[z2]at r;exact absurd (P9 r) ((m xs).2 o)
  ·simp[n]
def noC:HD->Bool
 |.lst ds=>kH ds
 |.dK kvs=>kH (kvs.map (·.2))
 |.dT kvs=>kH (kvs.map (·.2))
 |.dKr _ _ kvs=>kH (kvs.map (·.2))
 |.ins _ fs=>kH (fs.map (·.2))
 |.ext _ ds=>kH ds
theorem KR.hard{κ:Type}{kvs:List (κ×D)}{ks:List (κ×V)}(h:KR K M H kvs ks) (n:kH (kvs.map (·.2))=true) (e:∀a xs,Rd H a (.tup xs)->M' a=none):KR K M' H kvs ks:=by
 unfold KR at h ⊢
 induction h with
 |nil=>exact .nil
 |cons r _ ih =>
  simp only[N8,kH,K1]at n;exact .cons ⟨r.1,Rep.hard n.1 r.2 e⟩ (ih n.2)
theorem HR.back(hr:HR K M H) (h:LeM M1 M) (e:Ext M1 H M2 H2) (h2:HR K M2 H2) (hd:∀a o,M2 a=some o->noC o=true):HR K (jh M M1 M2) H2:=by
 have eb:Ext M H (jh M M1 M2) H2:=Ext.back h e;intro a o q;unfold jh at q;cases q2:M2 a with
 |some o2 =>
  rw[q2]at q;cases q;have c:=h2 a _ q2;have n:=hd a _ q2;cases o with
  |lst ds=>obtain⟨vs,z,t⟩:=c;exact⟨vs,z,ar.hard n t (cP hr h e h2)⟩
  |ext φ ds=>obtain⟨vs,z,t⟩:=c;exact⟨vs,z,ar.hard n t (cP hr h e h2)⟩
  |dK kvs=>obtain⟨vs,z,t⟩:=c;exact⟨vs,z,KR.hard t n (cP hr h e h2)⟩
  |dT kvs=>obtain⟨vs,z,t⟩:=c;exact⟨vs,z,KR.hard t n (cP hr h e h2)⟩
  |ins C fs=>obtain⟨vs,z,t⟩:=c;exact⟨vs,z,KR.hard t n (cP hr h e h2)⟩
  |dKr o ks kvs=>obtain⟨vs,z,t⟩:=c;exact⟨vs,z,KR.hard t n (cP hr h e h2)⟩
 |none =>
  rw[q2]at q
  by_cases n:M1 a=none
  ·simp only[n,if_true]at q;have c:=hr a _ q;obtain⟨u,z,_⟩:=c.some;exact c.keep eb (by rw[z];exact(e a _ z n).1)
  ·simp[n]at q
abbrev DE:=List (Option D)
def SR(K:F0) (M:DH) (H:Hp) (σ:St) (Δ:DE):Prop:=σ.length=Δ.length/\∀(i:Nat) (d:D),Δ[i]?=some (some d)->∃v,σ[i]?=some (some v)/\Rep K M H d v
theorem SR.ext{σ:St}{Δ:DE}(h:SR K M H σ Δ) (e:Ext M H M' H'):SR K M' H' σ Δ:=⟨h.1,fun i d q=>let⟨v,a,r⟩:=h.2 i d q;⟨v,a,r.ext e⟩⟩
theorem SR.set{σ:St}{Δ:DE}{d:D}{v:V}(h:SR K M H σ Δ) (i:Nat) (r:Rep K M H d v):SR K M H (σ.set i (some v)) (Δ.set i (some d)):=by
 refine⟨by simp[h.1],fun j e q=>?_⟩
 by_cases hj:j=i
 ·subst hj
  by_cases hl:j<Δ.length
  ·rw[T9 hl]at q;cases q;exact⟨v,T9 (by rw[h.1];exact hl),r⟩
  ·rw[P5 (by simp;lia)]at q;cases q
 ·rw[W9 (V0 hj)]at q ⊢;exact h.2 j e q
abbrev TEd:=DE->DH->(D->DH->Prop)->Prop
abbrev TAd:=DE->DH->(List D->DH->Prop)->Prop
abbrev TTd:=DE->DH->(Bool->DH->Prop)->Prop
structure dQ where
 nx:DE->DH->Prop
 rt:D->DH->Prop
 bk:DE->DH->Prop:=fun _ _=>False
 ct:DE->DH->Prop:=fun _ _=>False
abbrev TSd:=dQ->DE->DH->Prop
def up(K:F0) (t:TEd):TE:=fun σ H Q=>∃(Δ:DE) (M:DH) (R:D->DH->Prop),SR K M H σ Δ/\HR K M H/\t Δ M R /\
 ∀d M' v H',R d M'->Ext M H M' H'->HR K M' H'->Rep K M' H' d v->Q v H'
def upA(K:F0) (t:TAd):TA:=fun σ H Q=>∃(Δ:DE) (M:DH) (R:List D->DH->Prop),SR K M H σ Δ/\HR K M H/\t Δ M R /\
 ∀ds M' vs H',R ds M'->Ext M H M' H'->HR K M' H'->ar K M' H' ds vs->Q vs H'
def upT(K:F0) (t:TTd):TT:=fun σ H Q=>∃(Δ:DE) (M:DH) (R:Bool->DH->Prop),SR K M H σ Δ/\HR K M H/\t Δ M R /\
 ∀b M' H',R b M'->Ext M H M' H'->HR K M' H'->Q b H'
theorem upT.el{K:F0}{t:TTd}{σ:St}{H:Hp}{Q:Bool->Hp->Prop}{P:Prop}(h:upT K t σ H Q) (f:∀(Δ:DE) (M:DH) (R:Bool->DH->Prop),SR K M H σ Δ->HR K M H->t Δ M R->(∀b M' H',R b M'->Ext M H M' H'->HR K M' H'->Q b H')->P):P:=by
 obtain⟨x1,x2,x3,a,b,c,d⟩:=h;exact f x1 x2 x3 a b c d
theorem up.el{K:F0}{t:TEd}{σ:St}{H:Hp}{Q:VK}{P:Prop}(h:up K t σ H Q) (f:∀(Δ:DE) (M:DH) (R:D->DH->Prop),SR K M H σ Δ->HR K M H->t Δ M R->(∀d M' v H',R d M'->Ext M H M' H'->HR K M' H'->Rep K M' H' d v->Q v H')->P):P:=by
 obtain⟨x1,x2,x3,a,b,c,d⟩:=h;exact f x1 x2 x3 a b c d
theorem upA.el{K:F0}{t:TAd}{σ:St}{H:Hp}{Q:List V->Hp->Prop}{P:Prop}(h:upA K t σ H Q) (f:∀(Δ:DE) (M:DH) (R:List D->DH->Prop),SR K M H σ Δ->HR K M H->t Δ M R->(∀ds M' vs H',R ds M'->Ext M H M' H'->HR K M' H'->ar K M' H' ds vs->Q vs H')->P):P:=by
 obtain⟨x1,x2,x3,a,b,c,d⟩:=h;exact f x1 x2 x3 a b c d
structure UpE(K:F0) (E:dQ) (D:nH) (M:DH) (H:Hp):Prop where
 nx:∀ Δ' M' σ' H',E.nx Δ' M'->Ext M H M' H'->HR K M' H'->SR K M' H' σ' Δ'->D.nx σ' H'
 bk:∀ Δ' M' σ' H',E.bk Δ' M'->Ext M H M' H'->HR K M' H'->SR K M' H' σ' Δ'->D.bk σ' H'
 ct:∀ Δ' M' σ' H',E.ct Δ' M'->Ext M H M' H'->HR K M' H'->SR K M' H' σ' Δ'->D.ct σ' H'
 rt:∀d M' v H',E.rt d M'->Ext M H M' H'->HR K M' H'->Rep K M' H' d v->D.rt v H'
theorem UpE.ext{E:dQ}{D:nH}(u:UpE K E D M H) (e:Ext M H M' H'):UpE K E D M' H' :=
 ⟨fun a b c d h x=>u.nx a b c d h (e.trans x),fun a b c d h x=>u.bk a b c d h (e.trans x),fun a b c d h x=>u.ct a b c d h (e.trans x),fun a b c d h x=>u.rt a b c d h (e.trans x)⟩
def upS(K:F0) (t:TSd):TS:=fun D σ H=>∃(Δ:DE) (M:DH) (E:dQ),SR K M H σ Δ/\HR K M H/\t E Δ M/\UpE K E D M H
theorem upS.el{K:F0}{t:TSd}{E:nH}{σ:St}{H:Hp}{P:Prop}(h:upS K t E σ H) (f:∀(Δ:DE) (M:DH) (R:dQ),SR K M H σ Δ->HR K M H->t R Δ M->UpE K R E M H->P):P:=by
 obtain⟨x1,x2,x3,a,b,c,d⟩:=h;exact f x1 x2 x3 a b c d
def PEd(X:Cx) (e:O3) (t:TEd):Prop:=PE X e (up X.K t)
def PAd(X:Cx) (es:List O3) (t:TAd):Prop:=PA X es (upA X.K t)
def PTd(X:Cx) (e:O3) (t:TTd):Prop:=PT X e (upT X.K t)
def PWd(X:Cx) (e:O3) (t:TTd):Prop:=PW X e (upT X.K t)
def PSd(X:Cx) (st:aa1) (t:TSd):Prop:=PS X st (upS X.K t)
def Ap(X:Cx) (st:List aa1) (t:TSd):Prop:=PSs X st (upS X.K t)
theorem PE.conv{X:Cx}{e:O3}{t t':TE}(h:PE X e t) (k:∀ σ H Q,t' σ H Q->t σ H Q):PE X e t':=fun p s σ H Q I q=>h p s σ H Q I (k σ H Q q)
theorem PT.conv{X:Cx}{e:O3}{t t':TT}(h:PT X e t) (k:∀ σ H Q,t' σ H Q->t σ H Q):PT X e t':=fun p s σ H Q I q=>h p s σ H Q I (k σ H Q q)
theorem PA.conv{X:Cx}{e:List O3}{t t':TA}(h:PA X e t) (k:∀ σ H Q,t' σ H Q->t σ H Q):PA X e t':=fun ps p s σ H Q I q=>h ps p s σ H Q I (k σ H Q q)
theorem PS.conv{X:Cx}{e:aa1}{t t':TS}(h:PS X e t) (k:∀D σ H,t' D σ H->t D σ H):PS X e t':=fun p s σ H D I q=>h p s σ H D I (k D σ H q)
theorem PSs.conv{X:Cx}{e:List aa1}{t t':TS}(h:PSs X e t) (k:∀D σ H,t' D σ H->t D σ H):PSs X e t':=fun p s σ H D I q=>h p s σ H D I (k D σ H q)
section
variable{X:Cx}{a b c:O3}{es:List O3}{ta tb:TEd}{pos:Pos}
def iu(i:Nat):TEd:=fun Δ M Q=>∃d,Δ[i]?=some (some d)/\Q d M
def dC(d:D):TEd:=fun _ M Q=>Q d M
theorem zp{x:Str}{i:Int}{t:Tok}{pos:Pos}(hg:Gl X x) (hm:X.mg x=some (.int i t)) (hd:(x==("__debug__":Str))=false:=by decide):PEd X (.Name x pos) (dC (.int i)) :=
 (pC (v:=.int i) hg hm ⟨t,rfl⟩ hd).conv fun σ H Q hup=>hup.el fun Δ M R sr hr q k=>k _ M _ H q (Ext.refl _ _) hr (by simp[Rep])
theorem zM{x y:Str}{t:Tok}{pos:Pos}(hg:Gl X x) (hm:X.mg x=some (.str y t)) (hd:(x==("__debug__":Str))=false:=by decide):PEd X (.Name x pos) (dC (.str y)) :=
 (pC (v:=.str y) hg hm ⟨t,rfl⟩ hd).conv fun σ H Q hup=>hup.el fun Δ M R sr hr q k=>k _ M _ H q (Ext.refl _ _) hr (by simp[Rep])
def tS:TAd:=fun _ M Q=>Q [] M
def ix(ta:TEd) (tr:TAd):TAd:=fun Δ M Q=>ta Δ M fun x M1=>tr Δ M1 fun xs M2=>Q (x::xs) M2
def Dx(t:TAd):TEd:=fun Δ M Q=>t Δ M fun ds M1=>ds.length<=I0/\Q (.tup ds) M1
def Fc(t:TAd):TEd:=fun Δ M Q=>t Δ M fun ds M1=>ds.length<=I0/\Q (.lst ds) M1
def A3(t:TAd):TEd:=fun Δ M Q=>t Δ M fun ds M1=>ds.length<=I0/\∀p,M1 p=none->Q (.ref p) (av M1 p (.lst ds))
def rdM(M:DH):D->D
 |.ref a=>match M a with|some (.lst ds)=>.lst ds|_=>.ref a
 |d=>d
def aY(K:F0) (M:DH) (H:Hp) (d:D) (v:V):Prop:=match d with
 |.tup ds=>∃a vs,v=.ref a/\SqT K H a vs/\ar K M H ds vs
 |.lst ds=>∃a vs,v=.ref a/\H a=some (.lst vs)/\ar K M H ds vs
 |.scr ds=>∃a vs,v=.ref a/\SqL K H a vs/\ar K M H ds vs
 |d=>Rep K M H d v
theorem oa.sq{K:F0}{M:DH}{H:Hp}{a:F9}{vs:List V}(h:oa K M H a vs):SqT K H a vs:=by
 rcases h with⟨h,_⟩|h
 ·exact .inl h
 ·rcases h with(h|⟨_,h⟩)|h
  ·cases h
  ·cases h
  ·exact .inr h
theorem oJ.sq{K:F0}{M:DH}{H:Hp}{a:F9}{vs:List V}(h:oJ K M H a vs):SqL K H a vs:=by
 rcases h with⟨⟨o,h⟩,_⟩|h
 ·exact .inl (.inr ⟨o,h⟩)
 ·rcases h with(h|⟨_,h⟩)|h
  ·cases h
  ·cases h
  ·exact .inr h
theorem Rep.rd{K:F0}{M:DH}{H:Hp}{d:D}{v:V}(hr:HR K M H) (h:Rep K M H d v):aY K M H (rdM M d) v:=by
 cases d with
 |tup ds=>simp only[Rep]at h;obtain⟨a,vs,e,t,r⟩:=h;exact⟨a,vs,e,t.sq,r⟩
 |lst ds=>simp only[Rep]at h;obtain⟨a,vs,e,t,r⟩:=h;exact⟨a,vs,e,t.1,r⟩
 |scr ds=>simp only[Rep]at h;obtain⟨a,vs,e,t,r⟩:=h;exact⟨a,vs,e,t.sq,r⟩
 |ref a =>
  simp only[rdM];cases q:M a with
  |none=>exact h
  |some o =>
   cases o with
   |lst ds =>
    obtain⟨vs,e,r⟩:=hr a _ q;simp only[Rep]at h;exact⟨a,vs,h,e,r⟩
   |dK _=>exact h
   |dT _=>exact h
   |dKr _ _ _=>exact h
   |ins _ _=>exact h
   |ext _ _=>exact h
 |non=>exact h
 |bl b=>exact h
 |int i=>exact h
 |str x=>exact h
 |emp=>exact h
 |box _ _=>exact h
def cq(X:Cx) (f:s0->s0->Sem s0) (r:D->D->Option D):Prop :=
 ∀(af:List (F9×Obj)) (s:F2) (σ:St) (H:Hp) (M:DH) (x y:V) (v u:s0) (dx dy dz:D) (Q:VK),Inv X af σ H s->HR X.K M H->aX x v->aX y u->aY X.K M H dx x->aY X.K M H dy y->r dx dy=some dz ->
  (∀w H',Ext M H M H'->HR X.K M H'->Rep X.K M H' dz w->Q w H')->J4 (M0 X.prog X.w) X.A (f v u) (EP X af σ Q) X.xe s
def DU(X:Cx) (f:s0->Sem s0) (r:D->Option D):Prop :=
 ∀(af:List (F9×Obj)) (s:F2) (σ:St) (H:Hp) (M:DH) (x:V) (v:s0) (dx dz:D) (Q:VK),Inv X af σ H s->HR X.K M H->aX x v->aY X.K M H dx x->r dx=some dz ->
  (∀w H',Ext M H M H'->HR X.K M H'->Rep X.K M H' dz w->Q w H')->J4 (M0 X.prog X.w) X.A (f v) (EP X af σ Q) X.xe s
def cw(X:Cx) (f:s0) (r:List D->Option D):Prop :=
 ∀(af:List (F9×Obj)) (s:F2) (σ:St) (H:Hp) (M:DH) (xs:List V) (us:List s0) (ds:List D) (dz:D) (Q:VK),Inv X af σ H s->HR X.K M H->aE xs us->ae0 (aY X.K M H) ds xs->r ds=some dz ->
  (∀w H',Ext M H M H'->HR X.K M H'->Rep X.K M H' dz w->Q w H')->J4 (M0 X.prog X.w) X.A (call f us) (EP X af σ Q) X.xe s
def dOp(r:D->D->Option D) (ta tb:TEd):TEd:=fun Δ M Q=>ta Δ M fun x M1=>tb Δ M1 fun y M2=>∃z,r (rdM M2 x) (rdM M2 y)=some z/\Q z M2
def dUn(r:D->Option D) (ta:TEd):TEd:=fun Δ M Q=>ta Δ M fun x M1=>∃z,r (rdM M1 x)=some z/\Q z M1
def opV(K:F0) (r:D->D->Option D):R2:=fun x y H Q=>∃dx dy dz M,HR K M H/\aY K M H dx x/\aY K M H dy y/\r dx dy=some dz/\∀w H',Ext M H M H'->HR K M H'->Rep K M H' dz w->Q w H'
theorem cq.v{f:s0->s0->Sem s0}{r:D->D->Option D}(h:cq X f r):OpR X f (opV X.K r):=fun af s σ H x y v u Q I rx ry ⟨dx,dy,dz,M,hr,r1,r2,e,k⟩=>h af s σ H M x y v u dx dy dz Q I hr rx ry r1 r2 e k
theorem yL{K:F0}{r:D->D->Option D}{ta tb:TEd}:∀ σ H Q,up K (dOp r ta tb) σ H Q->tOp (opV K r) (up K ta) (up K tb) σ H Q:=fun σ H Q hup=>hup.el fun Δ M R sr hr q k =>
 ⟨Δ,M,_,sr,hr,q,fun x M1 v H1 q1 e1 hr1 rv=>⟨Δ,M1,_,sr.ext e1,hr1,q1,fun y M2 u H2 ⟨z,ez,q2⟩ e2 hr2 ru=>⟨_,_,z,M2,hr2,(rv.ext e2).rd hr2,ru.rd hr2,ez,fun w H' e3 hr3 rw_=>k z M2 w H' q2 ((e1.trans e2).trans e3) hr3 rw_⟩⟩⟩
def Aw(t:TEd):TTd:=fun Δ M Q=>t Δ M fun x M1=>∃k,x=.bl k/\Q k M1
theorem Ej{K:F0}{t:TEd}:∀ σ H Q,upT K (Aw t) σ H Q->Bb (up K t) σ H Q:=fun σ H Q hup=>hup.el fun Δ M R sr hr q k =>
 ⟨Δ,M,_,sr,hr,q,fun d M1 v H1 ⟨b,e,q1⟩ e1 hr1 rv=>⟨b,by subst e;simpa only[Rep]using rv,k b M1 H1 q1 e1 hr1⟩⟩
def Bu(t:TTd):TTd:=fun Δ M Q=>t Δ M fun c M1=>Q (!c) M1
def Bf(t u:TTd):TTd:=fun Δ M Q=>t Δ M fun c M1=>if c=true then u Δ M1 Q else Q false M1
def DZ(t u:TTd):TTd:=fun Δ M Q=>t Δ M fun c M1=>if c=true then Q true M1 else u Δ M1 Q
variable{tA tB':TTd}{rest:List O3}
theorem PW.conv{X:Cx}{e:O3}{t t':TT}(h:PW X e t) (k:∀ σ H Q,t' σ H Q->t σ H Q):PW X e t':=fun w p s σ H Q I q=>h w p s σ H Q I (k σ H Q q)
theorem PWd.pt{e:O3}{t:TTd}(h:PWd X e t):PTd X e t:=PW.pt h
def DK(ta tb:TEd):TEd:=fun Δ M Q=>ta Δ M fun x M1=>∃c,x=.bl c/\if c=true then tb Δ M1 Q else Q (.bl false) M1
def Ew(ta:TEd):TEd:=fun Δ M Q=>ta Δ M fun x M1=>∃c,x=.bl c/\Q (.bl (!c)) M1
def wg(r r':D->D->Option D) (ta tb tc:TEd):TEd:=fun Δ M Q=>ta Δ M fun x M1=>tb Δ M1 fun y M2=>∃k,r (rdM M2 x) (rdM M2 y)=some (.bl k)/\if k=true then tc Δ M2 fun z M3=>∃w,r' (rdM M3 y) (rdM M3 z)=some w/\Q w M3 else Q (.bl false) M2
theorem ug{K:F0}{M:DH}{H:Hp}(hr:HR K M H):∀{ds:List D}{vs:List V},ar K M H ds vs->ae0 (aY K M H) (ds.map (rdM M)) vs
 |[],_,h=>by simp only[ar]at h;subst h;exact .nil
 |d::ds,_,h=>by
  simp only[ar]at h;obtain⟨v,ws,rfl,h1,h2⟩:=h;exact .cons (h1.rd hr) (ug hr h2)
def dCB(r:List D->Option D) (t:TAd):TEd:=fun Δ M Q=>t Δ M fun ds M1=>∃z,r (ds.map (rdM M1))=some z/\Q z M1
theorem A9{K:F0}{r:List D->Option D}{t:TAd}:∀ σ H Q,up K (dCB r t) σ H Q->tCB (fun xs H Q=>∃ds dz M,HR K M H/\ae0 (aY K M H) ds xs/\r ds=some dz/\∀w H',Ext M H M H'->HR K M H'->Rep K M H' dz w->Q w H') (upA K t) σ H Q:=fun σ H Q hup=>hup.el fun Δ M R sr hr q k =>
 ⟨Δ,M,_,sr,hr,q,fun ds M1 vs H1 ⟨z,ez,q1⟩ e1 hr1 rv=>⟨_,z,M1,hr1,ug hr1 rv,ez,fun w H' e2 hr2 r2=>k z M1 w H' q1 (e1.trans e2) hr2 r2⟩⟩
theorem cw.v{f:s0}{r:List D->Option D}(h:cw X f r):dj X f (fun xs H Q=>∃ds dz M,HR X.K M H/\ae0 (aY X.K M H) ds xs/\r ds=some dz/\∀w H',Ext M H M H'->HR X.K M H'->Rep X.K M H' dz w->Q w H') :=
 fun af s σ H xs us Q I rv ⟨ds,dz,M,hr,rr,e,k⟩=>h af s σ H M xs us ds dz Q I hr rv rr e k
end
section
variable{X:Cx}
theorem cq.of{f:s0->s0->Sem s0}{r2:R2}{r:D->D->Option D}(h:OpR X f r2)
  (k:∀(H:Hp) (M:DH) (x y:V) (dx dy dz:D) (Q:VK),HR X.K M H->aY X.K M H dx x->aY X.K M H dy y->r dx dy=some dz->(∀w H',Ext M H M H'->HR X.K M H'->Rep X.K M H' dz w->Q w H')->r2 x y H Q):cq X f r :=
 fun af s σ H M x y v u dx dy dz Q I hr rx ry r1 r2 e q=>h af s σ H x y v u Q I rx ry (k H M x y dx dy dz Q hr r1 r2 e q)
theorem cw.of{f:s0}{r2:List V->Hp->VK->Prop}{r:List D->Option D}(h:dj X f r2)
  (k:∀(H:Hp) (M:DH) (xs:List V) (ds:List D) (dz:D) (Q:VK),HR X.K M H->ae0 (aY X.K M H) ds xs->r ds=some dz->(∀w H',Ext M H M H'->HR X.K M H'->Rep X.K M H' dz w->Q w H')->r2 xs H Q):cw X f r :=
 fun af s σ H M xs us ds dz Q I hr rv r1 e q=>h af s σ H xs us Q I rv (k H M xs ds dz Q hr r1 e q)
theorem iE{K:F0}{M:DH}{H:Hp}{i:Int}{v:V}(h:aY K M H (.int i) v):v=.int i:=by simpa[aY,Rep]using h
theorem nL{K:F0}{M:DH}{H:Hp}{i:Str}{v:V}(h:aY K M H (.str i) v):v=.str i:=by simpa[aY,Rep]using h
theorem Ff{K:F0}{M:DH}{H:Hp}{v:V}(h:aY K M H .non v):v=.non:=by simpa[aY,Rep]using h
def iOp(f:Int->Int->Option D):D->D->Option D
 |.int a,.int b=>f a b
 |_,_=>none
theorem rM{f:Int->Int->Option D}{x y z:D}(h:iOp f x y=some z):∃a b,x=.int a/\y=.int b/\f a b=some z:=by
 cases x<;>first|cases h|skip
 rename_i a;cases y<;>first|cases h|skip
 rename_i b;exact⟨a,b,rfl,rfl,h⟩
noncomputable def bz:D->Bool
 |.non=>true|.bl _=>true|.int _=>true|.str _=>true|_=>false
def toV:D->V
 |.bl b=>.bl b|.int i=>.int i|.str x=>.str x|_=>.non
theorem rA{K:F0}{M:DH}{H:Hp}{d:D}(h:bz d=true):Rep K M H d (toV d):=by
 cases d<;>first|(simp[Rep,toV];done)|cases h
theorem ue{f:s0->s0->Sem s0}{C:Int->Int->Prop} [∀i j,Decidable (C i j)] {g:Int->Int->D}(hs:∀i j,bz (g i j)=true) (h:OpR X f (rI C fun i j=>toV (g i j))) :
  cq X f (iOp fun i j=>if C i j then some (g i j)else none) :=
 cq.of h fun H M x y dx dy dz Q hr r1 r2 e q=>by
  obtain⟨a,b,rfl,rfl,e'⟩:=rM e;clear e;have e:=e'
  by_cases hc:C a b
  ·rw[if_pos hc]at e;cases e;exact⟨a,b,iE r1,iE r2,hc,q _ _ (Ext.refl _ _) hr (rA (hs a b))⟩
  ·rw[if_neg hc]at e;cases e
theorem mX{f:s0->s0->Sem s0}{g:Int->Int->D}(hs:∀i j,bz (g i j)=true) (h:OpR X f (rI0 fun i j=>toV (g i j))) :
  cq X f (iOp fun i j=>some (g i j)) :=
 cq.of h fun H M x y dx dy dz Q hr r1 r2 e q=>by
  obtain⟨a,b,rfl,rfl,e⟩:=rM e;cases e;exact⟨a,b,iE r1,iE r2,q _ _ (Ext.refl _ _) hr (rA (hs a b))⟩
instance:∀i j,Decidable (pM i j):=fun i j=>by unfold pM;exact inferInstance
instance:∀i j,Decidable (kF i j):=fun i j=>by unfold kF;exact inferInstance
instance:∀i j,Decidable (qF i j):=fun i j=>by unfold qF;exact inferInstance
theorem wa:cq X (Z1 .Sub) (iOp fun i j=>some (.int (i-j))):=mX (fun _ _=>rfl) B3
theorem Cv:cq X (Z1 .Mult) (iOp fun i j=>if kF i j then some (.int (i*j))else none):=ue (fun _ _=>rfl) BP
theorem xt:cq X (Z1 .FloorDiv) (iOp fun i j=>if pM i j then some (.int (i / j))else none):=ue (fun _ _=>rfl) AL
theorem kT:cq X (Z1 .Mod) (iOp fun i j=>if 0<j then some (.int (i % j))else none):=ue (C:=fun _ j=>0<j) (fun _ _=>rfl) Ci
theorem E3:cq X (Z1 .Pow) (iOp fun i j=>if qF i j then some (.int (i ^ j.toNat))else none):=ue (fun _ _=>rfl) B9
theorem xM:cq X (S4 .Lt) (iOp fun i j=>some (.bl (decide (i<j)))):=mX (fun _ _=>rfl) E7
theorem lw:cq X (S4 .LtE) (iOp fun i j=>some (.bl (decide (i<=j)))):=mX (fun _ _=>rfl) Eu
theorem vy:cq X (S4 .Gt) (iOp fun i j=>some (.bl (decide (j<i)))):=mX (fun _ _=>rfl) Et
theorem FC:cq X (S4 .GtE) (iOp fun i j=>some (.bl (decide (j<=i)))):=mX (fun _ _=>rfl) Ee
theorem ar.at_{K:F0}{M:DH}{H:Hp}{ds:List D}{vs:List V}{i:Int}{d:D}(h:ar K M H ds vs) (e:atI ds i=some d):∃v,atI vs i=some v/\Rep K M H d v:=by
 unfold atI at e ⊢;rw[<-h.length];cases q:ixN ds.length i with
 |none=>rw[q]at e;cases e
 |some j =>
  rw[q]at e;have e':ds[j]?=some d:=e;obtain⟨v,a,b⟩:=h.get e';exact⟨v,a,b⟩
def ixD:D->D->Option D
 |.tup ds,.int i=>atI ds i
 |.lst ds,.int i=>atI ds i
 |.scr ds,.int i=>atI ds i
 |.str z,.int i=>if z.length<=I0 then(atI z.cps.toList i).map fun c=>.str ⟨#[c]⟩else none
 |_,_=>none
theorem bo:IxR X (opV X.K ixD):=by
 intro value slice af s σ H x y v u Q I rx ry h hs;obtain⟨dx,dy,dz,M,hr,r1,r2,e,k⟩:=h;cases dx with
 |tup ds =>
  cases dy with
  |int i =>
   obtain⟨a,vs,rfl,sq,rl⟩:=r1;obtain⟨w,e2,rw_⟩:=rl.at_ e;exact BW value slice af s σ H _ _ v u Q I rx ry ⟨a,vs,i,w,rfl,iE r2,sq,e2,k w H (Ext.refl _ _) hr rw_⟩ hs
  |_=>cases e
 |lst ds =>
  cases dy with
  |int i =>
   obtain⟨a,vs,rfl,sq,rl⟩:=r1;obtain⟨w,e2,rw_⟩:=rl.at_ e;exact uD value slice af s σ H _ _ v u Q I rx ry ⟨a,vs,i,w,rfl,iE r2,SqL.of sq,e2,k w H (Ext.refl _ _) hr rw_⟩ hs
  |_=>cases e
 |scr ds =>
  cases dy with
  |int i =>
   obtain⟨a,vs,rfl,sq,rl⟩:=r1;obtain⟨w,e2,rw_⟩:=rl.at_ e;exact uD value slice af s σ H _ _ v u Q I rx ry ⟨a,vs,i,w,rfl,iE r2,sq,e2,k w H (Ext.refl _ _) hr rw_⟩ hs
  |_=>cases e
 |str z =>
  cases dy with
  |int i =>
   simp only[ixD]at e
   by_cases hz:z.length<=I0
   ·rw[if_pos hz]at e;cases q:atI z.cps.toList i with
    |none=>rw[q]at e;cases e
    |some c =>
     rw[q]at e;cases e;exact CY value slice af s σ H _ _ v u Q I rx ry ⟨z,i,c,nL r1,iE r2,hz,q,k _ H (Ext.refl _ _) hr (by simp[Rep])⟩ hs
   ·rw[if_neg hz]at e;cases e
  |_=>cases e
 |_=>cases e
noncomputable def sj:D->D->Option D
 |.int a,.int b=>some (.int (a+b))
 |.str a,.str b=>if a.length+b.length<=I0 then some (.str (a++b))else none
 |.lst a,.lst b=>if a.length+b.length<=I0 then some (.lst (a++b))else none
 |.tup a,.tup b=>if a.length+b.length<=I0 then some (.tup (a++b))else none
 |_,_=>none
theorem iJ{K:F0}{M:DH}{H:Hp}{p:F9}{ds:List D}{vs:List V}{Q:VK}(hr:HR K M H) (hp:H p=none) (r:ar K M H ds vs) (q:∀w H',Ext M H M H'->HR K M H'->Rep K M H' (.lst ds) w->Q w H'):Q (.ref p) (upd H p (.lst vs)) :=
 q _ _ (Ext.new hr hp) (hr.new hp) (by simp only[Rep];exact⟨p,vs,rfl,⟨bh,hr.fresh hp⟩,r.ext (Ext.new hr hp)⟩)
theorem lQ{K:F0}{M:DH}{H:Hp}{p:F9}{ds:List D}{vs:List V}{Q:VK}(hr:HR K M H) (hp:H p=none) (r:ar K M H ds vs) (q:∀w H',Ext M H M H'->HR K M H'->Rep K M H' (.tup ds) w->Q w H'):Q (.ref p) (upd H p (.tup vs)) :=
 q _ _ (Ext.new hr hp) (hr.new hp) (by simp only[Rep];exact⟨p,vs,rfl,.inl ⟨.inl bh,hr.fresh hp⟩,r.ext (Ext.new hr hp)⟩)
theorem aY.tup{K:F0}{M:DH}{H:Hp}{ds:List D}{v:V}(hr:HR K M H) (h:aY K M H (.tup ds) v):Rep K M H (.tup ds) v:=by
 obtain⟨a,vs,rfl,sq,rl⟩:=h;simp only[Rep];refine⟨a,vs,rfl,?_,rl⟩;rcases sq with r|k
 ·refine .inl ⟨r,?_⟩;cases q:M a with
  |none=>rfl
  |some o =>
   obtain⟨u,z,m⟩:=(hr a _ q).some;rcases r with r|⟨ob,r⟩
   ·rw[z]at r;exact absurd (P9 r) (m _).1
   ·rw[z]at r;exact absurd (P9 r) ((m _).2 ob)
 ·exact .inr (.inr k)
theorem yn{prog:K6}{w:Q7}{A:N6}{E:s0->F2->Prop}{s:F2}{t b:F9}{ws:List s0}{Q:s0->F2->Prop}(ht:ap8 s.heap t ([]:List s0).toArray) (hb:ap8 s.heap b ws.toArray)
  (h:Q (.ref b) s):J4 (M0 prog w) A (Z1 .Add (.ref t) (.ref b)) Q E s:=by
 obtain⟨⟨cls,dd,data,sl⟩,ho,hc,n,hd⟩:=id ht;obtain⟨⟨cls2,dd2,data2,sl2⟩,ho2,hc2,n2,hd2⟩:=id hb;simp only at hc hd hc2 hd2;subst hc hd hc2 hd2;exact concat_meets ⟨_,ho,rfl⟩ ⟨_,ho2,rfl⟩ noFill_tuple_add seq_tuple_add PySem.F.slot_tuple_add PySem.F.entry_tuple_add (PySem.F.args_tuple_add_2 _ _)
   (tuple_addW0 t b ([]:List s0).toArray ws.toArray n n2 dd dd2 sl sl2 (by simp)) ⟨ho,ho2,h⟩
theorem aM:cq X (Z1 .Add) sj:=by
 intro af s σ H M x y v u dx dy dz Q I hr rx ry r1 r2 e k;cases dx with
 |int a =>
  cases dy with
  |int b =>
   cases e;exact Dv af s σ H x y v u Q I rx ry ⟨a,b,iE r1,iE r2,k _ H (Ext.refl _ _) hr (by simp[Rep])⟩
  |_=>cases e
 |str a =>
  cases dy with
  |str b =>
   simp only[sj]at e
   by_cases hz:a.length+b.length<=I0
   ·rw[if_pos hz]at e;cases e;exact sZ af s σ H x y v u Q I rx ry ⟨a,b,nL r1,nL r2,hz,k _ H (Ext.refl _ _) hr (by simp[Rep])⟩
   ·rw[if_neg hz]at e;cases e
  |_=>cases e
 |lst a =>
  cases dy with
  |lst b =>
   simp only[sj]at e
   by_cases hz:a.length+b.length<=I0
   ·rw[if_pos hz]at e;cases e;obtain⟨l1,vs,rfl,h1,l1r⟩:=r1;obtain⟨l2,ws,rfl,h2,l2r⟩:=r2;exact wj af s σ H _ _ v u Q I rx ry ⟨l1,l2,vs,ws,rfl,rfl,h1,h2,by rw[<-l1r.length,<-l2r.length];exact hz,fun p hp=>iJ hr hp (l1r.append l2r) k⟩
   ·rw[if_neg hz]at e;cases e
  |_=>cases e
 |tup a =>
  cases dy with
  |tup b =>
   simp only[sj]at e
   by_cases hz:a.length+b.length<=I0
   ·rw[if_pos hz]at e;cases e;have t1:=aY.tup hr r1;have t2:=aY.tup hr r2;obtain⟨l1,vs,rfl,h1,l1r⟩:=r1;obtain⟨l2,ws,rfl,h2,l2r⟩:=r2
    by_cases hv:vs=[]
    ·subst hv;have ea:a=[]:=by
      have:=l1r.length;cases a with
      |nil=>rfl
      |cons _ _=>simp at this
     subst ea;cases rx;cases ry;obtain⟨its,q1,p1,_⟩:=I.tuple h1;obtain⟨its2,q2,p2,_⟩:=I.tuple h2;cases q1;exact yn p1 p2 ⟨.ref l2,H,I,rfl,k _ H (Ext.refl _ _) hr t2⟩
    ·refine zI af s σ H _ _ v u Q I rx ry ⟨l1,l2,vs,ws,rfl,rfl,h1,h2,hv,by rw[<-l1r.length,<-l2r.length];exact hz,fun hw=>?_,fun _ p hp=>lQ hr hp (l1r.append l2r) k⟩;subst hw;have eb:b=[]:=by
      have:=l2r.length;cases b with
      |nil=>rfl
      |cons _ _=>simp at this
     subst eb;rw[ab1]at k;exact k _ H (Ext.refl _ _) hr t1
   ·rw[if_neg hz]at e;cases e
  |_=>cases e
 |_=>cases e
mutual
def eqD:D->D->Bool
 |.non,.non=>true
 |.bl a,.bl b=>a==b
 |.bl a,.int b=>(if a then 1 else 0)==b
 |.int a,.bl b=>a==(if b then 1 else 0)
 |.int a,.int b=>a==b
 |.str a,.str b=>a==b
 |.tup a,.tup b=>eI a b
 |.lst a,.lst b=>eI a b
 |_,_=>false
def eI:List D->List D->Bool
 |[],[]=>true
 |a::as,b::bs=>eqD a b&&eI as bs
 |_,_=>false
end
mutual
def dLe:D->Nat->Bool
 |.tup _,0=>false
 |.tup ds,n+1=>cz ds n
 |.lst _,0=>false
 |.lst ds,n+1=>cz ds n
 |.scr _,_=>false
 |.emp,_=>false
 |.box _ _,_=>false
 |.ref _,_=>false
 |_,_=>true
def cz:List D->Nat->Bool
 |[],_=>true
 |d::ds,n=>dLe d n&&cz ds n
end
theorem fQ:∀{ds:List D}{n i:Nat}{d:D},cz ds n=true->ds[i]?=some d->dLe d n=true
 |[],_,_,_,_,e=>by simp at e
 |d::ds,n,0,x,h,e=>by
  simp only[cz,K1]at h;simp at e;subst e;exact h.1
 |d::ds,n,i+1,x,h,e=>by
  simp only[cz,K1]at h;exact fQ h.2 (by simpa using e)
theorem gc:∀{ds:List D}{n:Nat},cz ds n=true↔∀d∈ds,dLe d n=true
 |[],n=>by simp[cz]
 |d::ds,n=>by simp[cz,gc (ds:=ds)]
def eqN(ds es:List D) (j:Nat):Bool:=match ds[j]?,es[j]? with|some a,some b=>eqD a b|_,_=>false
theorem se:∀{ds es:List D},eI ds es=true->ds.length=es.length
 |[],[],_=>rfl
 |[],_::_,h=>by simp[eI]at h
 |_::_,[],h=>by simp[eI]at h
 |_::ds,_::es,h=>by
  simp only[eI,K1]at h;simp[se h.2]
theorem mV:∀{ds es:List D},eI ds es=((P0 (min ds.length es.length)).all (eqN ds es)&&ds.length==es.length)
 |[],[]=>by simp[eI]
 |[],_::_=>by simp[eI]
 |_::_,[]=>by simp[eI]
 |a::ds,b::es=>by
  have ih:=@mV ds es;simp only[eI,T0,Nat.add_min_add_right,List.range_succ_eq_map,Z3,Q6];have e0:eqN (a::ds) (b::es) 0=eqD a b:=by simp[eqN]
  have e1:(eqN (a::ds) (b::es))∘Nat.succ=eqN ds es:=by
   funext j;simp[eqN]
  rw[e0,e1,ih];have e2:(ds.length+1==es.length+1)=(ds.length==es.length):=by
   rw[S0];simp
  rw[e2,Bool.and_assoc]
theorem vN{ds es:List D}(h:ds.length=es.length):eI ds es=(P0 ds.length).all (eqN ds es):=by
 rw[mV,<-h,Nat.min_self];simp
theorem Rep.r{K:F0}{M:DH}{H:Hp}{d:D}{v:V}(h:Rep K M H d v):aY K M H d v:=by
 cases d with
 |tup ds=>simp only[Rep]at h;obtain⟨a,vs,e,t,r⟩:=h;exact⟨a,vs,e,t.sq,r⟩
 |lst ds=>simp only[Rep]at h;obtain⟨a,vs,e,t,r⟩:=h;exact⟨a,vs,e,t.1,r⟩
 |scr ds=>simp only[Rep]at h;obtain⟨a,vs,e,t,r⟩:=h;exact⟨a,vs,e,t.sq,r⟩
 |_=>exact h
theorem Bj{af:List (F9×Obj)}{σ:St}{H:Hp}{s:F2}{a:F9}{vs ws:List V}(I:Inv X af σ H s) (h:SqT X.K H a vs) (h':H a=some (.lst ws)):False:=by
 obtain⟨its,r,⟨o,e,c,n,d⟩,_⟩:=I.tuple h;obtain⟨_,its',n',_,e'⟩:=I.hok a _ h';rw[e]at e';cases e';exact absurd (show O6 "list"=O6 "tuple" from c) (by decide)
theorem wL{af:List (F9×Obj)}{σ:St}{H:Hp}{s:F2}(I:Inv X af σ H s) {M M':DH}:∀(n:Nat) {d e:D}{v:V},dLe d n=true->dLe e n=true->aY X.K M H d v->aY X.K M' H e v->eqD d e=true:=by
  intro n
  induction n with
  | zero =>
    intro d e v hd he r1 r2;cases d<;>first|(simp[dLe]at hd;done)|skip
    all_goals cases e<;>first|(simp[dLe]at he;done)|skip
    all_goals (simp only[aY,Rep]at r1 r2;subst r1;first|(cases r2;simp[eqD];done)|cases r2)
  | succ n ih =>
    intro d e v hd he r1 r2;have lists:∀{ds es:List D} {vs:List V},cz ds n=true->cz es n=true->ar X.K M H ds vs->ar X.K M' H es vs->eI ds es=true:=by
      intro ds
      induction ds with
      | nil =>
        intro es vs _ _ h1 h2;simp only[ar]at h1;subst h1;cases es with
        |nil=>simp[eI]
        |cons _ _=>simp[ar]at h2
      | cons a ds ihl =>
        intro es vs d1 d2 h1 h2;simp only[ar]at h1;obtain⟨v,ws,rfl,h3,h4⟩:=h1;cases es with
        |nil=>simp[ar]at h2
        | cons b es =>
          simp only[ar]at h2;obtain⟨v',ws',e',h5,h6⟩:=h2;cases e';simp only[cz,K1]at d1 d2;simp only[eI,K1];exact⟨ih d1.1 d2.1 h3.r h5.r,ihl d1.2 d2.2 h4 h6⟩
    cases d with
    | tup ds =>
      obtain⟨a,vs,rfl,sq,rl⟩:=r1;cases e with
      | tup es =>
        obtain⟨b,ws,e',sq',rl'⟩:=r2;cases e';have:=I.tuple_inj sq sq';subst this;simp only[eqD];exact lists (by simpa[dLe]using hd) (by simpa[dLe]using he) rl rl'
      | lst es =>
        obtain⟨b,ws,e',sq',rl'⟩:=r2;cases e';exact(Bj I sq sq').elim
      |_=>first|(simp[dLe]at he;done)|(simp only[aY,Rep]at r2;cases r2)
    | lst ds =>
      obtain⟨a,vs,rfl,sq,rl⟩:=r1;cases e with
      | lst es =>
        obtain⟨b,ws,e',sq',rl'⟩:=r2;cases e';rw[sq]at sq';cases sq';simp only[eqD];exact lists (by simpa[dLe]using hd) (by simpa[dLe]using he) rl rl'
      | tup es =>
        obtain⟨b,ws,e',sq',rl'⟩:=r2;cases e';exact(Bj I sq' sq).elim
      |_=>first|(simp[dLe]at he;done)|(simp only[aY,Rep]at r2;cases r2)
    | _ =>
      first
      |(simp[dLe]at hd;done)
      | (cases e with
         |tup es=>(obtain⟨b,ws,e',sq',rl'⟩:=r2;subst e';simp only[aY,Rep]at r1;cases r1)
         |lst es=>(obtain⟨b,ws,e',sq',rl'⟩:=r2;subst e';simp only[aY,Rep]at r1;cases r1)
         |_=>first|(simp[dLe]at he;done)|(simp only[aY,Rep]at r1 r2;subst r1;first|(cases r2;simp[eqD];done)|cases r2))
theorem aY.at{K:F0}{M:DH}{H:Hp}{d:D}{v:V}{u:s0}(r:aY K M H d v) (q:aX v u):match d with|.non=>u=.none|.bl b=>u=.bool b|.int i=>∃t,u=.int i t|.str x=>∃t,u=.str x t|_=>True:=by
 cases d<;>first|trivial|(simp only[aY,Rep]at r;subst r;exact q)
open PySem.SeqAt in
theorem lN{af:List (F9×Obj)}{σ:St}{H:Hp}{s:F2}(I:Inv X af σ H s) {M M':DH}:∀(n:Nat) {A:N6}{d e:D}{v w:V}{u1 u2:s0},A.units+n<am0->dLe d n=true->dLe e n=true ->
  aY X.K M H d v->aY X.K M' H e w->aX v u1->aX w u2->EqAt A s u1 u2 (eqD d e)/\RcAt A s u1 u2 (eqD d e)/\RcNeAt A s u1 u2 (!(eqD d e)):=by
 intro n
 induction n with
 |zero =>
  intro A d e v w u1 u2 hu hd he r1 r2 q1 q2;have hu0:A.units<am0:=by lia
  cases d<;>first|(simp[dLe]at hd;done)|skip
  all_goals cases e<;>first|(simp[dLe]at he;done)|skip
  all_goals simp only[aY,Rep]at r1 r2
  all_goals subst r1
  all_goals subst r2
  all_goals simp only[aX]at q1 q2
  all_goals first|(obtain⟨t1,rfl⟩:=q1)|subst q1
  all_goals first|(obtain⟨t2,rfl⟩:=q2)|subst q2
  all_goals simp only[eqD]
  ·exact⟨EqAt.same _,RcAt.none_none,RcNeAt.none_none⟩
  ·exact⟨EqAt.none_bool _,RcAt.none_bool _,RcNeAt.none_bool _⟩
  ·exact⟨EqAt.none_int _ _,RcAt.none_int _ _,RcNeAt.none_int _ _⟩
  ·exact⟨EqAt.none_str _ _,RcAt.none_str _ _,RcNeAt.none_str _ _⟩
  ·exact⟨EqAt.bool_none _,RcAt.bool_none _,RcNeAt.bool_none _⟩
  ·exact⟨EqAt.bool_bool _ _,RcAt.bool_bool _ _,RcNeAt.bool_bool _ _⟩
  ·exact⟨EqAt.bool_int _ _ _,RcAt.bool_int _ _ _,RcNeAt.bool_int _ _ _⟩
  ·exact⟨EqAt.bool_str _ _ _,RcAt.bool_str _ _ _,RcNeAt.bool_str _ _ _⟩
  ·exact⟨EqAt.int_none _ _,RcAt.int_none _ _,RcNeAt.int_none _ _⟩
  ·exact⟨EqAt.int_bool _ _ _,RcAt.int_bool _ _ _,RcNeAt.int_bool _ _ _⟩
  ·exact⟨EqAt.int_int _ _ _ _,RcAt.int_int _ _ _ _,RcNeAt.int_int _ _ _ _⟩
  ·exact⟨EqAt.int_str _ _ _ _,RcAt.int_str _ _ _ _,RcNeAt.int_str _ _ _ _⟩
  ·exact⟨EqAt.str_none _ _,RcAt.str_none _ _,RcNeAt.str_none _ _⟩
  ·exact⟨EqAt.str_bool _ _ _,RcAt.str_bool _ _ _,RcNeAt.str_bool _ _ _⟩
  ·exact⟨EqAt.str_int _ _ _ _,RcAt.str_int _ _ _ _,RcNeAt.str_int _ _ _ _⟩
  ·exact⟨EqAt.str_str _ _ _ _,RcAt.str_str _ _ _ _,RcNeAt.str_str _ _ _ _⟩
 |succ n ih =>
  intro A d e v w u1 u2 hu hd he r1 r2 q1 q2;have hu0:A.units<am0:=by lia
  have hu1:A.in1.units+n<am0:=by show A.units+1+n<am0;lia
  have item:∀{ds es:List D} {vs ws:List V} {us us2:List s0},cz ds n=true->cz es n=true->ar X.K M H ds vs->ar X.K M' H es ws->aE vs us->aE ws us2 ->
    ∀j (h1:j<us.toArray.size) (h2:j<us2.toArray.size),EqAt A.in1 s us.toArray[j] us2.toArray[j] (eqN ds es j):=by
   intro ds es vs ws us us2 d1 d2 h1 h2 h3 h4 j hj1 hj2;have l1:=h1.length;have l2:=h2.length;have l3:=h3.length;have l4:=h4.length;have j1:j<ds.length:=by simp at hj1;lia
   have j2:j<es.length:=by simp at hj2;lia
   obtain⟨v1,g1,p1⟩:=h1.get (i:=j) (d:=ds[j]) (by simp[j1]);obtain⟨v2,g2,p2⟩:=h2.get (i:=j) (d:=es[j]) (by simp[j2]);obtain⟨u1,k1,m1⟩:=h3.get g1;obtain⟨u2,k2,m2⟩:=h4.get g2;have e1:us.toArray[j]=u1:=by
    simp at hj1;simpa[F4 hj1]using k1
   have e2:us2.toArray[j]=u2:=by
    simp at hj2;simpa[F4 hj2]using k2
   rw[e1,e2];have e3:eqN ds es j=eqD ds[j] es[j]:=by simp[eqN,j1,j2]
   rw[e3];exact(ih hu1 (fQ d1 (i:=j) (by simp[j1])) (fQ d2 (i:=j) (by simp[j2])) p1.r p2.r m1 m2).1
  have both:∀{a b:F9},v=.ref a->w=.ref b->RcAt A s (.ref a) (.ref b) (eqD d e)->EqAt A s (.ref a) (.ref b) (eqD d e):=by
   intro a b ea eb rc
   by_cases hab:a=b
   ·subst hab;subst ea;subst eb;rw[wL I (n+1) hd he r1 r2];exact EqAt.same _
   ·exact EqAt.of_refs hab rc
  cases d with
  |tup ds =>
   obtain⟨a,vs,rfl,sq,rl⟩:=id r1;cases q1;obtain⟨its,rv,pt,_⟩:=I.tuple sq;have hd':cz ds n=true:=by simpa[dLe]using hd
   cases e with
   |tup es =>
    obtain⟨b,ws,rfl,sq',rl'⟩:=id r2;cases q2;obtain⟨its2,rv2,pt2,_⟩:=I.tuple sq';have he':cz es n=true:=by simpa[dLe]using he
    have it:=item hd' he' rl rl' rv rv2;have t1:=RcAt.tuples (e:=eqN ds es) pt pt2 hu0 it;have t2:=RcNeAt.tuples (e:=eqN ds es) pt pt2 hu0 it;rw[J0,J0,<-rv.length,<-rv2.length,<-rl.length,<-rl'.length,<-mV]at t1 t2;have rc:RcAt A s (.ref a) (.ref b) (eqD (.tup ds) (.tup es)):=by simpa only[eqD]using t1
    exact⟨both rfl rfl rc,rc,by simpa only[eqD]using t2⟩
   |lst es =>
    obtain⟨b,ws,rfl,sq',rl'⟩:=id r2;cases q2;obtain⟨its2,rv2,pt2,_⟩:=I.list (SqL.of sq');simp only[eqD];exact⟨EqAt.tuple_list pt pt2.isList hu0,RcAt.tuple_list pt pt2.isList hu0,RcNeAt.tuple_list pt pt2.isList hu0⟩
   |non=>obtain rfl:=r2.at q2;simp only[eqD];exact⟨EqAt.tuple_none pt hu0,RcAt.tuple_none pt hu0,RcNeAt.tuple_none pt hu0⟩
   |bl b=>obtain rfl:=r2.at q2;simp only[eqD];exact⟨EqAt.tuple_bool _ pt hu0,RcAt.tuple_bool _ pt hu0,RcNeAt.tuple_bool _ pt hu0⟩
   |int b=>obtain⟨t,rfl⟩:=r2.at q2;simp only[eqD];exact⟨EqAt.tuple_int _ _ pt hu0,RcAt.tuple_int _ _ pt hu0,RcNeAt.tuple_int _ _ pt hu0⟩
   |str b=>obtain⟨t,rfl⟩:=r2.at q2;simp only[eqD];exact⟨EqAt.tuple_str _ _ pt hu0,RcAt.tuple_str _ _ pt hu0,RcNeAt.tuple_str _ _ pt hu0⟩
   |_=>simp[dLe]at he
  |lst ds =>
   obtain⟨a,vs,rfl,sq,rl⟩:=id r1;cases q1;obtain⟨its,rv,pt,_⟩:=I.list (SqL.of sq);have hd':cz ds n=true:=by simpa[dLe]using hd
   cases e with
   |lst es =>
    obtain⟨b,ws,rfl,sq',rl'⟩:=id r2;cases q2;obtain⟨its2,rv2,pt2,_⟩:=I.list (SqL.of sq');have he':cz es n=true:=by simpa[dLe]using he
    have hs:its.toArray.size=ds.length/\its2.toArray.size=es.length:=by rw[J0,J0,<-rv.length,<-rv2.length,<-rl.length,<-rl'.length];exact⟨rfl,rfl⟩
    have rc:RcAt A s (.ref a) (.ref b) (eqD (.lst ds) (.lst es))/\RcNeAt A s (.ref a) (.ref b) (!(eqD (.lst ds) (.lst es))):=by
     by_cases hl:ds.length=es.length
     ·have hsz:its.toArray.size=its2.toArray.size:=by rw[hs.1,hs.2];exact hl
      have it:=item hd' he' rl rl' rv rv2;have t1:=RcAt.lists (e:=eqN ds es) pt.isList pt2.isList hsz hu0 it;have t2:=RcNeAt.lists (e:=eqN ds es) pt.isList pt2.isList hsz hu0 it;rw[hs.1,<-vN hl]at t1 t2;exact⟨by simpa only[eqD]using t1,by simpa only[eqD]using t2⟩
     ·have hsz:(its.toArray.size != its2.toArray.size)=true:=by rw[hs.1,hs.2];simpa using hl
      have e0:eqD (.lst ds) (.lst es)=false:=by
       simp only[eqD];cases q:eI ds es with
       |false=>rfl
       |true=>exact absurd (se q) hl
      rw[e0];exact⟨RcAt.lists_lengths pt.isList pt2.isList hsz hu0,RcNeAt.lists_lengths pt.isList pt2.isList hsz hu0⟩
    exact⟨both rfl rfl rc.1,rc⟩
   |tup es =>
    obtain⟨b,ws,rfl,sq',rl'⟩:=id r2;cases q2;obtain⟨its2,rv2,pt2,_⟩:=I.tuple sq';simp only[eqD];exact⟨EqAt.list_tuple pt.isList pt2 hu0,RcAt.list_tuple pt.isList pt2 hu0,RcNeAt.list_tuple pt.isList pt2 hu0⟩
   |non=>obtain rfl:=r2.at q2;simp only[eqD];exact⟨EqAt.list_none pt.isList hu0,RcAt.list_none pt.isList hu0,RcNeAt.list_none pt.isList hu0⟩
   |bl b=>obtain rfl:=r2.at q2;simp only[eqD];exact⟨EqAt.list_bool _ pt.isList hu0,RcAt.list_bool _ pt.isList hu0,RcNeAt.list_bool _ pt.isList hu0⟩
   |int b=>obtain⟨t,rfl⟩:=r2.at q2;simp only[eqD];exact⟨EqAt.list_int _ _ pt.isList hu0,RcAt.list_int _ _ pt.isList hu0,RcNeAt.list_int _ _ pt.isList hu0⟩
   |str b=>obtain⟨t,rfl⟩:=r2.at q2;simp only[eqD];exact⟨EqAt.list_str _ _ pt.isList hu0,RcAt.list_str _ _ pt.isList hu0,RcNeAt.list_str _ _ pt.isList hu0⟩
   |_=>simp[dLe]at he
  |non =>
   cases e with
   |tup es =>
    obtain⟨b,ws,rfl,sq',rl'⟩:=id r2;cases q2;obtain⟨its2,rv2,pt2,_⟩:=I.tuple sq';obtain rfl:=r1.at q1;simp only[eqD];exact⟨EqAt.none_tuple pt2 hu0,RcAt.none_tuple pt2 hu0,RcNeAt.none_tuple pt2 hu0⟩
   |lst es =>
    obtain⟨b,ws,rfl,sq',rl'⟩:=id r2;cases q2;obtain⟨its2,rv2,pt2,_⟩:=I.list (SqL.of sq');obtain rfl:=r1.at q1;simp only[eqD];exact⟨EqAt.none_list pt2.isList hu0,RcAt.none_list pt2.isList hu0,RcNeAt.none_list pt2.isList hu0⟩
   |_=>first|(simp[dLe]at he;done)|exact ih (A:=A) (by lia) (by simp[dLe]) (by simp[dLe]) r1 r2 q1 q2
  |bl a =>
   cases e with
   |tup es =>
    obtain⟨b,ws,rfl,sq',rl'⟩:=id r2;cases q2;obtain⟨its2,rv2,pt2,_⟩:=I.tuple sq';obtain rfl:=r1.at q1;simp only[eqD];exact⟨EqAt.bool_tuple _ pt2 hu0,RcAt.bool_tuple _ pt2 hu0,RcNeAt.bool_tuple _ pt2 hu0⟩
   |lst es =>
    obtain⟨b,ws,rfl,sq',rl'⟩:=id r2;cases q2;obtain⟨its2,rv2,pt2,_⟩:=I.list (SqL.of sq');obtain rfl:=r1.at q1;simp only[eqD];exact⟨EqAt.bool_list _ pt2.isList hu0,RcAt.bool_list _ pt2.isList hu0,RcNeAt.bool_list _ pt2.isList hu0⟩
   |_=>first|(simp[dLe]at he;done)|exact ih (A:=A) (by lia) (by simp[dLe]) (by simp[dLe]) r1 r2 q1 q2
  |int a =>
   cases e with
   |tup es =>
    obtain⟨b,ws,rfl,sq',rl'⟩:=id r2;cases q2;obtain⟨its2,rv2,pt2,_⟩:=I.tuple sq';obtain⟨t,rfl⟩:=r1.at q1;simp only[eqD];exact⟨EqAt.int_tuple _ _ pt2 hu0,RcAt.int_tuple _ _ pt2 hu0,RcNeAt.int_tuple _ _ pt2 hu0⟩
   |lst es =>
    obtain⟨b,ws,rfl,sq',rl'⟩:=id r2;cases q2;obtain⟨its2,rv2,pt2,_⟩:=I.list (SqL.of sq');obtain⟨t,rfl⟩:=r1.at q1;simp only[eqD];exact⟨EqAt.int_list _ _ pt2.isList hu0,RcAt.int_list _ _ pt2.isList hu0,RcNeAt.int_list _ _ pt2.isList hu0⟩
   |_=>first|(simp[dLe]at he;done)|exact ih (A:=A) (by lia) (by simp[dLe]) (by simp[dLe]) r1 r2 q1 q2
  |str a =>
   cases e with
   |tup es =>
    obtain⟨b,ws,rfl,sq',rl'⟩:=id r2;cases q2;obtain⟨its2,rv2,pt2,_⟩:=I.tuple sq';obtain⟨t,rfl⟩:=r1.at q1;simp only[eqD];exact⟨EqAt.str_tuple _ _ pt2 hu0,RcAt.str_tuple _ _ pt2 hu0,RcNeAt.str_tuple _ _ pt2 hu0⟩
   |lst es =>
    obtain⟨b,ws,rfl,sq',rl'⟩:=id r2;cases q2;obtain⟨its2,rv2,pt2,_⟩:=I.list (SqL.of sq');obtain⟨t,rfl⟩:=r1.at q1;simp only[eqD];exact⟨EqAt.str_list _ _ pt2.isList hu0,RcAt.str_list _ _ pt2.isList hu0,RcNeAt.str_list _ _ pt2.isList hu0⟩
   |_=>first|(simp[dLe]at he;done)|exact ih (A:=A) (by lia) (by simp[dLe]) (by simp[dLe]) r1 r2 q1 q2
  |_=>simp[dLe]at hd
end
section
variable{X:Cx}{a b c e:O3}{es:List O3}{te ta tb:TEd}{pos:Pos}{st:aa1}{rest:List aa1}{t u:TSd}
def xa:TSd:=fun E Δ M=>E.nx Δ M
def yb(t u:TSd):TSd:=fun E Δ M=>t { E with nx:=u E } Δ M
def DM(te:TEd):TSd:=fun E Δ M=>te Δ M E.rt
def u5(te:TEd):TSd:=fun E Δ M=>te Δ M fun _ M1=>E.nx Δ M1
def Dh(c:TTd) (t u:TSd):TSd:=fun E Δ M=>c Δ M fun b M1=>if b=true then t E Δ M1 else u E Δ M1
def qj(i:Nat) (te:TEd):TSd:=fun E Δ M=>te Δ M fun d M1=>E.nx (Δ.set i (some d)) M1
def yT(i:Nat) (t:TSd):TSd:=fun E Δ M=>∃a ds,Δ[i]?=some (some (.ref a))/\M a=some (.lst ds)/\t E (Δ.set i (some (.lst ds))) (ir M a)
abbrev GD:=D->DE->Option DE
def PGd(X:Cx) (tg:O3) (g:GD):Prop:=∃gv:TG,PG X tg gv/\∀(d:D) (v:V) (σ:St) (Δ Δ':DE) (M:DH) (H:Hp) (Q:St->Hp->Prop),SR X.K M H σ Δ->HR X.K M H->Rep X.K M H d v->g d Δ=some Δ'->(∀ σ',SR X.K M H σ' Δ'->Q σ' H)->gv v σ H Q
def cR(i:Nat):GD:=fun d Δ=>some (Δ.set i (some d))
theorem bD{i:Nat}{x:Str}(hN:X.N.Nodup) (hi:X.N[i]?=some x) (hx:Loc X.env.scope x) (hf:X.fn x=true∨X.env.scope.names.lookup x=some .local:=by first|exact .inl rfl|exact .inr rfl|assumption):PGd X (.Name x pos) (cR i) :=
 ⟨qW i,uI hN hi hx hf,fun d v σ Δ Δ' M H Q sr hr rv e k=>by cases e;exact k _ (sr.set i rv)⟩
abbrev GDs:=List D->DE->Option DE
def A1(X:Cx) (tgs:List O3) (g:GDs):Prop:=∃gv:TGs,PGs X tgs gv/\∀(ds:List D) (vs:List V) (σ:St) (Δ Δ':DE) (M:DH) (H:Hp) (Q:St->Hp->Prop),SR X.K M H σ Δ->HR X.K M H->ar X.K M H ds vs->g ds Δ=some Δ'->(∀ σ',SR X.K M H σ' Δ'->Q σ' H)->gv vs σ H Q
def rj:GDs:=fun ds Δ=>match ds with|[]=>some Δ|_=>none
def jB(g:GD) (gs:GDs):GDs:=fun ds Δ=>match ds with|[]=>none|d::r=>(g d Δ).bind fun Δ1=>gs r Δ1
def lR(g:GDs) (n:Nat):GD:=fun d Δ=>match d with|.tup ds=>if ds.length=n then g ds Δ else none|_=>none
theorem qz:A1 X [] rj:=⟨C1,ud,fun ds vs σ Δ Δ' M H Q sr hr rv e k=>by
 cases ds with
 |nil=>simp only[ar]at rv;subst rv;cases e;exact⟨rfl,k _ sr⟩
 |cons _ _=>cases e⟩
theorem du{tg:O3}{tgs:List O3}{g:GD}{gs:GDs}(h1:PGd X tg g) (h2:A1 X tgs gs)
  (hs:(X6 (tg::tgs) X.env).map (·.2)=ao8 tg X.env::(X6 tgs X.env).map (·.2):=by rfl):A1 X (tg::tgs) (jB g gs):=by
 obtain⟨g1,p1,k1⟩:=h1;obtain⟨g2,p2,k2⟩:=h2;refine⟨xI g1 g2,rg p1 p2 hs,fun ds vs σ Δ Δ' M H Q sr hr rv e k=>?_⟩;cases ds with
 |nil=>cases e
 |cons d r =>
  simp only[ar]at rv;obtain⟨v,ws,rfl,h3,h4⟩:=rv;simp only[jB]at e;cases q:g d Δ with
  |none=>rw[q]at e;cases e
  |some Δ1 =>
   rw[q]at e;exact⟨v,ws,rfl,k1 d v σ Δ Δ1 M H _ sr hr h3 q fun σ1 sr1=>k2 r ws σ1 Δ1 Δ' M H Q sr1 hr h4 e k⟩
theorem qA{tgs:List O3}{kx:Nat}{g:GDs}{n:Nat}(hc:X.calm=true) (h:A1 X tgs g) (hn:(X6 tgs X.env).length=n:=by rfl) (hst:(X6 tgs X.env).findIdx? (·.1)=none:=by rfl):PGd X (.Tuple tgs kx pos) (lR g n):=by
 obtain⟨g1,p1,k1⟩:=h;refine⟨Dn X.K n g1,yJ hc p1 hn hst,fun d v σ Δ Δ' M H Q sr hr rv e k=>?_⟩;cases d with
 |tup ds =>
  simp only[lR]at e
  by_cases hl:ds.length=n
  ·rw[if_pos hl]at e;simp only[Rep]at rv;obtain⟨a,vs,rfl,ta,rl⟩:=rv;exact⟨a,vs,rfl,ta.sq,by rw[<-rl.length];exact hl,k1 ds vs σ Δ Δ' M H Q sr hr rl e k⟩
  ·rw[if_neg hl]at e;cases e
 |_=>cases e
def DV(te:TEd) (g:GD):TSd:=fun E Δ M=>te Δ M fun d M1=>∃ Δ',g d Δ=some Δ'/\E.nx Δ' M1
abbrev TId:=DE->DH->(List D->DH->Prop)->Prop
def ItD(K:F0) (J:It) (ds:List D) (M1:DH) (H1:Hp):Prop:=∀M2 H2,Ext M1 H1 M2 H2->HR K M2 H2->∀i,(∀d,ds[i]?=some d->J.go i H2/\∀x H',J.yld i H2 x H'->Ext M2 H2 M2 H'/\HR K M2 H'/\Rep K M2 H' d x)/\(ds.length<=i->J.stop i H2)
def upI(K:F0) (wi:TId):TI:=fun σ H R=>∃(Δ:DE) (M:DH) (R':List D->DH->Prop),SR K M H σ Δ/\HR K M H/\wi Δ M R'/\∀ds M1 J H1,R' ds M1->Ext M H M1 H1->HR K M1 H1->ItD K J ds M1 H1->R J H1
theorem upI.el{K:F0}{t:TId}{σ:St}{H:Hp}{Q:It->Hp->Prop}{P:Prop}(h:upI K t σ H Q) (f:∀(Δ:DE) (M:DH) (R:List D->DH->Prop),SR K M H σ Δ->HR K M H->t Δ M R->(∀ds M1 J H1,R ds M1->Ext M H M1 H1->HR K M1 H1->ItD K J ds M1 H1->Q J H1)->P):P:=by
 obtain⟨x1,x2,x3,a,b,c,d⟩:=h;exact f x1 x2 x3 a b c d
def PId(X:Cx) (tg iter:O3) (wi:TId):Prop:=PI X tg iter (upI X.K wi)
theorem PI.conv{tg iter:O3}{w w':TI}(h:PI X tg iter w) (k:∀ σ H R,w' σ H R->w σ H R):PI X tg iter w':=fun p s σ H R I q=>h p s σ H R I (k σ H R q)
variable{tg iter:O3}
def pe(lo:Int) (n:Nat):List D:=(P0 n).map fun(k:Nat)=>.int (lo+(k:Int))
theorem gb{lo:Int}{n i:Nat}{d:D}(h:(pe lo n)[i]?=some d):i<n/\d=.int (lo+i):=by
 unfold pe at h;rw[N0]at h
 by_cases hi:i<n
 ·rw[List.getElem?_range hi]at h;cases h;exact⟨hi,rfl⟩
 ·rw[P5 (by simp;omega)]at h;cases h
theorem zU{K:F0}{lo:Int}{n:Nat}{M1:DH}{H1:Hp}:ItD K (Itr lo n) (pe lo n) M1 H1:=fun M2 H2 e2 hr2 i=>⟨fun d hd=>by
  obtain⟨h1,rfl⟩:=gb hd;refine⟨h1,fun x H' ⟨eH,y⟩=>?_⟩;subst eH;subst y;exact⟨Ext.refl _ _,hr2,by simp[Rep]⟩,fun hl=>by
  show n<=i;simpa[pe]using hl⟩
def wz(ta:TAd):TId:=fun Δ M R=>ta Δ M fun ds M1=>∃j:Int,ds=[.int j]/\-(2 ^ 62)<=j/\j<2 ^ 62/\R (pe 0 j.toNat) M1
def cF(g:GD) (tb:TSd) (E:dQ):List D->DE->DH->Prop
 |[],Δ,M=>E.nx Δ M
 |d::ds,Δ,M=>∃ Δ',g d Δ=some Δ'/\tb { E with nx:=cF g tb E ds,ct:=cF g tb E ds,bk:=E.nx } Δ' M
def DJ(wi:TId) (g:GD) (tb:TSd):TSd:=fun E Δ M=>wi Δ M fun ds M1=>cF g tb E ds Δ M1
end
def uC:D->Prop
 |.tup ds=>ds.length<=I0
 |.lst ds=>ds.length<=I0
 |.scr ds=>ds.length<=I0
 |_=>True
section
variable{X:Cx}{a b c e:O3}{es:List O3}{te ta tb:TEd}{pos:Pos}{tg iter elt:O3}
theorem aY.len{K:F0}{af:List (F9×Obj)}{σ:St}{H:Hp}{s:F2}{M:DH}{d:D}{v:V}(I:Inv X af σ H s) (h:Rep X.K M H d v):uC d:=by
 cases d with
 |tup ds =>
  simp only[Rep]at h;obtain⟨a,vs,e,t,r⟩:=h;obtain⟨_,_,_,z⟩:=I.tuple t.sq;simp only[uC];rw[r.length];exact z
 |lst ds =>
  simp only[Rep]at h;obtain⟨a,vs,e,t,r⟩:=h;obtain⟨_,_,_,z⟩:=I.list (SqL.of t.1);simp only[uC];rw[r.length];exact z
 |scr ds =>
  simp only[Rep]at h;obtain⟨a,vs,e,t,r⟩:=h;obtain⟨_,_,_,z⟩:=I.list t.sq;simp only[uC];rw[r.length];exact z
 |_=>trivial
noncomputable def cD:List Bool->DE->DE
 |true::ms,v::σ=>v::cD ms σ
 |false::ms,_::σ=>none::cD ms σ
 |[],_::σ=>none::cD [] σ
 |_,[]=>[]
def nY(ms:List Bool) (k:Nat) (Δ:DE):DE:=cD ms Δ++J7 k none
theorem di:∀(ms:List Bool) (σ:DE),(cD ms σ).length=σ.length
 |true::ms,v::σ=>by simp[cD,di ms σ]
 |false::ms,_::σ=>by simp[cD,di ms σ]
 |[],_::σ=>by simp[cD,di [] σ]
 |[],[]=>by simp[cD]
 |true::_,[]=>by simp[cD]
 |false::_,[]=>by simp[cD]
theorem iQ:∀{ms:List Bool}{σ:DE}{i:Nat}{v:D},(cD ms σ)[i]?=some (some v)->ms[i]?=some true/\σ[i]?=some (some v)
 |true::ms,v::σ,0,x,h=>by simpa[cD]using h
 |true::ms,v::σ,i+1,x,h=>by
  have:=iQ (ms:=ms) (σ:=σ) (i:=i) (v:=x) (by simpa[cD]using h);simpa using this
 |false::ms,_::σ,0,x,h=>by simp[cD]at h
 |false::ms,_::σ,i+1,x,h=>by
  have:=iQ (ms:=ms) (σ:=σ) (i:=i) (v:=x) (by simpa[cD]using h);simpa using this
 |[],_::σ,0,x,h=>by simp[cD]at h
 |[],_::σ,i+1,x,h=>by
  have:=iQ (ms:=[]) (σ:=σ) (i:=i) (v:=x) (by simpa[cD]using h);simpa using this
 |[],[],_,_,h=>by simp[cD]at h
 |true::_,[],_,_,h=>by simp[cD]at h
 |false::_,[],_,_,h=>by simp[cD]at h
theorem jj:∀{ms:List Bool}{σ:St}{i:Nat}{v:V},ms[i]?=some true->σ[i]?=some (some v)->(bU ms σ)[i]?=some (some v)
 |true::ms,v::σ,0,x,h,h2=>by simpa[bU]using h2
 |true::ms,v::σ,i+1,x,h,h2=>by
  have:=jj (ms:=ms) (σ:=σ) (i:=i) (v:=x) (by simpa using h) (by simpa using h2);simpa[bU]using this
 |false::ms,_::σ,0,x,h,h2=>by simp at h
 |false::ms,_::σ,i+1,x,h,h2=>by
  have:=jj (ms:=ms) (σ:=σ) (i:=i) (v:=x) (by simpa using h) (by simpa using h2);simpa[bU]using this
 |[],_,_,_,h,_=>by simp at h
 |_::_,[],_,_,_,h=>by simp at h
theorem SR.comp{K:F0}{M:DH}{H:Hp}{σ:St}{Δ:DE}(ms:List Bool) (k:Nat) (h:SR K M H σ Δ):SR K M H (i7 ms k σ) (nY ms k Δ):=by
 refine⟨by simp[i7,nY,bW,di,h.1],fun i d q=>?_⟩;unfold nY at q
 by_cases hi:i<(cD ms Δ).length
 ·rw[T5 hi]at q;obtain⟨m,e⟩:=iQ q;obtain⟨v,ev,rv⟩:=h.2 i d e;refine⟨v,?_,rv⟩;have:=jj m ev;unfold i7;rw[T5 (by rw[bW,h.1,<-di ms];exact hi)];exact this
 ·rw[X3 (by lia),ae5]at q
  split at q<;>cases q
def cE(g:GD) (tc:TTd) (te:TEd):List D->DE->DH->List D->(List D->DH->Prop)->Prop
 |[],_,M,acc,Q=>Q acc M
 |d::ds,Δ,M,acc,Q=>∃ Δ',g d Δ=some Δ'/\tc Δ' M fun b M1=>if b=true then te Δ' M1 fun y M2=>cE g tc te ds Δ' M2 (acc++[y]) Q else cE g tc te ds Δ' M1 acc Q
def dLc(ms:List Bool) (k:Nat) (wi:TId) (g:GD) (tc:TTd) (te:TEd):TEd:=fun Δ M Q=>wi Δ M fun ds M1=>ds.length<=I0/\cE g tc te ds (nY ms k Δ) M1 [] fun ys M2=>Q (.lst ys) M2
def DS(X:Cx) (ifs:List O3) (t:TTd):Prop:=PIf X ifs (upT X.K t)
def nR:TTd:=fun _ M Q=>Q true M
abbrev mR(K:F0) (g:GD) (gv:TG):Prop:=∀(d:D) (v:V) (σ:St) (Δ Δ':DE) (M:DH) (H:Hp) (Q:St->Hp->Prop),SR K M H σ Δ->HR K M H->Rep K M H d v->g d Δ=some Δ'->(∀ σ',SR K M H σ' Δ'->Q σ' H)->gv v σ H Q
theorem uR{K:F0}{g:GD}{tc:TTd}{te:TEd}{gv:TG}(kg:mR K g gv) {J:It}{ds:List D}{M1:DH}{H1:Hp}(it:ItD K J ds M1 H1) (hr1:HR K M1 H1) (hz:ds.length<=I0) {R:List D->DH->Prop}{σ:St}{Δ:DE}(sr:SR K M1 H1 σ Δ) (q:cE g tc te ds Δ M1 [] R) :
  ∃(W:Nat->Nat->List V->St->Hp->Prop) (Z:List V->St->Hp->Prop),(∃m,W 0 m [] σ H1)/\kA J gv (upT K tc) (k8 (up K te)) W Z/\∀ys σ' H',Z ys σ' H'->∃M' acc,Ext M1 H1 M' H'/\HR K M' H'/\ar K M' H' acc ys/\R acc M':=by
 refine⟨fun i m ys σ' H'=>∃ Δ' M' acc,m=ds.length-i/\i<=ds.length/\Ext M1 H1 M' H'/\HR K M' H'/\SR K M' H' σ' Δ'/\ar K M' H' acc ys/\acc.length<=i/\cE g tc te (ds.drop i) Δ' M' acc R,_,
  ⟨ds.length,_,M1,[],by simp,Q5 _,Ext.refl _ _,hr1,sr,ar.nil,by simp,q⟩,?_,fun _ _ _ z=>z⟩
 rintro i m ys σ2 H2 ⟨Δ2,M2,acc,rfl,hi2,e2,hr2,sr2,ra,la,f2⟩;have hl:ys.length<=I0:=by rw[<-ra.length];lia
 refine⟨hl,?_⟩;obtain⟨go,stop⟩:=it M2 H2 e2 hr2 i
 by_cases hlt:i<ds.length
 ·have hd:ds[i]?=some ds[i]:=by simp[hlt]
  obtain⟨g1,y1⟩:=go _ hd;rw[Z5 hlt]at f2;simp only[cE]at f2;obtain⟨Δ3,eg,f3⟩:=f2;refine .inr ⟨g1,fun x H' hy=>?_⟩;obtain⟨e3,hr3,rx⟩:=y1 x H' hy;refine kg _ x σ2 Δ2 Δ3 M2 H' _ (sr2.ext e3) hr3 rx eg fun σ3 sr3=>?_;refine⟨Δ3,M2,_,sr3,hr3,f3,fun b M4 H4 q4 e4 hr4=>?_⟩;cases b with
  |true =>
   simp only[if_true]at q4 ⊢;refine⟨Δ3,M4,_,sr3.ext e4,hr4,q4,fun y M5 v5 H5 q5 e5 hr5 rv5=>?_⟩;refine⟨ds.length-(i+1),by lia,Δ3,M5,acc++[y],rfl,hlt,((e2.trans e3).trans e4).trans e5,hr5,(sr3.ext e4).ext e5,(((ra.ext e3).ext e4).ext e5).append (ar.cons rv5 ar.nil),by simp;lia,q5⟩
  |false =>
   simp only[F6,if_false]at q4 ⊢;exact⟨ds.length-(i+1),by lia,Δ3,M4,acc,rfl,hlt,(e2.trans e3).trans e4,hr4,sr3.ext e4,(ra.ext e3).ext e4,by lia,q4⟩
 ·rw[af6 (by lia)]at f2;exact .inl ⟨stop (by lia),M2,acc,e2,hr2,ra,f2⟩
theorem uf{K:F0}{wi:TId}{g:GD}{tc:TTd}{te:TEd}{gv:TG}{ms:List Bool}{kk:Nat}(kg:mR K g gv) :
  ∀ σ H Q,up K (dLc ms kk wi g tc te) σ H Q->tLc ms kk (upI K wi) gv (upT K tc) (up K te) σ H Q:=by
 rintro σ H Q ⟨Δ,M,R,sr,hr,q,k⟩;refine⟨Δ,M,_,sr,hr,q,fun ds M1 J H1 ⟨hz,q1⟩ e1 hr1 it=>?_⟩;obtain⟨W,Z,hW,hC,hZ⟩:=uR kg it hr1 hz ((sr.ext e1).comp ms kk) q1;refine⟨W,Z,hW,hC,fun ys σ' H' p z hp=>?_⟩;obtain⟨M',acc,e',hr',ra,q'⟩:=hZ _ _ _ z;refine k _ M' _ _ q' ((e1.trans e').trans (Ext.new hr' hp)) (hr'.new hp) ?_;simp only[Rep];exact⟨p,ys,rfl,⟨bh,hr'.fresh hp⟩,ra.ext (Ext.new hr' hp)⟩
variable{scope:af8}{cl:List (Str×F9)}{ms:List Bool}{ao:List Str}{ifs:List O3}
def PGa(X:Cx) (scope:af8) (cl:List (Str×F9)) (ao:List Str) (tg:O3) (g:GD):Prop:=∃gv:TG,(∀C s H ex,PG (aH X scope cl (X.N++ao) C s H ex) tg gv)/\mR X.K g gv
theorem aC{i:Nat}{x:Str}{pos:Pos}(hN:(X.N++ao).Nodup) (hi:(X.N++ao)[i]?=some x) (hx:(relabel scope X.env).names.lookup x=some .local):PGa X scope cl ao (.Name x pos) (cR i) :=
 ⟨qW i,fun C s H ex=>uI hN hi (.inl hx) (.inr hx),fun d v σ Δ Δ' M H Q sr hr rv e k=>by cases e;exact k _ (sr.set i rv)⟩
end
abbrev SpD:=List D->DH->(D->DH->Prop)->Prop
def spD(K:F0) (n:Nat) (S:SpD):Sp:=fun vs H Q _=>∃(ds:List D) (M:DH) (R:D->DH->Prop),ds.length=n/\ar K M H ds vs/\HR K M H/\S ds M R/\∀d M' v H',R d M'->Ext M H M' H'->HR K M' H'->Rep K M' H' d v->Q v H'
theorem AG{K:F0}{n:Nat}{S:SpD}{vs:List V}{H:Hp}{Q:VK}{E:XK}(h:spD K n S vs H Q E):vs.length=n:=by
 obtain⟨ds,M,R,hl,r,_⟩:=h;rw[<-r.length];exact hl
def gJ(N:List Str) (ds:List D):DE:=ds.map some++J7 (N.length-ds.length) none
theorem sf{K:F0}{M:DH}{H:Hp}{N:List Str}:∀{ds:List D}{vs:List V},ar K M H ds vs->SR K M H (gR N vs) (gJ N ds):=by
 intro ds vs h;have hl:=h.length;refine⟨by simp[gR,gJ,hl],fun i d q=>?_⟩;unfold gJ at q
 by_cases hi:i<ds.length
 ·rw[T5 (by simpa using hi),N0]at q;cases e:ds[i]? with
  |none=>rw[e]at q;cases q
  |some d' =>
   rw[e]at q;cases q;obtain⟨v,gv,rv⟩:=h.get e;refine⟨v,?_,rv⟩;unfold gR;rw[T5 (by simp;lia),N0,gv];rfl
 ·rw[X3 (by simpa using hi),ae5]at q
  split at q<;>cases q
section
variable{P:K6}{w:Q7}{K:F0}{mg:Str->Option s0}{base:K5}{f:F9}{fd:K4}
theorem Fun.okD{x qual:Str}{st:aa1}{f:F9}{fd:K4}{N ps:List Str}{k n:Nat}{S:SpD}(F:Fun K x qual st f fd) (hn:ps.length=n) (Sc:ay N ps (ah st))
  (hbody:∀ (cdv:s0) (A:N6) (outer:List Env) (s:F2) (H:Hp) (E:XK),cC k (A.deeper (aj4 qual (ah st) s.heap.objs.size f cdv)) →
   ∃t:TSd,Ap (mn CX0 P w K mg base N qual (ah st) f cdv A outer s H E).nox (cO st) t/\∀ds M R,ds.length=n->S ds M R->t { nx:=fun _ M'=>R .non M',rt:=R } (gJ N ds) M):a7 P w K mg base CX0 (k+1) f fd ps (spD K n S):=by
 refine F.ok Sc (fun vs H Q E h=>by rw[hn];exact AG h) (fun cdv A outer s H vs Q E hr h=>?_);obtain⟨t,ht,hq⟩:=hbody cdv A outer s H E hr;obtain⟨ds,M,R,hl,r,hrr,q,k'⟩:=h;refine⟨_,ht,gJ N ds,M,_,sf r,hrr,hq ds M R hl q,⟨fun Δ' M' σ' H' q' e' hr' _=>k' .non M' .non H' q' e' hr' (by simp[Rep]),fun _ _ _ _ q'=>U1 q',fun _ _ _ _ q'=>U1 q',fun d M' v H' q' e' hr' rv=>k' d M' v H' q' e' hr' rv⟩⟩
end
section
variable{X:Cx}{a b c e:O3}{es:List O3}{te ta tb:TEd}{t:TAd}{pos:Pos}
def lM(n:Nat) (S:SpD) (t:TAd):TEd:=fun Δ M Q=>t Δ M fun ds M1=>ds.length=n/\S ds M1 Q
theorem B7{k:Nat}{f:F9}{fd:K4}{ps:List Str}{n:Nat}{S:SpD}{x:Str}{p:Pos}(F:a7 X.prog X.w X.K X.mg X.base CX0 k f fd ps (spD X.K n S)) (hr:cC k X.A) (hg:Gl X x) (hm:X.mg x=some (.ref f)) (hk:W3 X.K (.ref f)=true) (hb:cZ X.K fd ps [])
  (ha:PAd X (e::es) t) (hdb:(x==("__debug__":Str))=false:=by decide) (he:F8 (e::es) X.env=(false,ab7 e X.env)::F8 es X.env:=by rfl) (hpl:(V4 pos (F8 es X.env)).any (·.1)=false:=by rfl) :
  PEd X (.Call (.Name x p) (e::es) [] pos) (lM n S t) :=
 (ut F hr hg hm hk hb .nil Bc ha hdb he hpl).conv fun σ H Q hup => hup.el fun Δ M R sr hr q k => ⟨Δ,M,_,sr,hr,q,fun ds M1 vs H1 ⟨hl,q1⟩ e1 hr1 rv => by
  dsimp only;rw[ab1];exact⟨ds,M1,R,hl,rv,hr1,q1,fun d M' v H' q' e' hr' rv'=>k d M' v H' q' (e1.trans e') hr' rv'⟩⟩
def Bt(M1 M2:DH) (d d2:D):Prop:=d2=d∨∃a l,d=.ref a/\M1 a=some (.lst l)/\M2 a=none/\d2=.lst l
theorem rb{K:F0}{M1 M2:DH}{H:Hp}(hr:HR K M1 H) (hle:LeM M2 M1):∀{ds ds2:List D}{vs:List V},ae0 (Bt M1 M2) ds ds2->ar K M1 H ds vs->ar K M2 H ds2 vs
 |_,_,_,.nil,h=>by simp only[ar]at h ⊢;exact h
 |_,_,_,.cons h1 t,h=>by
  simp only[ar]at h;obtain⟨v,ws,rfl,h3,h4⟩:=h;refine ar.cons ?_ (rb hr hle t h4);rcases h1 with rfl|⟨a,l,rfl,e1,e2,rfl⟩
  ·exact h3.ext (Ext.le hle)
  ·simp only[Rep]at h3;subst h3;exact Rep.froze hr hle e1 e2
def oV(n:Nat) (S:SpD) (t:TAd):TEd:=fun Δ M Q=>t Δ M fun ds M1=>∃(M2:DH) (ds2:List D) (R:D->DH->Prop),LeM M2 M1/\ae0 (Bt M1 M2) ds ds2/\ds2.length=n/\S ds2 M2 R /\
 ∀d M3,R d M3->noL d=true/\(∀a o,M3 a=some o->noC o=true)/\Q d (jh M1 M2 M3)
theorem AM{k:Nat}{f:F9}{fd:K4}{ps:List Str}{n:Nat}{S:SpD}{x:Str}{p:Pos}(F:a7 X.prog X.w X.K X.mg X.base CX0 k f fd ps (spD X.K n S)) (hr:cC k X.A) (hg:Gl X x) (hm:X.mg x=some (.ref f)) (hk:W3 X.K (.ref f)=true) (hb:cZ X.K fd ps [])
  (ha:PAd X (e::es) t) (hdb:(x==("__debug__":Str))=false:=by decide) (he:F8 (e::es) X.env=(false,ab7 e X.env)::F8 es X.env:=by rfl) (hpl:(V4 pos (F8 es X.env)).any (·.1)=false:=by rfl) :
  PEd X (.Call (.Name x p) (e::es) [] pos) (oV n S t) :=
 (ut F hr hg hm hk hb .nil Bc ha hdb he hpl).conv fun σ H Q hup => hup.el fun Δ M R sr hr q k => ⟨Δ,M,_,sr,hr,q,fun ds M1 vs H1 ⟨M2,ds2,R2,hle,hp,hl,q1,q2⟩ e1 hr1 rv => by
  dsimp only;rw[ab1];refine⟨ds2,M2,R2,hl,rb hr1 hle hp rv,hr1.le hle,q1,fun d M3 v H' q' e' hr' rv'=>?_⟩;obtain⟨n1,n2,q3⟩:=q2 d M3 q';exact k d _ v H' q3 (e1.trans (Ext.back hle e')) (hr1.back hle e' hr' n2) (Rep.hard n1 rv' (cP hr1 hle e' hr'))⟩
def Ef(to ti te:TEd):TSd:=fun E Δ M=>te Δ M fun d M1=>to Δ M1 fun o M2=>ti Δ M2 fun i M3=>∃a ds k j,o=.ref a/\i=.int k/\M3 a=some (.lst ds)/\ixN ds.length k=some j/\E.nx Δ (av M3 a (.lst (ds.set j d)))
def zP(to te:TEd):TEd:=fun Δ M Q=>to Δ M fun o M1=>∃a l,o=.ref a/\M1 a=some (.lst l)/\te Δ M1 fun d M2=>∃ds,M2 a=some (.lst ds)/\ds.length<I0/\Q .non (av M2 a (.lst (ds++[d])))
end
def ItW(n:Nat) (Vp:Nat->V->Prop):It:=⟨fun i _=>i<n,fun i H x H'=>H'=H/\Vp i x,fun i _=>n<=i⟩
theorem vd{P:K6}{w:Q7}{K:F0}{tg:O3}{it:F9}{n:Nat}{Pv:Nat->s0->Prop}{St:Nat->K5->Prop}{ty:String}{Vp:Nat->V->Prop}
  (W:∀A:N6,A.handled=none->at6 P w A it [it] [it] n Pv St) (ho:∀i h,St i h->∃o,h.get? it=some o/\o.cls=.type ty/\∃vs,o.data=.fields vs)
  (hn:["enumerate","zip","dict_itemiterator","dict_reverseitemiterator","odict_iterator","itertools.zip_longest","itertools.pairwise"].contains ty=false)
  (hv:∀i u,Pv i u->∃x,aX x u/\Vp i x) (hself:∀(A:N6) (i:Nat) (s:F2) (Q:s0->F2->Prop) (E:s0->F2->Prop),St i s.heap->Q (.ref it) s->J4 (M0 P w) A (aq6 (.ref it)) Q E s):rC P w K tg (ItW n Vp) [it] it (fun i h=>i<=n/\St i h) where
 mem:=by simp
 obj:=fun i h st b hb=>by
  have e:b=it:=by simpa using hb
  subst e;obtain⟨o,e,c,vs,d⟩:=ho i h st.2;exact⟨o,e,fun v z=>by rw[d]at z;cases z⟩
 keep:=fun i h h' st k=>⟨st.1,(W { handled:=none } rfl).frame i h h' st.2 k⟩
 item:=by
  intro X hP hw hK hc i af s σ H E I hf st hg;subst hP hw hK;obtain⟨f0,f1,f2,f3,f4,f5⟩:=hf it (by simp);refine(W X.A (I.ok.hd hc)).item i s _ _ hg st.2 fun v h' tk pv st' kk=>?_;have I1:Inv X af σ H { s with heap:=h',toks:=tk }:=I.turned (fun b o hb e=>kk b o (by simpa using hb) e) f0 f1 f3 f4 f5;obtain⟨x,rx,vx⟩:=hv i v pv;obtain⟨o,e,c,vs,d⟩:=ho _ _ st';exact⟨v,rfl,uW (s:={ s with heap:=h',toks:=tk }) e c d hn ⟨x,H,I1,rx,⟨rfl,vx⟩,⟨hg,st'⟩,fun b hb=>(hf b hb).1⟩⟩
 done:=by
  intro X hP hw hK hc i af s σ H E I hf st hg;subst hP hw hK;obtain⟨f0,f1,f2,f3,f4,f5⟩:=hf it (by simp);have e:i=n:=Nat.le_antisymm st.1 hg;subst e;exact(W X.A (I.ok.hd hc)).done s _ _ st.2 fun h' tk kk=>⟨rfl,I.turned (fun b o hb e=>kk b o (by simpa using hb) e) f0 f1 f3 f4 f5⟩
 self:=fun A i s Q E st h=>hself A i s Q E st.2 h
section
variable{X:Cx}{a b c e:O3}{es:List O3}{te ta tb:TEd}{t:TAd}{pos:Pos}{tg iter:O3}
noncomputable def bJ(x:Str):List D:=x.cps.toList.map fun c=>.str ⟨#[c]⟩
theorem uB{af:List (F9×Obj)}{σ:St}{H:Hp}{s:F2}{x:Str}{t:Tok}{R:It->Hp->Prop}(I:Inv X af σ H s) (ty:String) (hn:["enumerate","zip","dict_itemiterator","dict_reverseitemiterator","odict_iterator","itertools.zip_longest","itertools.pairwise"].contains ty=false)
  (W:∀A:N6,A.handled=none->at6 X.prog X.w A s.heap.objs.size [s.heap.objs.size] [s.heap.objs.size] x.cps.size (SignAt x) (fun i h=>h.IsStrIter s.heap.objs.size ty x t i))
  (hself:∀(A:N6) (i:Nat) (s':F2) (Q:s0->F2->Prop) (E:s0->F2->Prop),s'.heap.IsStrIter s.heap.objs.size ty x t i->Q (.ref s.heap.objs.size) s'->J4 (M0 X.prog X.w) A (aq6 (.ref s.heap.objs.size)) Q E s')
  (q:R (ItW x.cps.size fun i v=>∃c,x.cps[i]?=some c/\v=.str ⟨#[c]⟩) H):PIE X af σ tg R (.ref s.heap.objs.size) { s with heap:=s.heap.push { cls:=.type ty,data:=.fields #[.str x t,.int 0 0] } }:=by
 have I1:Inv X af σ H { s with heap:=s.heap.push { cls:=.type ty,data:=.fields #[.str x t,.int 0 0] } }:=I.kept (t':=s.toks) fun b o e=>F1 _ e;refine⟨s.heap.objs.size,[s.heap.objs.size],_,_,H,rfl,I1,vd W (fun i h st=>?_) hn (fun i u ⟨c,t',e,ev⟩=>⟨.str ⟨#[c]⟩,⟨t',ev⟩,c,e,rfl⟩) hself,⟨Q5 _,_,J6 _ rfl,rfl,rfl⟩,fun b hb=>?_,q⟩
 ·obtain⟨o,e,c,d⟩:=st;exact⟨o,e,c,_,d⟩
 ·have e:b=s.heap.objs.size:=by simpa using hb
  subst e;exact I.fpOk (F7 _) (I.hok.fresh (F7 _))
end
section
variable{X:Cx}{a b c e:O3}{es:List O3}{te ta tb:TEd}{t:TAd}{pos:Pos}
def eqF(x y:D):Option D:=if dLe x 60=true/\dLe y 60=true then some (.bl (eqD x y))else none
theorem yz{x y z:D}(h:eqF x y=some z):dLe x 60=true/\dLe y 60=true/\z=.bl (eqD x y):=by
 unfold eqF at h
 by_cases hc:dLe x 60=true/\dLe y 60=true
 ·rw[if_pos hc]at h;cases h;exact⟨hc.1,hc.2,rfl⟩
 ·rw[if_neg hc]at h;cases h
theorem pE(hu:X.A.units+64<am0):cq X (S4 .Eq) eqF:=by
 intro af s σ H M x y v u dx dy dz Q I hr rx ry r1 r2 e k;obtain⟨h1,h2,rfl⟩:=yz e;exact(lN I 60 (A:=X.A) (by lia) h1 h2 r1 r2 rx ry).2.1 X.prog X.w X.xe _ ⟨.bl (eqD dx dy),H,I,rfl,k _ H (Ext.refl _ _) hr (by simp[Rep])⟩
def inD(neg:Bool) (x y:D):Option D:=match y with
 |.lst ds=>if bz x=true/\ds.all bz=true then some (.bl (xor neg (ds.any fun d=>eqD d x)))else none
 |.tup ds=>if bz x=true/\ds.all bz=true then some (.bl (xor neg (ds.any fun d=>eqD d x)))else none
 |_=>none
theorem Dw{K:F0}{M:DH}{H:Hp}{d:D}{v:V}(h:bz d=true) (r:Rep K M H d v):v=toV d/\iH v=true:=by
 cases d<;>first|(simp only[Rep]at r;subst r;exact⟨rfl,rfl⟩)|cases h
theorem Ah{x y:D}(hx:bz x=true) (hy:bz y=true):eqV (toV x) (toV y)=eqD x y:=by
 cases x<;>cases y<;>first|(simp[bz]at hx;done)|(simp[bz]at hy;done)|(simp[toV,eqV,eqD];done)
theorem iy{K:F0}{M:DH}{H:Hp}{x:D}(hx:bz x=true):∀{ds:List D}{vs:List V},ar K M H ds vs->ds.all bz=true->vs.all iH=true/\inV (toV x) vs=ds.any fun d=>eqD d x
 |[],_,h,_=>by simp only[ar]at h;subst h;simp[inV]
 |d::ds,_,h,ha=>by
  simp only[ar]at h;obtain⟨v,ws,rfl,h3,h4⟩:=h;rw[Z3,K1]at ha;obtain⟨e1,e2⟩:=Dw ha.1 h3;obtain⟨e3,e4⟩:=iy hx h4 ha.2;subst e1;refine⟨by rw[Z3,e2,e3];rfl,?_⟩;unfold inV at e4 ⊢;rw[ac4,ac4,e4,Ah ha.1 hx]
theorem aY.scal{K:F0}{M:DH}{H:Hp}{d:D}{v:V}(h:bz d=true) (r:aY K M H d v):v=toV d/\iH v=true:=by
 cases d<;>first|(simp only[aY,Rep]at r;subst r;exact⟨rfl,rfl⟩)|cases h
theorem FP:cq X (S4 .In) (inD false):=cq.of vV fun H M x y dx dy dz Q hr r1 r2 e q=>by
 cases dy with
 |lst ds =>
  simp only[inD]at e
  by_cases hc:bz dx=true/\ds.all bz=true
  ·rw[if_pos hc]at e;cases e;obtain⟨l,vs,rfl,sq,rl⟩:=r2;obtain⟨e1,e2⟩:=aY.scal hc.1 r1;obtain⟨e3,e4⟩:=iy hc.1 rl hc.2;subst e1;refine⟨l,vs,rfl,.inl (SqL.of sq),e2,e3,q _ H (Ext.refl _ _) hr ?_⟩;rw[e4];simp[Rep]
  ·rw[if_neg hc]at e;cases e
 |tup ds =>
  simp only[inD]at e
  by_cases hc:bz dx=true/\ds.all bz=true
  ·rw[if_pos hc]at e;cases e;obtain⟨l,vs,rfl,sq,rl⟩:=r2;obtain⟨e1,e2⟩:=aY.scal hc.1 r1;obtain⟨e3,e4⟩:=iy hc.1 rl hc.2;subst e1;refine⟨l,vs,rfl,.inr sq,e2,e3,q _ H (Ext.refl _ _) hr ?_⟩;rw[e4];simp[Rep]
  ·rw[if_neg hc]at e;cases e
 |_=>cases e
theorem Ak:cq X (S4 .NotIn) (inD true):=cq.of qk fun H M x y dx dy dz Q hr r1 r2 e q=>by
 cases dy with
 |lst ds =>
  simp only[inD]at e
  by_cases hc:bz dx=true/\ds.all bz=true
  ·rw[if_pos hc]at e;cases e;obtain⟨l,vs,rfl,sq,rl⟩:=r2;obtain⟨e1,e2⟩:=aY.scal hc.1 r1;obtain⟨e3,e4⟩:=iy hc.1 rl hc.2;subst e1;refine⟨l,vs,rfl,.inl (SqL.of sq),e2,e3,q _ H (Ext.refl _ _) hr ?_⟩;rw[e4];simp[Rep]
  ·rw[if_neg hc]at e;cases e
 |tup ds =>
  simp only[inD]at e
  by_cases hc:bz dx=true/\ds.all bz=true
  ·rw[if_pos hc]at e;cases e;obtain⟨l,vs,rfl,sq,rl⟩:=r2;obtain⟨e1,e2⟩:=aY.scal hc.1 r1;obtain⟨e3,e4⟩:=iy hc.1 rl hc.2;subst e1;refine⟨l,vs,rfl,.inr sq,e2,e3,q _ H (Ext.refl _ _) hr ?_⟩;rw[e4];simp[Rep]
  ·rw[if_neg hc]at e;cases e
 |_=>cases e
def o5(f:D->Option D):List D->Option D
 |[d]=>f d
 |_=>none
theorem oz{K:F0}{M:DH}{H:Hp}{d:D}{xs:List V}(h:ae0 (aY K M H) [d] xs):∃v,xs=[v]/\aY K M H d v:=by
 cases h with
 |cons r t=>cases t;exact⟨_,rfl,r⟩
theorem eM{f:D->Option D}{ds:List D}{z:D}(h:o5 f ds=some z):∃d,ds=[d]/\f d=some z:=by
 match ds,h with
 |[d],h=>exact⟨d,rfl,h⟩
noncomputable def sY:D->Option D
 |.tup ds=>some (.int ds.length)
 |.lst ds=>some (.int ds.length)
 |.scr ds=>some (.int ds.length)
 |.str x=>if x.length<=I0 then some (.int x.length)else none
 |_=>none
theorem bM:cw X (.builtin "len") (o5 sY):=cw.of (dj.or pf ph) fun H M xs ds dz Q hr rp e q=>by
 obtain⟨d,rfl,e0⟩:=eM e;clear e;have e:=e0;clear e0;obtain⟨v,rfl,r⟩:=oz rp;cases d with
 |tup ds=>cases e;obtain⟨l,vs,rfl,sq,rl⟩:=r;exact .inl ⟨l,vs,rfl,.inr sq,q _ H (Ext.refl _ _) hr (by rw[<-rl.length];simp[Rep])⟩
 |lst ds=>cases e;obtain⟨l,vs,rfl,sq,rl⟩:=r;exact .inl ⟨l,vs,rfl,.inl (SqL.of sq),q _ H (Ext.refl _ _) hr (by rw[<-rl.length];simp[Rep])⟩
 |scr ds=>cases e;obtain⟨l,vs,rfl,sq,rl⟩:=r;exact .inl ⟨l,vs,rfl,.inl sq,q _ H (Ext.refl _ _) hr (by rw[<-rl.length];simp[Rep])⟩
 |str x =>
  simp only[sY]at e
  by_cases hz:x.length<=I0
  ·rw[if_pos hz]at e;cases e;exact .inr ⟨x,by rw[nL r],hz,q _ H (Ext.refl _ _) hr (by simp[Rep])⟩
  ·rw[if_neg hz]at e;cases e
 |_=>cases e
def EE:D->Option D
 |.int i=>some (.int (if i<0 then -i else i))
 |_=>none
theorem E1:cw X (.builtin "abs") (o5 EE):=cw.of v8 fun H M xs ds dz Q hr rp e q=>by
 obtain⟨d,rfl,e0⟩:=eM e;clear e;have e:=e0;clear e0;obtain⟨v,rfl,r⟩:=oz rp;cases d with
 |int i=>cases e;exact⟨i,by rw[iE r],q _ H (Ext.refl _ _) hr (by simp[Rep])⟩
 |_=>cases e
def yD:D->Option D
 |.lst ds=>some (.tup ds)
 |.tup ds=>some (.tup ds)
 |_=>none
theorem gO:cw X (.type "tuple") (o5 yD):=cw.of nQ fun H M xs ds dz Q hr rp e q=>by
 obtain⟨d,rfl,e0⟩:=eM e;clear e;have e:=e0;clear e0;obtain⟨v,rfl,r⟩:=oz rp;cases d with
 |lst ds=>cases e;obtain⟨l,vs,rfl,sq,rl⟩:=r;exact⟨l,vs,rfl,.inl ⟨SqL.of sq,fun p hp=>lQ hr hp rl q⟩⟩
 |tup ds=>cases e;have t1:=aY.tup hr r;obtain⟨l,vs,rfl,sq,rl⟩:=r;exact⟨l,vs,rfl,.inr ⟨sq,q _ H (Ext.refl _ _) hr t1⟩⟩
 |_=>cases e
def Ea:D->Option D
 |.lst ds=>some (.lst ds)
 |.scr ds=>some (.lst ds)
 |.tup ds=>some (.lst ds)
 |_=>none
theorem jn:cw X (.type "list") (o5 Ea):=cw.of pY fun H M xs ds dz Q hr rp e q=>by
 obtain⟨d,rfl,e0⟩:=eM e;clear e;have e:=e0;clear e0;obtain⟨v,rfl,r⟩:=oz rp;cases d with
 |lst ds=>cases e;obtain⟨l,vs,rfl,sq,rl⟩:=r;exact⟨l,vs,rfl,.inl (SqL.of sq),fun p hp=>iJ hr hp rl q⟩
 |scr ds=>cases e;obtain⟨l,vs,rfl,sq,rl⟩:=r;exact⟨l,vs,rfl,.inl sq,fun p hp=>iJ hr hp rl q⟩
 |tup ds=>cases e;obtain⟨l,vs,rfl,sq,rl⟩:=r;exact⟨l,vs,rfl,.inr sq,fun p hp=>iJ hr hp rl q⟩
 |_=>cases e
def wA:D->Bool
 |.bl _=>true
 |_=>false
def vn:D->Bool
 |.bl b=>b
 |_=>false
def vG:D->Option D
 |.lst ds=>if ds.all wA=true then some (.bl (ds.all vn))else none
 |_=>none
theorem vM{p:Nat->Bool}{q:D->Bool}:∀{ds:List D},(∀i d,ds[i]?=some d->p i=q d)->(P0 ds.length).all p=ds.all q:=by
 intro ds h;rw[S0,N5,N5];constructor
 ·intro hh d hd;obtain⟨i,hi,e⟩:=X0.mp hd;rw[<-h i d (by rw[F4 hi,e])];exact hh i (R0.mpr hi)
 ·intro hh i hi;have hi:=R0.mp hi;rw[h i ds[i] (by simp[hi])];exact hh _ (R6 hi)
theorem xN{K:F0}{M:DH}{H:Hp}{ds:List D}{vs:List V}{us:List s0}(rl:ar K M H ds vs) (rv:aE vs us) (hb:ds.all wA=true) {i:Nat}{u:s0}(h:us[i]?=some u):∃d,ds[i]?=some d/\u=.bool (vn d):=by
 have hi:i<ds.length:=by rw[rl.length,rv.length];exact(N1.mp h).1
 obtain⟨v,g,r⟩:=rl.get (i:=i) (d:=ds[i]) (by simp[hi]);obtain⟨u',g',r'⟩:=rv.get g;rw[h]at g';cases g';have hbi:=N5.mp hb ds[i] (R6 hi);refine⟨ds[i],by simp[hi],?_⟩;cases q:ds[i]with
 |bl b=>rw[q]at r;simp only[Rep]at r;subst r;exact r'
 |_=>rw[q]at hbi;cases hbi
theorem eU(hc:X.calm=true):cw X (.builtin "all") (o5 vG):=by
 intro af s σ H M xs us ds dz Q I hr rv rp e k;obtain⟨d,rfl,e0⟩:=eM e;clear e;have e:=e0;clear e0;obtain⟨v,rfl,r⟩:=oz rp;obtain⟨u,rfl,ru⟩:=aE.one rv;cases d with
 |lst ds =>
  simp only[vG]at e
  by_cases hb:ds.all wA=true
  ·rw[if_pos hb]at e;cases e;obtain⟨l,vs,rfl,sq,rl⟩:=r;cases ru;obtain⟨its,rv,pl,hz⟩:=I.list (SqL.of sq);have hne:l≠s.heap.objs.size:=L6 (I.hok.lt sq);refine call_all_walk (ak7 pl.isList ⟨s.heap.objs.size,[s.heap.objs.size,l],[s.heap.objs.size],its.toArray.size,_,_,fun i=>(ds[i]?.map vn).getD false,rfl,at6.list (A:=X.A.in1) (show X.A.in1.handled=none from I.ok.hd hc) s.heap.objs.size l hne its.toArray,⟨⟨_,J6 _ rfl,rfl,rfl⟩,?_⟩,fun i v s' Q' E' hv q=>?_,fun h' tk kk=>?_⟩)
   ·obtain⟨o,e,c⟩:=pl.isList;exact⟨o,F1 _ e,c⟩
   ·obtain⟨d,hd,rfl⟩:=xN rl rv hb (i:=i) (u:=v) (by simpa using hv);dsimp only at q;rw[hd]at q;exact ad1 q
   ·have I1:Inv X af σ H { s with heap:=h',toks:=tk }:=I.kept (t':=tk) fun b o e=>kk b o (by simpa using L6 (J8 e)) (F1 _ e);refine⟨.bl _,H,I1,rfl,k _ H (Ext.refl _ _) hr ?_⟩;rw[J0,<-rv.length,<-rl.length,vM (q:=vn) (fun i d hd=>by simp[hd])];simp[Rep]
  ·rw[if_neg hb]at e;cases e
 |_=>cases e
end
section
variable{X:Cx}{a b c e:O3}{es:List O3}{te ta tb:TEd}{t:TAd}{pos:Pos}
noncomputable def AS(T:String):D->Option Bool
 |.non=>some false
 |.bl _=>some (T=="bool" || T=="int")
 |.int _=>some (T=="int")
 |.str _=>some (T=="str")
 |.tup _=>some (T=="tuple")
 |.lst _=>some (T=="list")
 |.emp=>some (T=="dict")
 |_=>none
def okT(T:String):Bool:=T=="bool" || T=="int" || T=="str" || T=="tuple" || T=="list"
def EJ(T:String) (te:TEd):TEd:=fun Δ M Q=>te Δ M fun d M1=>∃k,AS T (rdM M1 d)=some k/\Q (.bl k) M1
theorem vC{T:String}(hT:okT T=true) {af:List (F9×Obj)}{s:F2}{σ:St}{H:Hp}{M:DH}{v:V}{u:s0}{d:D}{k:Bool}{Q:VK}(I:Inv X af σ H s) (r:aX v u) (rd:aY X.K M H d v) (e:AS T d=some k) (q:Q (.bl k) H) :
  J4 (M0 X.prog X.w) X.A (call (.builtin "isinstance") [u,.type T]) (EP X af σ Q) X.xe s:=by
 have fin:∀{k'} ,k=k'->EP X af σ Q (.bool k') s:=fun e=>by subst e;exact⟨.bl k,H,I,rfl,q⟩
 have fint:∀{k'} ,k=k'->EP X af σ Q (.bool k') { s with toks:=s.toks+1 }:=fun e=>by subst e;exact⟨.bl k,H,I.tok _,rfl,q⟩
 have h5:T="bool"∨T="int"∨T="str"∨T="tuple"∨T="list":=by
  simp[okT]at hT;rcases hT with(((h|h)|h)|h)|h<;>simp[h]
 cases d with
 |non =>
  simp only[aY,Rep]at rd;subst rd;simp only[aX]at r;subst r;cases e;rcases h5 with rfl|rfl|rfl|rfl|rfl
  ·exact IsiPair.NoneType_bool (fint rfl)
  ·exact IsiPair.NoneType_int (fint rfl)
  ·exact IsiPair.NoneType_str (fint rfl)
  ·exact IsiPair.NoneType_tuple (fint rfl)
  ·exact IsiPair.NoneType_list (fint rfl)
 |bl b =>
  simp only[aY,Rep]at rd;subst rd;simp only[aX]at r;subst r;cases e;rcases h5 with rfl|rfl|rfl|rfl|rfl
  ·exact IsiPair.bool_bool (fin rfl)
  ·exact IsiPair.bool_int (fin rfl)
  ·exact IsiPair.bool_str (fint rfl)
  ·exact IsiPair.bool_tuple (fint rfl)
  ·exact IsiPair.bool_list (fint rfl)
 |int i =>
  simp only[aY,Rep]at rd;subst rd;obtain⟨t,rfl⟩:=r;cases e;rcases h5 with rfl|rfl|rfl|rfl|rfl
  ·exact IsiPair.int_bool (fint rfl)
  ·exact IsiPair.int_int (fin rfl)
  ·exact IsiPair.int_str (fint rfl)
  ·exact IsiPair.int_tuple (fint rfl)
  ·exact IsiPair.int_list (fint rfl)
 |str x =>
  simp only[aY,Rep]at rd;subst rd;obtain⟨t,rfl⟩:=r;cases e;rcases h5 with rfl|rfl|rfl|rfl|rfl
  ·exact IsiPair.str_bool (fint rfl)
  ·exact IsiPair.str_int (fint rfl)
  ·exact IsiPair.str_str (fin rfl)
  ·exact IsiPair.str_tuple (fint rfl)
  ·exact IsiPair.str_list (fint rfl)
 |tup ds =>
  obtain⟨a,vs,rfl,sq,rl⟩:=rd;cases r;cases e;obtain⟨its,rv,⟨o,ho,hc,_⟩,_⟩:=I.tuple sq;rcases h5 with rfl|rfl|rfl|rfl|rfl
  ·exact IsiPair.tuple_bool ho hc (fint rfl)
  ·exact IsiPair.tuple_int ho hc (fint rfl)
  ·exact IsiPair.tuple_str ho hc (fint rfl)
  ·exact IsiPair.tuple_tuple ho hc (fin rfl)
  ·exact IsiPair.tuple_list ho hc (fint rfl)
 |lst ds =>
  obtain⟨a,vs,rfl,sq,rl⟩:=rd;cases r;cases e;obtain⟨its,rv,⟨o,n,ho,hc,_⟩,_⟩:=I.list (SqL.of sq);rcases h5 with rfl|rfl|rfl|rfl|rfl
  ·exact IsiPair.list_bool ho hc (fint rfl)
  ·exact IsiPair.list_int ho hc (fint rfl)
  ·exact IsiPair.list_str ho hc (fint rfl)
  ·exact IsiPair.list_tuple ho hc (fint rfl)
  ·exact IsiPair.list_list ho hc (fin rfl)
 |emp =>
  simp only[aY,Rep]at rd;obtain⟨a,rfl,h1,_⟩:=rd;cases r;cases e;obtain⟨_,_,_,_,o,es,ep,ho,ex,_⟩:=I.hok a _ h1;rcases h5 with rfl|rfl|rfl|rfl|rfl
  ·exact IsiPair.dict_bool ho ex.1 (fint rfl)
  ·exact IsiPair.dict_int ho ex.1 (fint rfl)
  ·exact IsiPair.dict_str ho ex.1 (fint rfl)
  ·exact IsiPair.dict_tuple ho ex.1 (fint rfl)
  ·exact IsiPair.dict_list ho ex.1 (fint rfl)
 |_=>cases e
abbrev TOd:=DE->DH->(Option Int->DH->Prop)->Prop
def upO(K:F0) (t:TOd):TO:=fun σ H Q=>∃(Δ:DE) (M:DH) (R:Option Int->DH->Prop),SR K M H σ Δ/\HR K M H/\t Δ M R/\∀i M' H',R i M'->Ext M H M' H'->HR K M' H'->Q i H'
theorem upO.el{K:F0}{t:TOd}{σ:St}{H:Hp}{Q:Option Int->Hp->Prop}{P:Prop}(h:upO K t σ H Q) (f:∀(Δ:DE) (M:DH) (R:Option Int->DH->Prop),SR K M H σ Δ->HR K M H->t Δ M R->(∀i M' H',R i M'->Ext M H M' H'->HR K M' H'->Q i H')->P):P:=by
 obtain⟨x1,x2,x3,a,b,c,d⟩:=h;exact f x1 x2 x3 a b c d
def POd(X:Cx) (e:Option O3) (t:TOd):Prop:=PO X e (upO X.K t)
def pB:TOd:=fun _ M Q=>Q none M
def yE(t:TEd):TOd:=fun Δ M Q=>t Δ M fun d M1=>∃i,d=.int i/\Q (some i) M1
theorem PO.conv{e:Option O3}{t t':TO}(h:PO X e t) (k:∀ σ H Q,t' σ H Q->t σ H Q):PO X e t':=fun p s σ H Q I q=>h p s σ H Q I (k σ H Q q)
theorem zS:POd X none pB:=Al.conv fun σ H Q hup=>hup.el fun Δ M R sr hr q k=>k none M H q (Ext.refl _ _) hr
theorem Aa(h:PEd X e te):POd X (some e) (yE te):=(AB h).conv fun σ H Q hup=>hup.el fun Δ M R sr hr q k=>⟨Δ,M,_,sr,hr,q,fun d M1 v H1 ⟨i,ed,q1⟩ e1 hr1 rv=>⟨i,by subst ed;simpa only[Rep]using rv,k _ M1 H1 q1 e1 hr1⟩⟩
def eJ(xs:List D) (lo hi:Option Int):List D:=(xs.drop (HT.sIx xs.length 0 lo)).take (HT.sIx xs.length xs.length hi-HT.sIx xs.length 0 lo)
def slD:D->Option Int->Option Int->Option D
 |.lst ds,lo,hi=>some (.lst (eJ ds lo hi))
 |.scr ds,lo,hi=>some (.lst (eJ ds lo hi))
 |.str x,lo,hi=>if x.length<=I0 then some (.str (ab4 x lo hi))else none
 |.tup ds,lo,hi=>if HT.sIx ds.length 0 lo=0/\HT.sIx ds.length ds.length hi=ds.length then none else some (.tup (eJ ds lo hi))
 |_,_,_=>none
def Fh:V->Option Int->Option Int->Hp->VK->Prop:=fun x lo hi H Q=>∃z,x=.str z/\z.length<=I0/\Q (.str (ab4 z lo hi)) H
theorem BM:SlR X Fh:=by
 intro af s σ H x v vl vu lo hi sl Q I rx hs pl pu h;obtain⟨z,rfl,hz,q⟩:=h;obtain⟨t,rfl⟩:=rx;refine⟨"str",_,PySem.F.slot_str_getitem.lookup,typeIs_str _ _ _,?_⟩;have fin:∀(t':Tok) (k:Nat),EP X af σ Q (.str (ab4 z lo hi) t') { s with toks:=k }:=fun t' k=>⟨.str (ab4 z lo hi),H,I.tok _,⟨t',rfl⟩,q⟩;cases pl with
 |none =>
  cases pu with
  |none=>exact ae6 (l:=none) (u:=none) (st:=none) hs rfl (ao1 ⟨O4 (ai8 z _ _) hz,fin⟩)
  |int j tj=>exact ae6 (l:=none) (u:=some (j,tj)) (st:=none) hs rfl (ao1 ⟨O4 (ai8 z _ _) hz,fin⟩)
 |int i ti =>
  cases pu with
  |none=>exact ae6 (l:=some (i,ti)) (u:=none) (st:=none) hs rfl (ao1 ⟨O4 (ai8 z _ _) hz,fin⟩)
  |int j tj=>exact ae6 (l:=some (i,ti)) (u:=some (j,tj)) (st:=none) hs rfl (ao1 ⟨O4 (ai8 z _ _) hz,fin⟩)
noncomputable def gM:List D->Option (List Str)
 |[]=>some []
 |.str x::ds=>(gM ds).map (x::·)
 |_=>none
theorem mU{K:F0}{M:DH}{H:Hp}:∀{ds:List D}{vs:List V}{us:List s0}{ys:List Str},ar K M H ds vs->aE vs us->gM ds=some ys->StrsAre us ys
 |[],_,_,_,h,rv,e=>by
  simp only[ar]at h;subst h;cases rv;cases e;exact .nil
 |d::ds,_,_,ys,h,rv,e=>by
  simp only[ar]at h;obtain⟨v,ws,rfl,h3,h4⟩:=h;cases d with
  |str x =>
   simp only[gM]at e;cases q:gM ds with
   |none=>rw[q]at e;cases e
   |some zs =>
    rw[q]at e;cases e;simp only[Rep]at h3;subst h3;cases rv with
    |cons r1 r2 =>
     obtain⟨t,rfl⟩:=r1;exact .cons x t (mU h4 r2 q)
  |_=>cases e
def uF(sep:Str):D->Option D
 |.lst ds=>match gM ds with|some ys=>if(ys.map (·.length)).sum+ys.length*sep.length<=16777216 then some (.str (Txt.join sep ys))else none|none=>none
 |_=>none
def Bm(to te:TEd):TEd:=fun Δ M Q=>to Δ M fun o M1=>∃sep,o=.str sep/\te Δ M1 fun d M2=>∃z,uF sep (rdM M2 d)=some z/\Q z M2
end
def cY(names:List (Str×U2)) (cells:List (Str×F9)):List (Str×F9):=(names.filterMap fun y=>if y.2==.free then(cells.lookup y.1).map fun c=>(y.1,c)else none).reverse
noncomputable def fP(env:Env) (y:Str×U2) (cs:List (Str×F9)):Sem (ForInStep (List (Str×F9))):=if(y.2==.free)=true then(do let c <-cellOf env y.1;af5 (W6 ((y.1,c)::cs)))else af5 (W6 cs)
theorem kB{env:Env}:∀(names:List (Str×U2)) (acc:List (Str×F9)),(∀y∈names,y.2=.free->(env.cells.lookup y.1).isSome=true) ->
  (forIn names acc (fP env):Sem (List (Str×F9)))=af5 (cY names env.cells++acc)
 |[],acc,_=>by simp[cY]
 |y::r,acc,h=>by
  rw[List.forIn_cons]
  by_cases hk:(y.2==Z4)=true
  ·have hs:=h y R5 (by simpa using hk);obtain⟨c,hc⟩:=Z8.mp hs;have e1:fP env y acc=af5 (W6 ((y.1,c)::acc)):=by
    unfold fP cellOf;rw[if_pos hk,hc];simp only[au0]
   rw[e1];simp only[au0];rw[kB r ((y.1,c)::acc) fun y hy=>h y (O0 _ hy)];have e2:cY (y::r) env.cells=cY r env.cells++[(y.1,c)]:=by
    unfold cY;rw[R8,if_pos hk,hc];simp
   rw[e2];simp
  ·have e1:fP env y acc=af5 (W6 acc):=by
    unfold fP;rw[if_neg hk]
   rw[e1];simp only[au0];rw[kB r acc fun y hy=>h y (O0 _ hy)];have e2:cY (y::r) env.cells=cY r env.cells:=by
    unfold cY;rw[R8,if_neg hk]
   rw[e2]
theorem AJ{scope:af8}{env:Env}(h:∀y∈scope.names,y.2=.free->(env.cells.lookup y.1).isSome=true):closureFor scope env=af5 (cY scope.names env.cells):=by
 have:=kB (env:=env) scope.names [] h;simp only[ab1]at this;show(forIn scope.names [] (fP env) >>= fun cs=>af5 cs)=_;rw[this];simp only[au0]
theorem we{cells:List (Str×F9)}{names:List (Str×U2)}{x:Str}{c:F9}(h:(cY names cells).lookup x=some c):cells.lookup x=some c:=by
 have hm:=U3 h;unfold cY at hm;rw[List.mem_reverse,W4]at hm;obtain⟨y,_,e⟩:=hm
 split at e
 ·cases q:cells.lookup y.1 with
  |none=>rw[q]at e;cases e
  |some c'=>rw[q]at e;cases e;exact q
 ·cases e
theorem fq:∀{l:List (Str×F9)}{x:Str}{c:F9},(x,c)∈l->∃c',l.lookup x=some c'
 |(y,d)::l,x,c,h=>by
  rw[S2];cases q:x==y with
  |true=>exact⟨d,by simp⟩
  |false =>
   rcases J3.mp h with e|h
   ·cases e;simp at q
   ·simpa using fq h
theorem xy{cells:List (Str×F9)}{names:List (Str×U2)}{x:Str}(h:names.lookup x=some .free) (hs:(cells.lookup x).isSome=true):∃c,(cY names cells).lookup x=some c:=by
 obtain⟨c,hc⟩:=Z8.mp hs;refine fq (c:=c) ?_;unfold cY;rw[List.mem_reverse,W4];exact⟨(x,.free),U3 h,by simp[hc]⟩
noncomputable def aF(fs:af8) (N:List Str) (scope:af8) (ms:List Bool):Bool :=
 scope.kind==.function&&scope.names.all (fun y=>y.2 != .cell)&&scope.names.all (fun y=>y.2 != .local || scope.names.lookup y.1==some .local) &&
 scope.names.all (fun y=>y.2 != .free || fs.names.lookup y.1==some .cell)&&(ms.zip N).all (fun y=>!y.1 || scope.names.lookup y.2==some .free)&&decide (ms.length<=N.length)
theorem aA{X:Cx}{scope:af8}{ms:List Bool}{ao:List Str}{n0:Nat}(hX:X.env.cells=at7 n0 X.env.scope.names []) (c:aF X.env.scope X.N scope ms=true):fo X scope (cY scope.names X.env.cells) ms ao:=by
 unfold aF at c;simp only[K1,N5,decide_eq_true_eq]at c;obtain⟨⟨⟨⟨⟨c1,c2⟩,c3⟩,c4⟩,c5⟩,c6⟩:=c;have fr:∀x,(x,Z4)∈scope.names->X.env.scope.names.lookup x=some .cell:=fun x hx=>by
  have:=c4 _ hx;simpa using this
 have cs:∀x,(x,Z4)∈scope.names->(X.env.cells.lookup x).isSome=true:=fun x hx=>by
  rw[hX];exact PySem.W.cellsFrom_some _ _ _ (.inl (fr x hx))
 refine⟨by simpa using c1,fun y hy e=>?_,fun y hy e=>?_,AJ fun y hy e=>?_,fun x c h=>we h,fun x h=>xy h (cs x (U3 h)),fun x h=>.inl (fr x (U3 h)),fun i x h1 h2=>?_,c6⟩
 ·have:=c2 y hy;rw[e]at this;simp at this
 ·have:=c3 y hy;simpa[e]using this
 ·obtain⟨a,b⟩:=y;cases e;exact cs a hy
 ·have:=c5 (true,x) (by
   rw[ac5];exact⟨i,by rw[List.getElem?_zip_eq_some];exact⟨h1,h2⟩⟩)
  simpa using this
structure FnD(P:K6) (w:Q7) (K:F0) (mg:Str->Option s0) (base:K5) (x:Str) (k n:Nat) (S:SpD):Prop where
 ex:∃(f:F9) (fd:K4) (ps:List Str),a7 P w K mg base CX0 k f fd ps (spD K n S)/\mg x=some (.ref f)/\W3 K (.ref f)=true/\cZ K fd ps []
section
variable{X:Cx}{e:O3}{es:List O3}{t:TAd}{pos p:Pos}{x:Str}{k n:Nat}{S:SpD}
theorem dc(F:FnD X.prog X.w X.K X.mg X.base x k n S) (hr:cC k X.A) (hg:Gl X x) (ha:PAd X (e::es) t) (hdb:(x==("__debug__":Str))=false:=by decide) (he:F8 (e::es) X.env=(false,ab7 e X.env)::F8 es X.env:=by rfl) (hpl:(V4 pos (F8 es X.env)).any (·.1)=false:=by rfl) :
  PEd X (.Call (.Name x p) (e::es) [] pos) (lM n S t):=by
 obtain⟨f,fd,ps,h1,h2,h3,h4⟩:=F.ex;exact B7 h1 hr hg h2 h3 h4 ha hdb he hpl
theorem dcL(F:FnD X.prog X.w X.K X.mg X.base x k n S) (hr:cC k X.A) (hg:Gl X x) (ha:PAd X (e::es) t) (hdb:(x==("__debug__":Str))=false:=by decide) (he:F8 (e::es) X.env=(false,ab7 e X.env)::F8 es X.env:=by rfl) (hpl:(V4 pos (F8 es X.env)).any (·.1)=false:=by rfl) :
  PEd X (.Call (.Name x p) (e::es) [] pos) (oV n S t):=by
 obtain⟨f,fd,ps,h1,h2,h3,h4⟩:=F.ex;exact AM h1 hr hg h2 h3 h4 ha hdb he hpl
end
section
variable{X:Cx}{a b c e:O3}{es:List O3}{te ta tb:TEd}{t:TAd}{pos:Pos}{tg iter:O3}
def Be(te:TEd):TSd:=fun E Δ M=>te Δ M fun d M1=>∃a ds,d=.ref a/\M1 a=some (.lst ds)/\E.rt (.lst ds) (ir M1 a)
theorem rJ:DU X (unaryOp .USub) (fun d=>match d with|.int i=>some (.int (-i))|_=>none):=by
 intro af s σ H M x v dx dz Q I hr rx r1 e k;cases dx with
 |int i=>cases e;exact Cq af s σ H x v Q I rx ⟨i,iE r1,k _ H (Ext.refl _ _) hr (by simp[Rep])⟩
 |_=>cases e
def jo:D->Option (List D)
 |.tup ds=>some ds
 |.lst ds=>some ds
 |.scr ds=>some ds
 |.str x=>if x.length<=I0 then some (bJ x)else none
 |_=>none
def rG(te:TEd):TId:=fun Δ M R=>te Δ M fun d M1=>∃ds,jo d=some ds/\(ds.length<=I0->R ds M1)
theorem tM{af:List (F9×Obj)}{σ:St}{H:Hp}{s:F2}{o:Obj}(I:Inv X af σ H s):∀b∈[s.heap.objs.size],j4 X af H b:=fun b hb=>by
 have e:b=s.heap.objs.size:=by simpa using hb
 subst e;exact I.fpOk (F7 _) (I.hok.fresh (F7 _))
theorem Cc{K:F0}{x:Str}{M1:DH}{H1:Hp}:ItD K (ItW x.cps.size fun i v=>∃c,x.cps[i]?=some c/\v=.str ⟨#[c]⟩) (bJ x) M1 H1:=fun M2 H2 e2 hr2 i=>⟨fun d hd=>by
  unfold bJ at hd;rw[N0]at hd;cases q:x.cps.toList[i]? with
  |none=>rw[q]at hd;cases hd
  |some c =>
   rw[q]at hd;cases hd;have hc:x.cps[i]?=some c:=by simpa using q
   refine⟨?_,fun y H' ⟨eH,c',hc',ey⟩=>?_⟩
   ·exact(R1.mp hc).1
   ·subst eH;subst ey;rw[hc]at hc';cases hc';exact⟨Ext.refl _ _,hr2,by simp[Rep]⟩,fun hl=>by
  show x.cps.size<=i;simpa[bJ]using hl⟩
end
section
variable{M:DH}
theorem zW{i:Int}:rdM M (.int i)=.int i:=rfl
theorem CN{i:Bool}:rdM M (.bl i)=.bl i:=rfl
theorem zH{i:Str}:rdM M (.str i)=.str i:=rfl
theorem zL:rdM M .non=.non:=rfl
theorem pR{i:List D}:rdM M (.tup i)=.tup i:=rfl
theorem Ac{i:List D}:rdM M (.lst i)=.lst i:=rfl
theorem zG{i:List D}:rdM M (.scr i)=.scr i:=rfl
theorem dF{a:F9}{ds:List D}(h:M a=some (.lst ds)):rdM M (.ref a)=.lst ds:=by simp[rdM,h]
theorem zk{a:F9}{ds:List D}:rdM (av M a (.lst ds)) (.ref a)=.lst ds:=dF aq
theorem Cp{f:Int->Int->Option D}{a b:Int}:iOp f (.int a) (.int b)=f a b:=rfl
theorem AE{a b:Int}:sj (.int a) (.int b)=some (.int (a+b)):=rfl
theorem Ax{a b:Str}:sj (.str a) (.str b)=if a.length+b.length<=I0 then some (.str (a++b))else none:=rfl
theorem AR{a b:List D}:sj (.lst a) (.lst b)=if a.length+b.length<=I0 then some (.lst (a++b))else none:=rfl
theorem Ad{a b:List D}:sj (.tup a) (.tup b)=if a.length+b.length<=I0 then some (.tup (a++b))else none:=rfl
theorem E8{a:List D}{b:Int}:ixD (.lst a) (.int b)=atI a b:=rfl
theorem Ei{a:List D}{b:Int}:ixD (.scr a) (.int b)=atI a b:=rfl
theorem yK{a:List D}{b:Int}:ixD (.tup a) (.int b)=atI a b:=rfl
theorem ET{z:Str}{i:Int}:ixD (.str z) (.int i)=if z.length<=I0 then(atI z.cps.toList i).map fun c=>.str ⟨#[c]⟩else none:=rfl
theorem uQ{α:Type}{x:α}{xs:List α}:atI (x::xs) 0=some x:=dA (j:=0) rfl
theorem EC{α:Type}{x y:α}{xs:List α}:atI (x::y::xs) 1=some y:=dA (j:=1) rfl
theorem EL{α:Type}{x y z:α}{xs:List α}:atI (x::y::z::xs) 2=some z:=dA (j:=2) rfl
theorem xi{f:D->Option D}{d:D}:o5 f [d]=f d:=rfl
theorem B4{a:List D}:sY (.lst a)=some (.int a.length):=rfl
theorem CK{a:List D}:sY (.tup a)=some (.int a.length):=rfl
theorem BF{a:List D}:sY (.scr a)=some (.int a.length):=rfl
theorem CQ{x:Str}:sY (.str x)=if x.length<=I0 then some (.int x.length)else none:=rfl
theorem BC{i:Int}:EE (.int i)=some (.int (if i<0 then -i else i)):=rfl
theorem CO{a:List D}:yD (.lst a)=some (.tup a):=rfl
theorem B5{a:List D}:yD (.tup a)=some (.tup a):=rfl
theorem D9{b:Bool}{x:D}{ds:List D}:inD b x (.lst ds)=if bz x=true/\ds.all bz=true then some (.bl (xor b (ds.any fun d=>eqD d x)))else none:=rfl
theorem Ec{b:Bool}{x:D}{ds:List D}:inD b x (.tup ds)=if bz x=true/\ds.all bz=true then some (.bl (xor b (ds.any fun d=>eqD d x)))else none:=rfl
theorem wf{a b:Int}:eqF (.int a) (.int b)=some (.bl (a==b)):=by simp[eqF,dLe,eqD]
theorem Dp{a b:Str}:eqF (.str a) (.str b)=some (.bl (a==b)):=by simp[eqF,dLe,eqD]
theorem C5{a b:Bool}:eqF (.bl a) (.bl b)=some (.bl (a==b)):=by simp[eqF,dLe,eqD]
theorem EM{ds:List D}{lo hi:Option Int}:slD (.scr ds) lo hi=some (.lst (eJ ds lo hi)):=rfl
theorem EH{ds:List D}{lo hi:Option Int}:slD (.lst ds) lo hi=some (.lst (eJ ds lo hi)):=rfl
theorem ER{x:Str}{lo hi:Option Int}:slD (.str x) lo hi=if x.length<=I0 then some (.str (ab4 x lo hi))else none:=rfl
theorem wm{a:List D}:jo (.lst a)=some a:=rfl
theorem ye{a:List D}:jo (.tup a)=some a:=rfl
theorem yF{a:List D}:jo (.scr a)=some a:=rfl
theorem wk{x:Str}:jo (.str x)=if x.length<=I0 then some (bJ x)else none:=rfl
theorem EG{n:Nat}:ixN (n+1) 0=some 0:=by simp[ixN]<;>omega
theorem EI{n:Nat}:ixN (n+2) 1=some 1:=by simp[ixN]<;>omega
theorem Eo{n:Nat}:ixN (n+3) 2=some 2:=by simp[ixN]<;>omega
theorem sz3(n:Nat) (h:n<=1000:=by decide):n<=I0:=O4 h (by decide)
theorem CI{b:Bool}:AS "bool" (.bl b)=some true:=rfl
end
end L2
namespace L2
theorem DO{i j:Int}(h:-18446744073709551616<j/\j<18446744073709551616):kF i j=True:=by unfold kF;simp;right;omega
theorem Ba{i j:Int}(h:-18446744073709551616<i/\i<18446744073709551616):kF i j=True:=by unfold kF;simp;left;omega
theorem wX:qF 10 18=True:=by simp[qF]
theorem EB{i j:Int}(h:0<j/\j<1073741824):pM i j=True:=by unfold pM;simp[h]
end L2
namespace L2
open PySem PySem.Spec PyProof.Rows
theorem bf{g:GD}{tc:TTd}{te:TEd}{M:DH}{Q:List D->DH->Prop}(b:D->Bool) (y:D->D) (Ok:DE->Prop):∀(ds:List D) (Δ:DE) (acc:List D),
  (∀d∈ds,∀ Δ,Ok Δ->∃ Δ',g d Δ=some Δ'/\Ok Δ'/\(∀Q1:Bool->DH->Prop,Q1 (b d) M->tc Δ' M Q1)/\(b d=true->∀Q2:D->DH->Prop,Q2 (y d) M->te Δ' M Q2))->Ok Δ ->
  Q (acc++(ds.filter b).map y) M->cE g tc te ds Δ M acc Q
 |[],Δ,acc,_,_,q=>by simpa[cE]using q
 |d::ds,Δ,acc,h,hΔ,q=>by
  simp only[cE];obtain⟨Δ',eg,ok,h1,h2⟩:=h d R5 Δ hΔ;refine⟨Δ',eg,h1 _ ?_⟩;have hr:∀d∈ds,∀ Δ,Ok Δ->∃ Δ',g d Δ=some Δ'/\Ok Δ'/\(∀Q1:Bool->DH->Prop,Q1 (b d) M->tc Δ' M Q1)/\(b d=true->∀Q2:D->DH->Prop,Q2 (y d) M->te Δ' M Q2):=fun x hx=>h x (O0 _ hx);cases hb:b d with
  |true =>
   simp only[if_true];refine h2 hb _ (bf b y Ok ds Δ' (acc++[y d]) hr ok ?_);simpa[List.filter_cons,hb]using q
  |false =>
   simp only[F6,if_false];refine bf b y Ok ds Δ' acc hr ok ?_;simpa[List.filter_cons,hb]using q
theorem Ay{a b:Str}:eqD (.str a) (.str b)=(a==b):=by simp[eqD]
theorem rf{x:Str}:∀{ws:List Str},(ws.map D.str).any (fun d=>eqD d (.str x))=decide (x∈ws)
 |[]=>by simp
 |w::ws=>by
  rw[N8,ac4,rf (ws:=ws),Ay]
  by_cases h:w=x
  ·subst h;simp
  ·have h2:(w==x)=false:=by simpa using h
   have h3:¬ x=w:=fun e=>h e.symm;simp[h2,h3]
theorem yY{ws:List Str}:(ws.map D.str).all bz=true:=by
 induction ws with
 |nil=>rfl
 |cons w ws ih=>rw[N8,Z3,ih];rfl
theorem mi:∀{ws:List Str},gM (ws.map D.str)=some ws
 |[]=>rfl
 |w::ws=>by rw[N8];simp only[gM];rw[mi];rfl
section
variable{X:Cx}{e:O3}{te:TEd}{pos:Pos}
def Bp(te:TEd):TSd:=fun E Δ M=>te Δ M fun d M1=>∃M2,LeM M2 M1/\E.rt d M2
theorem fA{M:DH}{q:F9}{o:HD}(h:M q=none):LeM M (av M q o):=fun a u e=>by
 by_cases ha:a=q
 ·subst ha;rw[h]at e;cases e
 ·rw[az ha];exact e
end
end L2
namespace L2
open PySem PySem.Spec PyProof.Rows PySem.Builtin.Str
def tx(cs:List Nat):Str:=⟨cs.toArray⟩
theorem Dg{a b:List Nat}:tx a=tx b↔a=b:=by
 unfold tx;constructor
 ·intro h;injection h with h;simpa using congrArg Array.toList h
 ·intro h;rw[h]
theorem dJ(cs:List Nat):(tx cs).cps.toList=cs:=by simp[tx]
theorem fh(cs:List Nat):(tx cs).length=cs.length:=by show(tx cs).cps.size=_;simp[tx]
theorem sQ(a b:List Nat):tx a++tx b=tx (a++b):=by
 show Str.mk (a.toArray++b.toArray)=_;simp[tx]
theorem Ex:(F5 "":Str)=tx []:=by decide +kernel
theorem qi:∀cs:List Nat,Txt.join (tx []) (cs.map fun c=>tx [c])=tx cs:=by
 intro cs;unfold Txt.join;rw[StrLaws.glued_eq_join]
 induction cs with
 |nil=>rfl
 |cons c cs ih =>
  cases cs with
  |nil=>rfl
  |cons d cs =>
   rw[N8]at ih ⊢;rw[N8];show tx [c]++tx []++Str.join (tx []) (tx [d]::cs.map fun c=>tx [c])=_;rw[ih,sQ,sQ];rfl
theorem vU{x:Array Nat}:∀k,k<=x.size->(P0 k).filterMap (x[·]?)=x.toList.take k:=by
 intro k
 induction k with
 |zero=>intro _;simp
 |succ k ih =>
  intro h;rw[ad6,ag4,ih (by lia)];have hk:x[k]?=some x[k]:=by simp[show k<x.size by lia]
  rw[V2];simp[hk,show k<x.size by lia]
theorem tV(cs:List Nat) (k:Nat):ab4 (tx cs) none (some (k:Int))=tx (cs.take k):=by
 have hi:strSliceIndices none (some (k:Int)) 1 (tx cs).length=P0 (min k cs.length):=by
  unfold strSliceIndices sliceRange;rw[fh];have h1:(max 0 (min (if(k:Int)<0 then(k:Int)+(cs.length:Int)else(k:Int)) (cs.length:Int)))=((min k cs.length:Nat):Int):=by
   rw[if_neg (by lia)];lia
  simp only[show(1:Int) > 0 by decide,if_true];rw[h1];have h2:(if(0:Int)<((min k cs.length:Nat):Int)then(((min k cs.length:Nat):Int)-0+1-1) / 1 else 0).toNat=min k cs.length:=by
   split<;>lia
  rw[h2];apply ad7;intro j;rw[N0]
  by_cases hj:j<min k cs.length
  ·rw[List.getElem?_range hj];simp
  ·rw[P5 (by simp;lia)];rfl
 unfold ab4;rw[hi]
 by_cases hl:(((1:Int)==1&&(P0 (min k cs.length)).length==(tx cs).length))=true
 ·rw[if_pos hl];have:cs.length<=k:=by
   simp[fh]at hl
   lia
  rw[X5 this]
 ·rw[if_neg hl];have e:(P0 (min k cs.length)).filterMap ((tx cs).cps[·]?)=cs.take k:=by
   rw[vU _ (by simp[tx];lia),dJ];rw[List.take_eq_take_iff]
   lia
  rw[e];rfl
theorem kN{α:Type} [DecidableEq α]:∀(V K:List α),V.Nodup->(∀x∈V,x∈K)->V.length<=K.length
 |[],_,_,_=>Q5 _
 |x::V,K,hn,h=>by
  have hx:=h x R5;obtain⟨h1,h2⟩:=ad3.mp hn;have:=kN V (K.erase x) h2 fun y hy=>(List.mem_erase_of_ne (by rintro rfl;exact h1 hy)).mpr (h y (O0 _ hy));rw[List.length_erase_of_mem hx]at this;have hp:0<K.length:=List.length_pos_of_mem hx;simp only[T0]
  lia
def lZ(c:Nat):Prop:=97<=c/\c<=122
def bB(w:Str):Prop:=1<=w.cps.toList.length/\w.cps.toList.length<=8/\∀c∈w.cps.toList,lZ c
abbrev abc:Str:=F5 "abcdefghijklmnopqrstuvwxyz"
def cJ:List Nat:=List.range' 97 26
theorem mT:abc=tx cJ:=by decide +kernel
theorem Ds{v:Int}(h0:0<=v) (h1:v<26):∃c,lZ c/\ixD (.str abc) (.int v)=some (.str (tx [c])):=by
 obtain⟨n,rfl⟩:=W7 h0;have hn:n<26:=by lia
 refine⟨97+n,⟨by lia,by lia⟩,?_⟩;have hl:abc.length<=I0:=by rw[mT,fh];exact sz3 _
 have ha:atI abc.cps.toList (n:Int)=some (97+n):=by
  rw[mT,dJ];exact dA (by unfold cJ;rw[List.getElem?_range' hn];simp)
 rw[ET,if_pos hl,ha];rfl
theorem oj:bJ abc=cJ.map fun c=>D.str (tx [c]):=by
 unfold bJ;rw[mT,dJ];rfl
theorem wV{w:Str}{known:List Str}(hk:known.length<=25):∃c∈cJ,tx (w.cps.toList.take 7++[c])∉known:=by
 refine V8 fun h=>?_;have h':∀c∈cJ,tx (w.cps.toList.take 7++[c])∈known:=fun c hc=>V8 fun hn=>h ⟨c,hc,hn⟩;have hn:(cJ.map fun c=>tx (w.cps.toList.take 7++[c])).Nodup:=by
  rw[List.nodup_iff_pairwise_ne,List.pairwise_map];have:cJ.Nodup:=by decide
  exact List.Pairwise.imp (fun {a b} hab e=>hab (by rw[Dg]at e;simpa using e)) this
 have:=kN _ known hn (fun x hx=>by
  obtain⟨c,hc,rfl⟩:=O2.mp hx;exact h' c hc)
 simp[cJ]at this
 lia
theorem sv{w:Str}{c:Nat}(hw:bB w) (hc:lZ c):bB (tx (w.cps.toList.take 7++[c])):=by
 obtain⟨h1,h2,h3⟩:=hw;unfold bB;rw[dJ];refine⟨by simp,by simp;lia,fun x hx=>?_⟩;rcases K0.mp hx with h|h
 ·exact h3 x (ad0 h)
 ·have:x=c:=by simpa using h
  subst this;exact hc
theorem xP{c:Nat}(h:c∈cJ):lZ c:=by
 unfold cJ at h;rw[List.mem_range'_1]at h;exact⟨by lia,by lia⟩
end L2
namespace L2
open PySem PySem.Spec PyProof.Rows
theorem oh{g:GD}{tb:TSd}{E:dQ}{all:List D}(I:Nat->DE->DH->Prop)
  (step:∀(i:Nat) (d:D) (Δ:DE) (M:DH) (X:DE->DH->Prop),all[i]?=some d->I i Δ M->(∀ Δ' M',I (i+1) Δ' M'->X Δ' M')->∃ Δ',g d Δ=some Δ'/\tb { E with nx:=X,ct:=X,bk:=E.nx } Δ' M)
  (fin:∀ Δ M,I all.length Δ M->E.nx Δ M):∀(ds:List D) (i:Nat) (Δ:DE) (M:DH),all.drop i=ds->i<=all.length->I i Δ M->cF g tb E ds Δ M
 |[],i,Δ,M,e,hi,h=>by
  have:i=all.length:=by
   have:=congrArg an8 e;simp at this;lia
  subst this;simpa only[cF]using fin Δ M h
 |d::ds,i,Δ,M,e,hi,h=>by
  have hlt:i<all.length:=by
   have:=congrArg an8 e;simp at this;lia
  have hd:all[i]?=some d:=by
   have:=congrArg List.head? e;simpa using this
  have hn:all.drop (i+1)=ds:=by
   rw[<-List.tail_drop,e];rfl
  simp only[cF];exact step i d Δ M _ hd h fun Δ' M' h'=>oh I step fin ds (i+1) Δ' M' hn hlt h'
theorem b7{g:GD}{tb:TSd}{E:dQ}{ds:List D}{Δ:DE}{M:DH}(I:Nat->DE->DH->Prop) (h0:I 0 Δ M)
  (step:∀(i:Nat) (d:D) (Δ:DE) (M:DH) (X:DE->DH->Prop),ds[i]?=some d->I i Δ M->(∀ Δ' M',I (i+1) Δ' M'->X Δ' M')->∃ Δ',g d Δ=some Δ'/\tb { E with nx:=X,ct:=X,bk:=E.nx } Δ' M)
  (fin:∀ Δ M,I ds.length Δ M->E.nx Δ M):cF g tb E ds Δ M:=oh I step fin ds 0 Δ M rfl (Q5 _) h0
theorem qU{g:GD}{tc:TTd}{te:TEd}{all:List D}{Q:List D->DH->Prop}(I:Nat->List D->DE->DH->Prop)
  (step:∀ (i:Nat) (d:D) (acc:List D) (Δ:DE) (M:DH) (X:List D → DE → DH → Prop),all[i]? = some d → I i acc Δ M → (∀ acc' Δ' M',I (i + 1) acc' Δ' M' → X acc' Δ' M') →
   ∃ Δ',g d Δ=some Δ'/\tc Δ' M fun b M1=>if b=true then te Δ' M1 fun y M2=>X (acc++[y]) Δ' M2 else X acc Δ' M1)
  (fin:∀acc Δ M,I all.length acc Δ M->Q acc M):∀(ds:List D) (i:Nat) (acc:List D) (Δ:DE) (M:DH),all.drop i=ds->i<=all.length->I i acc Δ M->cE g tc te ds Δ M acc Q
 |[],i,acc,Δ,M,e,hi,h=>by
  have:i=all.length:=by
   have:=congrArg an8 e;simp at this;lia
  subst this;simpa only[cE]using fin acc Δ M h
 |d::ds,i,acc,Δ,M,e,hi,h=>by
  have hlt:i<all.length:=by
   have:=congrArg an8 e;simp at this;lia
  have hd:all[i]?=some d:=by
   have:=congrArg List.head? e;simpa using this
  have hn:all.drop (i+1)=ds:=by
   rw[<-List.tail_drop,e];rfl
  simp only[cE];exact step i d acc Δ M (fun acc' Δ' M'=>cE g tc te ds Δ' M' acc' Q) hd h fun acc' Δ' M' h'=>qU I step fin ds (i+1) acc' Δ' M' hn hlt h'
theorem jF{g:GD}{tc:TTd}{te:TEd}{ds:List D}{Δ:DE}{M:DH}{Q:List D->DH->Prop}(I:Nat->List D->DE->DH->Prop) (h0:I 0 [] Δ M)
  (step:∀ (i:Nat) (d:D) (acc:List D) (Δ:DE) (M:DH) (X:List D → DE → DH → Prop),ds[i]? = some d → I i acc Δ M → (∀ acc' Δ' M',I (i + 1) acc' Δ' M' → X acc' Δ' M') →
   ∃ Δ',g d Δ=some Δ'/\tc Δ' M fun b M1=>if b=true then te Δ' M1 fun y M2=>X (acc++[y]) Δ' M2 else X acc Δ' M1)
  (fin:∀acc Δ M,I ds.length acc Δ M->Q acc M):cE g tc te ds Δ M [] Q:=qU I step fin ds 0 [] Δ M rfl (Q5 _) h0
theorem szB(n:Nat) (h:n<=16000000:=by decide):n<=I0:=O4 h (by decide)
theorem j0{α:Type}{f:α->D}{xs:List α}{i:Nat}{d:D}(h:(xs.map f)[i]?=some d):∃x,xs[i]?=some x/\d=f x:=by
 rw[N0]at h;cases e:xs[i]? with
 |none=>rw[e]at h;cases h
 |some x=>rw[e]at h;cases h;exact⟨x,rfl,rfl⟩
theorem rQ{K:F0}{M:DH}{H:Hp}:∀ns:List Int,ar K M H (ns.map D.int) (ns.map V.int)
 |[]=>ar.nil
 |n::ns=>ar.cons (by simp[Rep]) (rQ ns)
theorem vh{K:F0}{H:Hp}{a:F9}{ns:List Int}(hO:zz H) (hS:SqL K H a (ns.map V.int)):ar K noM H [.scr (ns.map D.int)] [.ref a]:=by
 refine ar.cons ?_ ar.nil;simp only[Rep];refine⟨a,ns.map V.int,rfl,?_,rQ ns⟩;rcases hS with h|h
 ·left;rcases h with h|h
  ·rcases hO a with z|⟨o,xs,z⟩<;>(rw[h]at z;cases z)
  ·exact⟨h,rfl⟩
 ·right;exact .inr h
def DP(S:SpD):Prop:=∀(ns:List Int) (R:D->DH->Prop),ns.length<=63->(∀M',R (.bl true) M')->S [.scr (ns.map .int)] noM R
theorem E9{S:SpD}(hS:DP S) {k:Nat}{x:Str}{l:PySem.W.OpenLaw}{q:K6}{loose:List Str}{XP:(Str->Option s0)->K5->Prop}{YP:Q7->K5->Prop}{d:DefRec}{K:Params->F0}(hr:cC k ar8) (hn:l.most=some 63) (hdf:d.params.defaults=[])
  (hY:∀(w:Q7) (h:K5),YP w h->(K w.params).In h)
  (F:∀ (w:Q7) (mg:Str → Option s0) (fa:F9) (h:K5),(K w.params).In h → h.Ns K2 mg → mg d.name = some (.ref fa) →
   ∃fd:K4,(∀(s:F2) (u:s0),as6 s fd ⟨[u],[]⟩ [(x,u)])/\∀base:K5,(K w.params).In base->base.Ns K2 mg->a7 l.prog w (K w.params) mg base CX0 k fa fd [x] (spD (K w.params) 1 S)) :
  PySem.W.WalkO q loose XP YP l.row.toRowW d [] (fun f vs=>PySem.call f vs) :=
 L2.ub (n:=63) (k:=k) (x:=x) (CX:=fun _=>CX0) (sp:=fun w=>spD (K w.params) 1 S) hn (by decide) hdf hr hY F
  (fun w H a ns hl hO hq=>⟨[.scr (ns.map .int)],noM,fun d _=>d=.bl true,rfl,vh hO hq,HR.nil,hS ns _ hl (fun _=>rfl),fun d M' v H' e _ _ rv=>by subst e;simpa only[Rep]using rv⟩) fun _ _ _ _ _ z=>z
section
variable{X:Cx}
def neF(x y:D):Option D:=if dLe x 60=true/\dLe y 60=true then some (.bl (!(eqD x y)))else none
theorem xQ(hu:X.A.units+64<am0):cq X (S4 .NotEq) neF:=by
 intro af s σ H M x y v u dx dy dz Q I hr rx ry r1 r2 e k;unfold neF at e
 by_cases hc:dLe dx 60=true/\dLe dy 60=true
 ·rw[if_pos hc]at e;cases e;exact(lN I 60 (A:=X.A) (by lia) hc.1 hc.2 r1 r2 rx ry).2.2 X.prog X.w X.xe _ ⟨.bl (!(eqD dx dy)),H,I,rfl,k _ H (Ext.refl _ _) hr (by simp[Rep])⟩
 ·rw[if_neg hc]at e;cases e
theorem sO{a b:Int}:neF (.int a) (.int b)=some (.bl (!(a==b))):=by simp[neF,dLe,eqD]
theorem CJ{a b:Str}:neF (.str a) (.str b)=some (.bl (!(a==b))):=by simp[neF,dLe,eqD]
theorem CM{a b:Bool}:neF (.bl a) (.bl b)=some (.bl (!(a==b))):=by simp[neF,dLe,eqD]
end
end L2
namespace HT
open PySem PyProof.Rows
section
variable{prog:K6}{w:Q7}{A:N6}{E:s0->F2->Prop}{s:F2}
theorem tupleIsExact_{t:F9}{items:Array s0}{Q:Bool->F2->Prop}(ht:ap8 s.heap t items) (h:Q true s):J4 (M0 prog w) A (K7.Tuple.tupleIsExact (.ref t)) Q E s:=by
 unfold K7.Tuple.tupleIsExact;exact o0 (ag2 ht.typeIs (u8 (by simpa using h)))
theorem getItem_tuple_whole{t sl:F9}{items:Array s0}{vl vu:s0}{lo hi:Option Int}{Q:s0->F2->Prop}(ht:ap8 s.heap t items) (hs:s.heap.IsSliceOf sl vl vu .none) (pl:as1 vl lo) (pu:as1 vu hi)
  (hw:sIx items.size 0 lo=0/\sIx items.size items.size hi=items.size) (h:Q (.ref t) s):J4 (M0 prog w) A (aq8 (.ref t) (.ref sl)) Q E s:=by
 obtain⟨os,hos,hcs,hds⟩:=id hs;have hTs:s.TypeIs (.ref sl) "slice":=⟨os,hos,hcs⟩;unfold aq8
 try with_reducible refine O9 ?_
 first|refine o0 (u8 ?_)|skip
 refine o0 (wpAny_sequenceKey ht.typeIs (by decide) ?_);refine o0 (V1 (name:=F5 "__getitem__") ht.typeIs P1
  (U7 P1 ht.typeIs entry_tuple_getitem ?_ (args_tuple_getitem _ _)))
 show J4 _ _ (X4 (.ref t) >>= _) _ _ s;refine o0 (an0 ht ?_);refine o0 (ag2 hTs ?_);rw[if_pos (by decide)];refine o0 (fZ hs pl pu ?_);show J4 _ _ (if(((sIx items.size 0 lo:Nat):Int)==0&&(1:Int)==1&&(sIx items.size items.size hi-sIx items.size 0 lo)==items.size)=true then _ else _) _ _ s;rw[if_pos (by rw[hw.1,hw.2];simp)];refine o0 (tupleIsExact_ ht ?_);rw[if_pos rfl];refine o0 (ak6 ?_)
 first
  |exact u8 ⟨_,rfl,u8 h⟩
  |exact o0 (u8 (u8 ⟨_,rfl,u8 h⟩))
theorem ko{sl:F9}{tk:Tok}{n:Nat}{Q:Int×Int×Nat->F2->Prop}(hs:s.heap.IsSliceOf sl .none .none (.int (-1) tk))
  (h:Q ((n:Int)-1,-1,n) s):J4 (M0 prog w) A (ab6 (.ref sl) (af5 (n:Int))) Q E s:=by
 obtain⟨os,hos,hcs,hds⟩:=id hs;unfold ab6 K7.Slice.sliceFields;refine o0 (o0 (ag1 hos hds (x:=.none) rfl (o0 (ag1 hos hds (x:=.none) rfl (o0 (ag1 hos hds (x:=.int (-1) tk) rfl (u8 ?_)))))));refine o0 (slicePart_int ?_);show J4 _ _ (if((-1:Int)==0)=true then _ else _) _ _ s;rw[if_neg (by decide)];refine o0 (ap1 (o0 (ap1 (o0 (u8 ?_)))));show J4 _ _ (af5 ((n:Int)-1,(-1:Int),T6 ((n:Int)-1) (-1) (-1))) _ _ s;have e:T6 ((n:Int)-1) (-1) (-1)=n:=by
  unfold T6;simp only[show ¬ ((-1:Int) > 0)by omega,if_false]
  split<;>simp<;>omega
 rw[e];exact u8 h
theorem xc(xs:Array s0):((P0 xs.size).filterMap fun(m:Nat)=>xs[((xs.size:Int)-1+(m:Int)*-1).toNat]?)=xs.toList.reverse:=by
 have:∀k,k<=xs.size->((P0 k).filterMap fun(m:Nat)=>xs[((xs.size:Int)-1+(m:Int)*-1).toNat]?)=xs.toList.reverse.take k:=by
  intro k
  induction k with
  |zero=>intro _;simp
  |succ k ih =>
   intro hk;rw[ad6,ag4,ih (by omega)];have e1:((xs.size:Int)-1+(k:Int)*-1).toNat=xs.size-1-k:=by omega
   have e2:xs[xs.size-1-k]?=some xs[xs.size-1-k]:=by simp[show xs.size-1-k<xs.size by omega]
   have e3:xs.toList.reverse[k]?=some xs[xs.size-1-k]:=by
    rw[List.getElem?_reverse (by simp;omega)];simpa using e2
   rw[V2,e3];have e4:(List.filterMap (fun(m:Nat)=>xs[((xs.size:Int)-1+(m:Int)*-1).toNat]?) [k])=[xs[xs.size-1-k]]:=by
    rw[R8,e1,e2];rfl
   rw[e4];rfl
 rw[this xs.size (F7 _)];exact X5 (by simp)
theorem getItem_tuple_rev{t sl:F9}{items:Array s0}{tk:Tok}{Q:s0->F2->Prop}(ht:ap8 s.heap t items) (hs:s.heap.IsSliceOf sl .none .none (.int (-1) tk))
  (h:Q (.ref s.heap.objs.size) { s with heap:=s.heap.push { cls:=.type "tuple",data:=.seq items.toList.reverse.toArray } }) (hsz:items.size<=I0):J4 (M0 prog w) A (aq8 (.ref t) (.ref sl)) Q E s:=by
 have htake:sizeOk (.seq items.toList.reverse.toArray):=by
  show items.toList.reverse.toArray.size<=I0;simpa using hsz
 obtain⟨os,hos,hcs,hds⟩:=id hs;have hTs:s.TypeIs (.ref sl) "slice":=⟨os,hos,hcs⟩;unfold aq8
 try with_reducible refine O9 ?_
 first|refine o0 (u8 ?_)|skip
 refine o0 (wpAny_sequenceKey ht.typeIs (by decide) ?_);refine o0 (V1 (name:=F5 "__getitem__") ht.typeIs P1
  (U7 P1 ht.typeIs entry_tuple_getitem ?_ (args_tuple_getitem _ _)))
 show J4 _ _ (X4 (.ref t) >>= _) _ _ s;refine o0 (an0 ht ?_);refine o0 (ag2 hTs ?_);rw[if_pos (by decide)];refine o0 (ko hs ?_);show J4 _ _ (if((((items.size:Int)-1)==0&&(-1:Int)==1&&items.size==items.size)=true)then _ else _) _ _ s;rw[if_neg (by simp),xc]
 first
  |exact o0 (m:=P6 _) (O7 (u8 ⟨_,rfl,u8 h⟩) htake)
  |exact o0 (m:=P6 _) (O7 (o0 (u8 (u8 ⟨_,rfl,u8 h⟩))) htake)
  |exact o0 (o0 (m:=P6 _) (O7 (u8 (u8 ⟨_,rfl,u8 h⟩)) htake))
  |exact o0 (o0 (m:=P6 _) (O7 (u8 ⟨_,rfl,u8 h⟩) htake))
end
end HT
namespace L2
open PySem PySem.Spec PyProof.Rows
section
variable{X:Cx}{a b c e:O3}{es:List O3}{te ta tb ts:TEd}{t:TAd}{pos:Pos}
def slE:D->Option Int->Option Int->Option D
 |.tup ds,lo,hi=>some (.tup (eJ ds lo hi))
 |d,lo,hi=>slD d lo hi
def FQ(K:F0):V->Option Int->Option Int->Hp->VK->Prop:=fun x lo hi H Q=>∃a xs,x=.ref a/\SqT K H a xs/\(HT.sIx xs.length 0 lo=0/\HT.sIx xs.length xs.length hi=xs.length)/\Q (.ref a) H
theorem w6:SlR X (FQ X.K):=by
 intro af s σ H x v vl vu lo hi sl Q I rx hs pl pu h;obtain⟨a,xs,rfl,hx,hw,q⟩:=h;cases rx;obtain⟨its,r,ht,hz⟩:=I.tuple hx;have bX:its.toArray.size=xs.length:=by rw[J0];exact r.length.symm
 exact⟨"tuple",_,P1.lookup,ht.typeIs,HT.getItem_tuple_whole ht hs pl pu (by rw[bX];exact hw) ⟨.ref a,H,I,rfl,q⟩⟩
theorem tu{ds:List D}{lo hi:Option Int}(h:HT.sIx ds.length 0 lo=0/\HT.sIx ds.length ds.length hi=ds.length):eJ ds lo hi=ds:=by
 unfold eJ;rw[h.1,h.2];simp
def Dz(te:TEd) (tl th:TOd):TEd:=fun Δ M Q=>te Δ M fun x M1=>tl Δ M1 fun l M2=>th Δ M2 fun u M3=>∃z,slE (rdM M3 x) l u=some z/\Q z M3
theorem kQ{ds:List D}{lo hi:Option Int}:slE (.tup ds) lo hi=some (.tup (eJ ds lo hi)):=rfl
theorem E2{ds:List D}{lo hi:Option Int}:slE (.lst ds) lo hi=some (.lst (eJ ds lo hi)):=rfl
theorem D8{ds:List D}{lo hi:Option Int}:slE (.scr ds) lo hi=some (.lst (eJ ds lo hi)):=rfl
theorem DF{x:Str}{lo hi:Option Int}:slE (.str x) lo hi=if x.length<=I0 then some (.str (ab4 x lo hi))else none:=rfl
theorem ar.reverse{K:F0}{M:DH}{H:Hp}:∀{ds:List D}{vs:List V},ar K M H ds vs->ar K M H ds.reverse vs.reverse
 |[],_,h=>by simp only[ar]at h;subst h;exact ar.nil
 |d::ds,_,h=>by
  simp only[ar]at h;obtain⟨v,ws,rfl,h1,h2⟩:=h;rw[ak4,ak4];exact(ar.reverse h2).append (ar.cons h1 ar.nil)
def yj(te ts:TEd):TEd:=fun Δ M Q=>te Δ M fun x M1=>ts Δ M1 fun st M2=>st=.int (-1)/\∃ds,x=.tup ds/\Q (.tup ds.reverse) M2
def yi:TSd:=fun _ _ _=>False
variable{scope:af8}{cl:List (Str×F9)}{ao:List Str}{tg:O3}
def zv(X:Cx) (scope:af8) (cl:List (Str×F9)) (ao:List Str) (tgs:List O3) (g:GDs):Prop:=∃gv:TGs,(∀C s H ex,PGs (aH X scope cl (X.N++ao) C s H ex) tgs gv)/\∀(ds:List D) (vs:List V) (σ:St) (Δ Δ':DE) (M:DH) (H:Hp) (Q:St->Hp->Prop),SR X.K M H σ Δ->HR X.K M H->ar X.K M H ds vs->g ds Δ=some Δ'->(∀ σ',SR X.K M H σ' Δ'->Q σ' H)->gv vs σ H Q
theorem ij:zv X scope cl ao [] rj:=⟨C1,fun _ _ _ _=>ud,fun ds vs σ Δ Δ' M H Q sr hr rv e k=>by
 cases ds with
 |nil=>simp only[ar]at rv;subst rv;cases e;exact⟨rfl,k _ sr⟩
 |cons _ _=>cases e⟩
theorem bS{tgs:List O3}{g:GD}{gs:GDs}(h1:PGa X scope cl ao tg g) (h2:zv X scope cl ao tgs gs)
  (hs:∀env,(X6 (tg::tgs) env).map (·.2)=ao8 tg env::(X6 tgs env).map (·.2):=by intro _;rfl):zv X scope cl ao (tg::tgs) (jB g gs):=by
 obtain⟨g1,p1,k1⟩:=h1;obtain⟨g2,p2,k2⟩:=h2;refine⟨xI g1 g2,fun C s H ex=>rg (p1 C s H ex) (p2 C s H ex) (hs _),fun ds vs σ Δ Δ' M H Q sr hr rv e k=>?_⟩;cases ds with
 |nil=>cases e
 |cons d r =>
  simp only[ar]at rv;obtain⟨v,ws,rfl,h3,h4⟩:=rv;simp only[jB]at e;cases q:g d Δ with
  |none=>rw[q]at e;cases e
  |some Δ1 =>
   rw[q]at e;exact⟨v,ws,rfl,k1 d v σ Δ Δ1 M H _ sr hr h3 q fun σ1 sr1=>k2 r ws σ1 Δ1 Δ' M H Q sr1 hr h4 e k⟩
theorem ik{tgs:List O3}{kx:Nat}{g:GDs}{n:Nat}(hc:X.calm=true) (h:zv X scope cl ao tgs g) (hn:∀env,(X6 tgs env).length=n:=by intro _;rfl) (hst:∀env,(X6 tgs env).findIdx? (·.1)=none:=by intro _;rfl):PGa X scope cl ao (.Tuple tgs kx pos) (lR g n):=by
 obtain⟨g1,p1,k1⟩:=h;refine⟨Dn X.K n g1,fun C s H ex=>yJ (X:=aH X scope cl (X.N++ao) C s H ex) hc (p1 C s H ex) (hn _) (hst _),fun d v σ Δ Δ' M H Q sr hr rv e k=>?_⟩;cases d with
 |tup ds =>
  simp only[lR]at e
  by_cases hl:ds.length=n
  ·rw[if_pos hl]at e;simp only[Rep]at rv;obtain⟨a,vs,rfl,ta,rl⟩:=rv;exact⟨a,vs,rfl,ta.sq,by rw[<-rl.length];exact hl,k1 ds vs σ Δ Δ' M H Q sr hr rl e k⟩
  ·rw[if_neg hl]at e;cases e
 |_=>cases e
end
section
variable{X:Cx}{a b c e:O3}{es:List O3}{te ta tb ts:TEd}{t:TAd}{pos:Pos}
def inE(neg:Bool) (x y:D):Option D:=match y with
 |.str j=>match x with
  |.str i=>some (.bl (xor neg (!(ae3 j i 0 j.length 1).isEmpty)))
  |_=>none
 |y=>inD neg x y
theorem yB:cq X (S4 .In) (inE false):=by
 intro af s σ H M x y v u dx dy dz Q I hr rx ry r1 r2 e k;cases dy with
 |str j =>
  cases dx with
  |str i =>
   cases e;exact vD af s σ H x y v u Q I rx ry ⟨i,j,nL r1,nL r2,k _ H (Ext.refl _ _) hr (by simp[Rep])⟩
  |_=>cases e
 |_=>exact FP af s σ H M x y v u dx _ dz Q I hr rx ry r1 r2 e k
theorem rq:cq X (S4 .NotIn) (inE true):=by
 intro af s σ H M x y v u dx dy dz Q I hr rx ry r1 r2 e k;cases dy with
 |str j =>
  cases dx with
  |str i =>
   cases e;exact qu af s σ H x y v u Q I rx ry ⟨i,j,nL r1,nL r2,k _ H (Ext.refl _ _) hr (by simp[Rep])⟩
  |_=>cases e
 |_=>exact Ak af s σ H M x y v u dx _ dz Q I hr rx ry r1 r2 e k
theorem Em{b:Bool}{x:D}{ds:List D}:inE b x (.lst ds)=if bz x=true/\ds.all bz=true then some (.bl (xor b (ds.any fun d=>eqD d x)))else none:=rfl
theorem D0{b:Bool}{x:D}{ds:List D}:inE b x (.tup ds)=if bz x=true/\ds.all bz=true then some (.bl (xor b (ds.any fun d=>eqD d x)))else none:=rfl
theorem wW{b:Bool}{c:Nat}{y:Str}:inE b (.str (tx [c])) (.str y)=some (.bl (xor b (decide (c∈y.cps.toList)))):=by
 show some (D.bl (xor b (!(ae3 y ⟨#[c]⟩ 0 y.length 1).isEmpty)))=_;rw[StrLaws.found_one]
theorem zu{af:List (F9×Obj)}{σ:St}{H:Hp}{s:F2}(I:Inv X af σ H s):as3<s.heap.objs.size:=by
 have h:K2<s.heap.objs.size:=(I.mod.glob.keeps I.bk).lt;exact Nat.lt_trans (by decide) h
def D7:TEd:=fun _ M Q=>Q .emp M
theorem fL:fillsNumberSlot (.type "tuple") "mul"=af5 false :=
 PySem.fillsNumberSlot_seq (id:="tuple.__mul__") (r:=some (.builtin "tuple.__rmul__")) am6.lookup (by decide +kernel) F.slot_tuple_rmul.lookup (by decide +kernel)
theorem jK:seqRepeat? (.type "tuple")=af5 (some (.builtin "tuple.__mul__")):=by
 unfold seqRepeat?;rw[PySem.seqSlot_of (T:="tuple") (name:="__mul__") (id:="tuple.__mul__") am6.lookup (by decide +kernel),PySem.seqSlot_of (T:="tuple") (name:="__rmul__") (id:="tuple.__rmul__") F.slot_tuple_rmul.lookup (by decide +kernel)];rfl
theorem hJ(a:Int) (t:Tok) (l:F9) (items:Array s0) :
  Meets (K7.«int.__rmul__» ⟨[.int a t,.ref l],[]⟩) (fun _ R s=>ap8 s.heap l items/\R (.ok (.ret s0.notImplemented)) s) :=
 .of_wp fun prog w A R s h=>by
  obtain⟨hp,g,d,tk,os⟩:=s;obtain⟨⟨⟨cls,dd,data,sl⟩,ho,hc,n,hd⟩,h⟩:=h;simp only at hc hd;subst hc hd
  wp_walk;exact⟨_,rfl,h⟩
theorem nF(l:F9) (items:Array s0) (x:Int) (u:Tok) (hne:items.isEmpty=false) (hx:2<=x) (hx2:x<2 ^ 62) (hz:items.size*x.toNat<=I0) :
  Meets (K7.«tuple.__mul__» ⟨[.ref l,.int x u],[]⟩) (fun _ R s=>ap8 s.heap l items/\R (.ok (.ret (.ref s.heap.objs.size))) { s with heap:=s.heap.push { cls:=.type "tuple",data:=.seq (J7 x.toNat items.toList).flatten.toArray } }) :=
 .of_wp fun prog w A R s h=>by
  obtain⟨ht,h⟩:=h;show J4 _ _ (do
   let n <-asIndex (.int x u)
   if n < -(2 ^ 63) || n>=2 ^ 63 then
    rule "tuple.repeat.overflow";raiseError "OverflowError" s!"cannot fit '{← typeNameOf (.int x u)}' into an index-sized integer"
   let xs <-X4 (.ref l)
   if xs.isEmpty || n==1 then
    if <-K7.Tuple.tupleIsExact (.ref l)then rule "tuple.repeat.same-object";return <-ret (.ref l)
   if n<=0 || xs.isEmpty then return <-ret (<-P6 #[])
   if xs.size*n > (2 ^ 63-1) / 8 then rule "tuple.repeat.no-memory";raiseNew (<-newExc (.type "MemoryError") [])
   if K7.Tuple.tupleTooMany (xs.size*n)then ap9 "tuple.__mul__:memory"
   ret (<-P6 ((J7 n.toNat xs).foldl (·++·) #[]))) _ _ s
  refine o0 (ao2 (a:=x) rfl ?_);dsimp only;rw[if_neg (by simp only[Bool.or_eq_true,decide_eq_true_eq];lia)];refine o0 (an0 ht ?_);rw[if_neg (by simp[hne];lia)];rw[if_neg (by simp[hne];lia)];have hxn:((x.toNat:Nat):Int)=x:=by lia
  have hm:(items.size:Int)*x=((items.size*x.toNat:Nat):Int):=by rw[Int.natCast_mul,hxn]
  have h16:I0=16777216:=rfl;rw[if_neg (by rw[hm];lia)];rw[if_neg (by unfold K7.Tuple.tupleTooMany;rw[hm];simp only[decide_eq_true_eq];lia)];have hf:as7 (fun x1 x2=>x1++x2) #[] (J7 x.toNat items)=(J7 x.toNat items.toList).flatten.toArray:=by
   have:=kP items.toList x.toNat [];rw[M9]at this;simpa using this
  rw[hf];have hs:sizeOk (.seq (J7 x.toNat items.toList).flatten.toArray):=by
   show(J7 x.toNat items.toList).flatten.toArray.size<=I0;rw[J0,qt,K3,am1];exact hz
  exact o0 (m:=P6 _) (O7 (u8 ⟨_,rfl,h⟩) hs)
theorem ar.rep{K:F0}{M:DH}{H:Hp}{ds:List D}{vs:List V}(h:ar K M H ds vs):∀k:Nat,ar K M H (J7 k ds).flatten (J7 k vs).flatten
 |0=>ar.nil
 |k+1=>by
  rw[X7,X7,ad5,ad5];exact h.append (ar.rep h k)
def nG:D->D->Option D
 |.int a,.int b=>if kF a b then some (.int (a*b))else none
 |.str x,.int n=>if x.length<=16777216/\-(2 ^ 63)<=n/\n<=16777216/\x.length*n.toNat<=16777216 then some (.str (Txt.mul x n))else none
 |.tup ds,.int n=>if 2<=n/\n<2 ^ 62/\ds≠[]/\ds.length*n.toNat<=I0 then some (.tup (J7 n.toNat ds).flatten)else none
 |.lst ds,.int n=>if -(2 ^ 63)<=n/\n<2 ^ 63/\ds.length*n.toNat<=I0 then some (.lst (J7 n.toNat ds).flatten)else none
 |_,_=>none
theorem gm:cq X (Z1 .Mult) nG:=by
 intro af s σ H M x y v u dx dy dz Q I hr rx ry r1 r2 e k;cases dx with
 |int a =>
  cases dy with
  |int b=>exact Cv af s σ H M x y v u _ _ dz Q I hr rx ry r1 r2 e k
  |_=>cases e
 |str z =>
  cases dy with
  |int n =>
   simp only[nG]at e
   by_cases hc:z.length<=16777216/\-(2 ^ 63)<=n/\n<=16777216/\z.length*n.toNat<=16777216
   ·rw[if_pos hc]at e;cases e;have e1:=nL r1;have e2:=iE r2;subst e1;subst e2;obtain⟨t1,rfl⟩:=rx;obtain⟨t2,rfl⟩:=ry;have hok:MulOk z n:=by
     by_cases hn:0<=n
     ·exact mulOk_of z.length n.toNat (F7 _) (by lia) hc.2.1 (by lia) hc.2.2.2
     ·exact mulOk_of z.length 0 (F7 _) (by lia) hc.2.1 (by lia) (by lia)
    exact SB.mul hok fun t' kk=>⟨.str _,H,I.tok _,⟨t',rfl⟩,k _ H (Ext.refl _ _) hr (by simp[Rep])⟩
   ·rw[if_neg hc]at e;cases e
  |_=>cases e
 |tup ds =>
  cases dy with
  |int n =>
   simp only[nG]at e
   by_cases hc:2<=n/\n<2 ^ 62/\ds≠[]/\ds.length*n.toNat<=I0
   ·rw[if_pos hc]at e;cases e;have e2:=iE r2;subst e2;obtain⟨t2,rfl⟩:=ry;obtain⟨a,vs,rfl,sq,rl⟩:=r1;cases rx;obtain⟨its,rv,pt,hz⟩:=I.tuple sq;have hl1:=rv.length;have hl2:=rl.length;have hne:its.toArray.isEmpty=false:=by
     cases its with
     |nil =>
      have h0:ds.length=0:=by rw[hl2,hl1];rfl
      exact absurd (ae7.mp h0) hc.2.2.1
     |cons _ _=>rfl
    have hzz:its.toArray.size*n.toNat<=I0:=by rw[J0,<-hl1,<-hl2];exact hc.2.2.2
    refine wpAny_binaryOp_repeat_ref (T:="tuple") (U:="int") (by decide) pt.typeIs (fun s'=>an5 s' n t2) fL F.fills_int_mul ag3 jK F.slot_int_index.lookup
     (ak5 ag3 (an5 s n t2) F.entry_int_rmul (F.args_int_rmul_2 _ _) (hJ n t2 a its.toArray)
      ⟨pt,rfl,pt.typeIs,ak5 am6 pt.typeIs F.entry_tuple_mul (F.args_tuple_mul_2 _ _) (nF a its.toArray n t2 hne hc.1 hc.2.1 hzz) ⟨pt,?_⟩⟩)
    have rr:aE (J7 n.toNat vs).flatten (J7 n.toNat its).flatten:=rv.rep n.toNat;refine⟨.ref s.heap.objs.size,_,I.laid (t':=s.toks) (o:=.tup (J7 n.toNat vs).flatten) (fun b ob q=>F1 _ q) (F7 _) ?_,rfl,?_⟩
    ·refine⟨?_,_,rr,by simpa using lF.new _ _⟩;rw[qt,am1,<-hl2];exact hc.2.2.2
    ·exact lQ hr (I.hok.fresh (F7 _)) (rl.rep n.toNat) k
   ·rw[if_neg hc]at e;cases e
  |_=>cases e
 |lst ds =>
  cases dy with
  |int n =>
   simp only[nG]at e
   by_cases hc:-(2 ^ 63)<=n/\n<2 ^ 63/\ds.length*n.toNat<=I0
   ·rw[if_pos hc]at e;cases e;obtain⟨a,vs,rfl,sq,rl⟩:=r1;exact Di af s σ H _ _ v u Q I rx ry ⟨a,n,vs,rfl,iE r2,sq,hc.1,hc.2.1,by rw[<-rl.length];exact hc.2.2,fun p hp=>iJ hr hp (rl.rep n.toNat) k⟩
   ·rw[if_neg hc]at e;cases e
  |_=>cases e
 |_=>cases e
theorem ze{a b:Int}:nG (.int a) (.int b)=if kF a b then some (.int (a*b))else none:=rfl
def xX:D->Bool
 |.non=>true
 |_=>false
def va(neg:Bool) (x y:D):Option D:=match y with|.non=>some (.bl (xor neg (xX x)))|_=>none
theorem z9{K:F0}{M:DH}{H:Hp}{d:D}{x:V}(r:aY K M H d x):decide (x=V.non)=xX d:=by
 cases d with
 |tup ds=>obtain⟨a,vs,rfl,_⟩:=r;rfl
 |lst ds=>obtain⟨a,vs,rfl,_⟩:=r;rfl
 |scr ds=>obtain⟨a,vs,rfl,_⟩:=r;rfl
 |emp=>simp only[aY,Rep]at r;obtain⟨a,rfl,_⟩:=r;rfl
 |box _ _=>simp only[aY,Rep]at r;obtain⟨a,_,rfl,_⟩:=r;rfl
 |_=>simp only[aY,Rep]at r;subst r;rfl
theorem zT:cq X (S4 .IsNot) (va true):=by
 intro af s σ H M x y v u dx dy dz Q I hr rx ry r1 r2 e k;cases dy with
 |non =>
  cases e;refine AC af s σ H x y v u Q I rx ry ⟨Ff r2,?_⟩;rw[z9 r1];exact k _ H (Ext.refl _ _) hr (by simp[Rep])
 |_=>cases e
theorem vI{b:Bool}{x:D}:va b x .non=some (.bl (xor b (xX x))):=rfl
def Cy(ms:List Bool) (k:Nat) (wi:TId) (g:GD) (tc:TTd) (te:TEd):TEd:=fun Δ M Q=>wi Δ M fun ds M1=>ds.length<=I0/\cE g tc te ds (nY ms k Δ) M1 [] fun ys M2=>∀p,M2 p=none->Q (.ref p) (av M2 p (.lst ys))
theorem wu{K:F0}{wi:TId}{g:GD}{tc:TTd}{te:TEd}{gv:TG}{ms:List Bool}{kk:Nat}(kg:mR K g gv) :
  ∀ σ H Q,up K (Cy ms kk wi g tc te) σ H Q->tLc ms kk (upI K wi) gv (upT K tc) (up K te) σ H Q:=by
 rintro σ H Q ⟨Δ,M,R,sr,hr,q,k⟩;refine⟨Δ,M,_,sr,hr,q,fun ds M1 J H1 ⟨hz,q1⟩ e1 hr1 it=>?_⟩;obtain⟨W,Z,hW,hC,hZ⟩:=uR kg it hr1 hz ((sr.ext e1).comp ms kk) q1;refine⟨W,Z,hW,hC,fun ys σ' H' p z hp=>?_⟩;obtain⟨M',acc,e',hr',ra,q'⟩:=hZ _ _ _ z;exact k _ _ _ _ (q' p (hr'.fresh hp)) ((e1.trans e').trans (Ext.own hp)) (hr'.own hp ra) (by simp only[Rep])
variable{scope:af8}{cl:List (Str×F9)}{ms:List Bool}{ao:List Str}{ifs:List O3}{tg iter elt:O3}
end
@[irreducible] def QEd(X:Cx) (e:O3) (t:TEd):Prop:=PEd X e t
theorem QEd.eq{X:Cx}{e:O3}{t:TEd}:QEd X e t=(PEd X e t):=by unfold QEd;rfl
@[irreducible] def QAd(X:Cx) (e:List O3) (t:TAd):Prop:=PAd X e t
theorem QAd.eq{X:Cx}{e:List O3}{t:TAd}:QAd X e t=(PAd X e t):=by unfold QAd;rfl
@[irreducible] def QTd(X:Cx) (e:O3) (t:TTd):Prop:=PTd X e t
theorem QTd.eq{X:Cx}{e:O3}{t:TTd}:QTd X e t=(PTd X e t):=by unfold QTd;rfl
@[irreducible] def QWd(X:Cx) (e:O3) (t:TTd):Prop:=PWd X e t
theorem QWd.eq{X:Cx}{e:O3}{t:TTd}:QWd X e t=(PWd X e t):=by unfold QWd;rfl
@[irreducible] def QSd(X:Cx) (e:aa1) (t:TSd):Prop:=PSd X e t
theorem QSd.eq{X:Cx}{e:aa1}{t:TSd}:QSd X e t=(PSd X e t):=by unfold QSd;rfl
@[irreducible] def QSs(X:Cx) (e:List aa1) (t:TSd):Prop:=Ap X e t
theorem QSs.eq{X:Cx}{e:List aa1}{t:TSd}:QSs X e t=(Ap X e t):=by unfold QSs;rfl
@[irreducible] def QId(X:Cx) (tg e:O3) (t:TId):Prop:=PId X tg e t
theorem QId.eq{X:Cx}{tg e:O3}{t:TId}:QId X tg e t=(PId X tg e t):=by unfold QId;rfl
@[irreducible] def QIf(X:Cx) (e:List O3) (t:TTd):Prop:=DS X e t
theorem QIf.eq{X:Cx}{e:List O3}{t:TTd}:QIf X e t=(DS X e t):=by unfold QIf;rfl
@[irreducible] def QOd(X:Cx) (e:Option O3) (t:TOd):Prop:=POd X e t
theorem QOd.eq{X:Cx}{e:Option O3}{t:TOd}:QOd X e t=(POd X e t):=by unfold QOd;rfl
theorem ae{X:Cx}(i:Nat) {x:Str}{pos:Pos}(hN:X.N[i]?=some x:=by rfl) (hv:Vis X.env.scope x:=by first|exact Q9 rfl|exact ao0 (Q9 rfl)|exact ao0 (ao0 rfl)) (hd:(x==("__debug__":Str))=false:=by decide)
  (hcd:(x==("__classdict__":Str))=false:=by decide):QEd X (.Name x pos) (iu i):=by
 simp only[QEd.eq]at *
 exact(yH hN hv hd hcd).conv fun σ H Q ⟨Δ,M,R,sr,hr,⟨d,e,q⟩,k⟩=>let⟨v,ev,rv⟩:=sr.2 i d e;⟨v,ev,k d M v H q (Ext.refl _ _) hr rv⟩
theorem aj{X:Cx}{i j pos}:QEd X (.Constant (.int i) j pos) (dC (.int i)):=by
 simp only[QEd.eq]at *
 exact CF.conv fun σ H Q hup=>hup.el fun Δ M R sr hr q k=>k _ M _ H q (Ext.refl _ _) hr (by simp[Rep])
theorem dR{X:Cx}{i j pos}:QEd X (.Constant (.bool i) j pos) (dC (.bl i)):=by
 simp only[QEd.eq]at *
 exact DT.conv fun σ H Q hup=>hup.el fun Δ M R sr hr q k=>k _ M _ H q (Ext.refl _ _) hr (by simp[Rep])
theorem bV{X:Cx}{i j pos}:QEd X (.Constant (.str i) j pos) (dC (.str i)):=by
 simp only[QEd.eq]at *
 exact wF.conv fun σ H Q hup=>hup.el fun Δ M R sr hr q k=>k _ M _ H q (Ext.refl _ _) hr (by simp[Rep])
theorem eh{X:Cx}{j pos}:QEd X (.Constant .none j pos) (dC .non):=by
 simp only[QEd.eq]at *
 exact B6.conv fun σ H Q hup=>hup.el fun Δ M R sr hr q k=>k _ M _ H q (Ext.refl _ _) hr (by simp[Rep])
theorem eR{X:Cx}{x:Str}{i:Int}{pos:Pos}(hg:Gl X x) (hm:∃tk,X.mg x=some (.int i tk)) (hd:(x==("__debug__":Str))=false:=by decide):QEd X (.Name x pos) (dC (.int i)):=by
 simp only[QEd.eq]at *
 obtain⟨t,ht⟩:=hm;exact zp hg ht hd
theorem yN{X:Cx}{x y:Str}{pos:Pos}(hg:Gl X x) (hm:∃tk,X.mg x=some (.str y tk)) (hd:(x==("__debug__":Str))=false:=by decide):QEd X (.Name x pos) (dC (.str y)):=by
 simp only[QEd.eq]at *
 obtain⟨t,ht⟩:=hm;exact zM hg ht hd
theorem ag{X:Cx}:QAd X [] tS:=by
 simp only[QAd.eq]at *
 exact gx.conv fun σ H Q hup=>hup.el fun Δ M R sr hr q k=>k _ M _ H q (Ext.refl _ _) hr ar.nil
theorem aa{X:Cx}{a:O3}{es:List O3}{ta:TEd}{tr:TAd}(ha:QEd X a ta) (hr:QAd X es tr) (hs:F8 (a::es) X.env=(false,ab7 a X.env)::F8 es X.env:=by rfl):QAd X (a::es) (ix ta tr):=by
 simp only[QEd.eq,QAd.eq]at *
 exact(cB ha hr hs).conv fun σ H Q hup=>hup.el fun Δ M R sr hr q k=>⟨Δ,M,_,sr,hr,q,fun d M1 v H1 q1 e1 hr1 rv=>⟨Δ,M1,_,sr.ext e1,hr1,q1,fun ds M2 vs H2 q2 e2 hr2 rvs =>
   k _ M2 _ H2 q2 (e1.trans e2) hr2 (ar.cons (rv.ext e2) rvs)⟩⟩
theorem aD{X:Cx}{es:List O3}{pos:Pos}{x1}{t:TAd}(h:QAd X es t):QEd X (.Tuple es x1 pos) (Dx t):=by
 simp only[QEd.eq,QAd.eq]at *
 exact(C6 h).conv fun σ H Q hup=>hup.el fun Δ M R sr hr q k=>⟨Δ,M,_,sr,hr,q,fun ds M1 vs H1 ⟨z,q1⟩ e1 hr1 rv=>⟨by rw[<-rv.length];exact z,fun p hp=>k _ M1 _ _ q1 (e1.trans (Ext.new hr1 hp)) (hr1.new hp) (by
   simp only[Rep];exact⟨p,vs,rfl,.inl ⟨.inl bh,hr1.fresh hp⟩,rv.ext (Ext.new hr1 hp)⟩)⟩⟩
theorem bI{X:Cx}{es:List O3}{pos:Pos}{t:TAd}(h:QAd X es t):QEd X (.List es pos) (Fc t):=by
 simp only[QEd.eq,QAd.eq]at *
 exact(wQ h).conv fun σ H Q hup=>hup.el fun Δ M R sr hr q k=>⟨Δ,M,_,sr,hr,q,fun ds M1 vs H1 ⟨z,q1⟩ e1 hr1 rv=>⟨by rw[<-rv.length];exact z,fun p hp=>k _ M1 _ _ q1 (e1.trans (Ext.new hr1 hp)) (hr1.new hp) (by
   simp only[Rep];exact⟨p,vs,rfl,⟨bh,hr1.fresh hp⟩,rv.ext (Ext.new hr1 hp)⟩)⟩⟩
theorem jm{X:Cx}{es:List O3}{pos:Pos}{t:TAd}(h:QAd X es t):QEd X (.List es pos) (A3 t):=by
 simp only[QEd.eq,QAd.eq]at *
 exact(wQ h).conv fun σ H Q hup=>hup.el fun Δ M R sr hr q k=>⟨Δ,M,_,sr,hr,q,fun ds M1 vs H1 ⟨z,q1⟩ e1 hr1 rv=>⟨by rw[<-rv.length];exact z,fun p hp=>k _ _ _ _ (q1 p (hr1.fresh hp)) (e1.trans (Ext.own hp)) (hr1.own hp rv) (by
   simp only[Rep])⟩⟩
theorem aO{X:Cx}{a:O3}{b:O3}{ta:TEd}{tb:TEd}{pos:Pos}{op:Operator}{r:D->D->Option D}(ho:cq X (Z1 op) r) (ha:QEd X a ta) (hb:QEd X b tb):QEd X (.BinOp a op b pos) (dOp r ta tb):=by
 simp only[QEd.eq]at *
 exact(Bl ho.v ha hb).conv yL
theorem cV{X:Cx}{a:O3}{b:O3}{ta:TEd}{tb:TEd}{pos:Pos}{op:CmpOp}{r:D->D->Option D}(ho:cq X (S4 op) r) (ha:QEd X a ta) (hb:QEd X b tb) (hm:ag8 op b=false):QEd X (.Compare a [op] [b] pos) (dOp r ta tb):=by
 simp only[QEd.eq]at *
 exact(zV ho.v ha hb hm).conv yL
theorem bp{X:Cx}{a:O3}{b:O3}{ta:TEd}{tb:TEd}{pos:Pos}{r:D->D->Option D}(ho:IxR X (opV X.K r)) (ha:QEd X a ta) (hb:QEd X b tb) (hs:vb b):QEd X (.Subscript a b pos) (dOp r ta tb):=by
 simp only[QEd.eq]at *
 exact(EK ho ha hb hs).conv yL
theorem qP{X:Cx}{a:O3}{ta:TEd}{pos:Pos}{op:UnaryOp}{r:D->Option D}(ho:DU X (unaryOp op) r) (ha:QEd X a ta):QEd X (.UnaryOp op a pos) (dUn r ta):=by
 simp only[QEd.eq]at *
 have h:UnR X (unaryOp op) (fun x H Q=>∃dx dz M,HR X.K M H/\aY X.K M H dx x/\r dx=some dz/\∀w H',Ext M H M H'->HR X.K M H'->Rep X.K M H' dz w->Q w H'):=fun af s σ H x v Q I rx ⟨dx,dz,M,hr,r1,e,k⟩=>ho af s σ H M x v dx dz Q I hr rx r1 e k;exact(EX h ha).conv fun σ H Q hup=>hup.el fun Δ M R sr hr q k=>⟨Δ,M,_,sr,hr,q,fun x M1 v H1 ⟨z,ez,q1⟩ e1 hr1 rv=>⟨_,z,M1,hr1,rv.rd hr1,ez,fun w H' e2 hr2 rw_=>k z M1 w H' q1 (e1.trans e2) hr2 rw_⟩⟩
theorem cf{X:Cx}{a:O3}{b:O3}{ta:TEd}{tb:TEd}{pos:Pos}{op:CmpOp}{r:D->D->Option D}(ho:cq X (S4 op) r) (ha:QEd X a ta) (hb:QEd X b tb) (hm:ag8 op b=false):QTd X (.Compare a [op] [b] pos) (Aw (dOp r ta tb)):=by
 simp only[QEd.eq,QTd.eq]at *
 refine(AU ho.v ha hb hm).conv fun σ H Q h=>?_;obtain⟨Δ,M,R,sr,hr,q,k⟩:=h;exact⟨Δ,M,_,sr,hr,q,fun x M1 v H1 q1 e1 hr1 rv=>⟨Δ,M1,_,sr.ext e1,hr1,q1,fun y M2 u H2 ⟨z,ez,b,eb,q2⟩ e2 hr2 ru=>⟨_,_,z,M2,hr2,(rv.ext e2).rd hr2,ru.rd hr2,ez,fun w H' e3 hr3 rw_ =>
  ⟨b,by subst eb;simpa only[Rep]using rw_,k b M2 H' q2 ((e1.trans e2).trans e3) hr3⟩⟩⟩⟩
theorem bw{X:Cx}{a:O3}{ta:TEd}(h:QEd X a ta) (he:∀whole,isTrue a X.env whole=(do let v <-whole;aq7 a.pos;ak1 [v] (truthy v)):=by intro _;rfl):QTd X a (Aw ta):=by
 simp only[QEd.eq,QTd.eq]at *
 exact(BI h he).conv Ej
theorem bC{X:Cx}{a:O3}{pos:Pos}{tA:TTd}(h:QTd X a tA):QTd X (.UnaryOp .Not a pos) (Bu tA):=by
 simp only[QTd.eq]at *
 exact(Da h).conv fun σ H Q hup=>hup.el fun Δ M R sr hr q k=>⟨Δ,M,_,sr,hr,q,fun b M1 H1 q1 e1 hr1=>k _ M1 H1 q1 e1 hr1⟩
theorem zZ{X:Cx}{a:O3}{pos:Pos}{tA:TTd}(ha:QTd X a tA):QWd X (.BoolOp .And [a] pos) tA:=by
 simp only[QTd.eq,QWd.eq]at *
 exact zC ha
theorem fH{X:Cx}{a:O3}{pos:Pos}{tA:TTd}(ha:QTd X a tA):QWd X (.BoolOp .Or [a] pos) tA:=by
 simp only[QTd.eq,QWd.eq]at *
 exact C3 ha
theorem wB{X:Cx}{a:O3}{b:O3}{pos:Pos}{tA:TTd}{tB':TTd}{rest:List O3}(ha:QTd X a tA) (hb:QWd X (.BoolOp .And (b::rest) pos) tB'):QWd X (.BoolOp .And (a::b::rest) pos) (Bf tA tB'):=by
 simp only[QTd.eq,QWd.eq]at *
 exact(Ct ha hb).conv fun σ H Q hup=>hup.el fun Δ M R sr hr q k=>⟨Δ,M,_,sr,hr,q,fun c M1 H1 q1 e1 hr1=>by
   cases c with
   |true=>simp only[if_true]at q1 ⊢;exact⟨Δ,M1,R,sr.ext e1,hr1,q1,fun b M2 H2 q2 e2 hr2=>k b M2 H2 q2 (e1.trans e2) hr2⟩
   |false=>simp only[F6,if_false]at q1 ⊢;exact k _ M1 H1 q1 e1 hr1⟩
theorem dM{X:Cx}{a:O3}{b:O3}{pos:Pos}{tA:TTd}{tB':TTd}{rest:List O3}(ha:QTd X a tA) (hb:QWd X (.BoolOp .Or (b::rest) pos) tB'):QWd X (.BoolOp .Or (a::b::rest) pos) (DZ tA tB'):=by
 simp only[QTd.eq,QWd.eq]at *
 exact(Eg ha hb).conv fun σ H Q hup=>hup.el fun Δ M R sr hr q k=>⟨Δ,M,_,sr,hr,q,fun c M1 H1 q1 e1 hr1=>by
   cases c with
   |false=>simp only[F6,if_false]at q1 ⊢;exact⟨Δ,M1,R,sr.ext e1,hr1,q1,fun b M2 H2 q2 e2 hr2=>k b M2 H2 q2 (e1.trans e2) hr2⟩
   |true=>simp only[if_true]at q1 ⊢;exact k _ M1 H1 q1 e1 hr1⟩
theorem cv{X:Cx}{a:O3}{ta:TEd}{pos:Pos}{op}(h:QEd X a ta):QEd X (.BoolOp op [a] pos) ta:=by
 simp only[QEd.eq]at *
 exact CD h
theorem bt{X:Cx}{a:O3}{b:O3}{ta:TEd}{tb:TEd}{pos:Pos}{rest:List O3}(ha:QEd X a ta) (hb:QEd X (.BoolOp .And (b::rest) pos) tb):QEd X (.BoolOp .And (a::b::rest) pos) (DK ta tb):=by
 simp only[QEd.eq]at *
 exact(Ce ha hb).conv fun σ H Q hup=>hup.el fun Δ M R sr hr q k=>⟨Δ,M,_,sr,hr,q,fun d M1 v H1 ⟨c,e,q1⟩ e1 hr1 rv=>⟨c,by subst e;simpa only[Rep]using rv,by
   cases c with
   |true=>simp only[if_true]at q1 ⊢;exact⟨Δ,M1,R,sr.ext e1,hr1,q1,fun b M2 v2 H2 q2 e2 hr2 r2=>k b M2 v2 H2 q2 (e1.trans e2) hr2 r2⟩
   |false=>simp only[F6,if_false]at q1 ⊢;exact k _ M1 _ H1 q1 e1 hr1 (by simp[Rep])⟩⟩
theorem Bs{X:Cx}{a:O3}{ta:TEd}{pos:Pos}(ha:QEd X a ta):QEd X (.UnaryOp .Not a pos) (Ew ta):=by
 simp only[QEd.eq]at *
 exact(BB ha).conv fun σ H Q hup=>hup.el fun Δ M R sr hr q k=>⟨Δ,M,_,sr,hr,q,fun d M1 v H1 ⟨c,e,q1⟩ e1 hr1 rv =>
  ⟨c,by subst e;simpa only[Rep]using rv,k _ M1 _ H1 q1 e1 hr1 (by simp[Rep])⟩⟩
theorem lK{X:Cx}{a:O3}{b:O3}{c:O3}{ta:TEd}{tb:TEd}{pos:Pos}{tc:TEd}{op op':CmpOp}{r r':D->D->Option D}(ho:cq X (S4 op) r) (ho':cq X (S4 op') r') (ha:QEd X a ta) (hb:QEd X b tb) (hc:QEd X c tc)
  (hm:lastMarks [op,op'] [b,c]=false:=by with_unfolding_all rfl):QEd X (.Compare a [op,op'] [b,c] pos) (wg r r' ta tb tc):=by
 simp only[QEd.eq]at *
 refine(yR ho.v ho'.v ha hb hc hm).conv fun σ H Q h=>?_;obtain⟨Δ,M,R,sr,hr,q,k⟩:=h;refine⟨Δ,M,_,sr,hr,q,fun x M1 v H1 q1 e1 hr1 rv=>⟨Δ,M1,_,sr.ext e1,hr1,q1,fun y M2 u H2 ⟨b,eb,q2⟩ e2 hr2 ru=>⟨_,_,.bl b,M2,hr2,(rv.ext e2).rd hr2,ru.rd hr2,eb,fun w H3 e3 hr3 rw_ =>
  ⟨b,by simpa only[Rep]using rw_,?_⟩⟩⟩⟩
 cases b with
 |true =>
  simp only[if_true]at q2 ⊢;exact⟨Δ,M2,_,(sr.ext (e1.trans e2)).ext e3,hr3,q2,fun z M4 w4 H4 ⟨d,ed,q4⟩ e4 hr4 r4=>⟨_,_,d,M4,hr4,((ru.ext e3).ext e4).rd hr4,r4.rd hr4,ed,fun w5 H5 e5 hr5 r5=>k d M4 w5 H5 q4 ((((e1.trans e2).trans e3).trans e4).trans e5) hr5 r5⟩⟩
 |false =>
  simp only[F6,if_false]at q2 ⊢;exact k _ M2 _ H3 q2 ((e1.trans e2).trans e3) hr3 (by simp[Rep])
theorem aB{X:Cx}{pos:Pos}{x:Str}{p:Pos}{e:O3}{es:List O3}{t:TAd}{id:String}{r:List D->Option D}(hc:cw X (.builtin id) r) (hg:Gl X x) (hm:X.mg x=none) (hv:ac1 x=some (.builtin id)) (ha:QAd X (e::es) t) (hn:x≠"__name__":=by decide) (hdb:(x==("__debug__":Str))=false:=by decide)
  (he:F8 (e::es) X.env=(false,ab7 e X.env)::F8 es X.env:=by rfl) (hpl:(V4 pos (F8 es X.env)).any (·.1)=false:=by rfl):QEd X (.Call (.Name x p) (e::es) [] pos) (dCB r t):=by
 simp only[QEd.eq,QAd.eq]at *
 exact(jO hc.v hg hm hv ha hn hdb he hpl).conv A9
theorem bG{X:Cx}{pos:Pos}{x:Str}{p:Pos}{e:O3}{es:List O3}{t:TAd}{id:String}{r:List D->Option D}(hc:cw X (.type id) r) (hg:Gl X x) (hm:X.mg x=none) (hv:ac1 x=some (.type id)) (ha:QAd X (e::es) t) (hn:x≠"__name__":=by decide) (hdb:(x==("__debug__":Str))=false:=by decide)
  (he:F8 (e::es) X.env=(false,ab7 e X.env)::F8 es X.env:=by rfl) (hpl:(V4 pos (F8 es X.env)).any (·.1)=false:=by rfl):QEd X (.Call (.Name x p) (e::es) [] pos) (dCB r t):=by
 simp only[QEd.eq,QAd.eq]at *
 exact(vA hc.v hg hm hv ha hn hdb he hpl).conv A9
theorem bN{X:Cx}:QSs X [] xa:=by
 simp only[QSs.eq]at *
 exact uH.conv fun D σ H hup=>hup.el fun Δ M E sr hr q u=>u.nx Δ M σ H q (Ext.refl _ _) hr sr
theorem ak{X:Cx}{st:aa1}{rest:List aa1}{t:TSd}{u:TSd}(h1:QSd X st t) (h2:QSs X rest u):QSs X (st::rest) (yb t u):=by
 simp only[QSd.eq,QSs.eq]at *
 exact(lO h1 h2).conv fun D σ H hup=>hup.el fun Δ M E sr hr q k=>⟨Δ,M,{ E with nx:=u E },sr,hr,q,⟨fun Δ' M' σ' H' q' e' hr' sr'=>⟨Δ',M',E,sr',hr',q',k.ext e'⟩,k.bk,k.ct,k.rt⟩⟩
theorem au{X:Cx}{st:aa1}{t:TSd}(h1:QSd X st t):QSs X [st] t:=by
 simp only[QSd.eq,QSs.eq]at *
 exact o7 h1
theorem aI{X:Cx}{e:O3}{te:TEd}{pos:Pos}(he:QEd X e te):QSd X (.Return (some e) pos) (DM te):=by
 simp only[QEd.eq,QSd.eq]at *
 exact(sA he).conv fun D σ H hup=>hup.el fun Δ M E sr hr q k=>⟨Δ,M,_,sr,hr,q,k.rt⟩
theorem gn{X:Cx}{e:O3}{te:TEd}{pos:Pos}(he:QEd X e te) (hs:ah9 e none pos.line X.env=af5 false:=by rfl):QSd X (.Expr e pos) (u5 te):=by
 simp only[QEd.eq,QSd.eq]at *
 exact(uX he hs).conv fun D σ H hup=>hup.el fun Δ M E sr hr q k=>⟨Δ,M,_,sr,hr,q,fun d M1 v H1 q1 e1 hr1 _=>k.nx Δ M1 σ H1 q1 e1 hr1 (sr.ext e1)⟩
theorem cn{X:Cx}{c:O3}{pos:Pos}{t:TSd}{u:TSd}{sa sb:List aa1}{tc:TTd}(hc:QTd X c tc) (ha:QSs X sa t) (hb:QSs X sb u):QSd X (.If c sa sb pos) (Dh tc t u):=by
 simp only[QTd.eq,QSd.eq,QSs.eq]at *
 exact(By hc ha hb).conv fun D σ H hup=>hup.el fun Δ M E sr hr q k=>⟨Δ,M,_,sr,hr,q,fun b M1 H1 q1 e1 hr1=>by
   cases b with
   |true=>simp only[if_true]at q1 ⊢;exact⟨Δ,M1,E,sr.ext e1,hr1,q1,k.ext e1⟩
   |false=>simp only[F6,if_false]at q1 ⊢;exact⟨Δ,M1,E,sr.ext e1,hr1,q1,k.ext e1⟩⟩
theorem aL{X:Cx}{e:O3}{te:TEd}{pos:Pos}{i:Nat}{x:Str}{pos':Pos}(hN:X.N.Nodup) (hi:X.N[i]?=some x) (hx:Loc X.env.scope x) (he:QEd X e te) (hs:ah9 e (some (.Name x pos')) pos.line X.env=af5 false:=by rfl) (hf:X.fn x=true∨X.env.scope.names.lookup x=some .local:=by first|exact .inl rfl|exact .inr rfl|assumption) :
  QSd X (.Assign [.Name x pos'] e pos) (qj i te):=by
 simp only[QEd.eq,QSd.eq]at *
 exact(BH hN hi hx he hs hf).conv fun D σ H hup=>hup.el fun Δ M E sr hr q k=>⟨Δ,M,_,sr,hr,q,fun d M1 v H1 q1 e1 hr1 rv=>k.nx _ M1 _ H1 q1 e1 hr1 ((sr.ext e1).set i rv)⟩
theorem zr{X:Cx}{t:TSd}{sts:List aa1}(i:Nat) (h:QSs X sts t):QSs X sts (yT i t):=by
 simp only[QSs.eq]at *
 exact PSs.conv h fun D σ H ⟨Δ,M,E,sr,hr,⟨a,ds,e1,e2,q⟩,k⟩=>by
  refine⟨_,ir M a,E,?_,hr.le LeM.del,q,k.ext (Ext.le LeM.del)⟩;obtain⟨v,ev,rv⟩:=sr.2 i _ e1;simp only[Rep]at rv;subst rv;have:=(sr.ext (Ext.le (M1:=ir M a) LeM.del)).set i (Rep.froze (M1:=ir M a) hr LeM.del e2 iX);have es:σ.set i (some (.ref a))=σ:=by
   apply ad7;intro j
   by_cases hj:j=i
   ·subst hj;have hl:j<σ.length:=(N1.mp ev).1;rw[T9 hl,ev]
   ·rw[W9 (V0 hj)]
  rw[es]at this;exact this
theorem uT{X:Cx}{e:O3}{te:TEd}{pos:Pos}{tg:O3}{g:GD}(he:QEd X e te) (hg:PGd X tg g) (hs:swapsWithSole [tg] e pos.line X.env=af5 false:=by rfl) (hw:swappedStores [tg] e X.env=af5 none:=by rfl)
  (h1:(X6 [tg] X.env).map (·.2)=[ao8 tg X.env]:=by rfl):QSd X (.Assign [tg] e pos) (DV te g):=by
 simp only[QEd.eq,QSd.eq]at *
 obtain⟨gv,pg,kg⟩:=hg;exact(xo he pg hs hw h1).conv fun D σ H hup=>hup.el fun Δ M E sr hr q k=>⟨Δ,M,_,sr,hr,q,fun d M1 v H1 ⟨Δ',eg,q1⟩ e1 hr1 rv=>kg d v σ Δ Δ' M1 H1 _ (sr.ext e1) hr1 rv eg fun σ' sr'=>k.nx Δ' M1 σ' H1 q1 e1 hr1 sr'⟩
theorem dG{X:Cx}{a:O3}{pos:Pos}{tg:O3}{ta:TAd}{p:Pos}(hg:Gl X "range") (hm:X.mg "range"=none) (ha:QAd X [a] ta) (hs:F8 [a] X.env=[(false,ab7 a X.env)]:=by rfl):QId X tg (.Call (.Name "range" p) [a] [] pos) (wz ta):=by
 simp only[QAd.eq,QId.eq]at *
 exact(vR hg hm ha hs).conv fun σ H R hup=>hup.el fun Δ M R' sr hr q k=>⟨Δ,M,_,sr,hr,q,fun ds M1 vs H1 ⟨j,ed,h1,h2,q1⟩ e1 hr1 rv=>by
   subst ed;obtain⟨v,ev,rv1⟩:=rv.one;have ev1:v=.int j:=by simpa only[Rep]using rv1
   subst ev1;subst ev;exact⟨j,rfl,h1,h2,k _ M1 _ H1 q1 e1 hr1 zU⟩⟩
theorem gP{X:Cx}{pos:Pos}{tg:O3}{iter:O3}{body:List aa1}{wi:TId}{g:GD}{tb:TSd}(hp:ad2 (M0 X.prog X.w) X.A X.env X.xe) (hc:X.calm=true) (hi:QId X tg iter wi) (hg:PGd X tg g) (hb:QSs X body tb)
  (hs:∀x,Q0 iter X.env x=af5 x:=by intro _;rfl):QSd X (.For tg iter body [] pos) (DJ wi g tb):=by
 simp only[QSd.eq,QSs.eq,QId.eq]at *
 obtain⟨gv,pg,kg⟩:=hg;refine(BV hp hc hi pg hb hs).conv fun D σ H hh=>?_;obtain⟨Δ,M,E,sr,hr,q,k⟩:=hh;refine⟨Δ,M,_,sr,hr,q,fun ds M1 J H1 q1 e1 hr1 it=>?_⟩;refine⟨fun i m σ' H'=>∃ Δ' M',m=ds.length-i/\i<=ds.length/\Ext M1 H1 M' H'/\HR X.K M' H'/\SR X.K M' H' σ' Δ'/\cF g tb E (ds.drop i) Δ' M',⟨ds.length,Δ,M1,by simp,Q5 _,Ext.refl _ _,hr1,sr.ext e1,q1⟩,?_⟩;rintro i m σ2 H2 ⟨Δ2,M2,rfl,hi2,e2,hr2,sr2,f2⟩;obtain⟨go,stop⟩:=it M2 H2 e2 hr2 i
 by_cases hlt:i<ds.length
 ·have hd:ds[i]?=some ds[i]:=by simp[hlt]
  obtain⟨g1,y1⟩:=go _ hd;rw[Z5 hlt]at f2;simp only[cF]at f2;obtain⟨Δ3,eg,f3⟩:=f2;refine .inr ⟨g1,fun σ' H'=>∃m',m'<ds.length-i/\∃ Δ' M',m'=ds.length-(i+1)/\i+1<=ds.length/\Ext M1 H1 M' H'/\HR X.K M' H'/\SR X.K M' H' σ' Δ'/\cF g tb E (ds.drop (i+1)) Δ' M',fun σ' H' z=>z,fun x H' hy=>?_⟩;obtain⟨e3,hr3,rx⟩:=y1 x H' hy;refine kg _ x σ2 Δ2 Δ3 M2 H' _ (sr2.ext e3) hr3 rx eg fun σ3 sr3=>?_;refine⟨Δ3,M2,_,sr3,hr3,f3,⟨fun Δ' M' σ' H'' q' e' hr' sr'=>?_,fun Δ' M' σ' H'' q' e' hr' sr'=>?_,fun Δ' M' σ' H'' q' e' hr' sr'=>?_,fun d M' v H'' q' e' hr' rv'=>?_⟩⟩
  ·exact⟨_,by lia,Δ',M',rfl,hlt,(e2.trans e3).trans e',hr',sr',q'⟩
  ·exact k.nx Δ' M' σ' H'' q' (((e1.trans e2).trans e3).trans e') hr' sr'
  ·exact⟨_,by lia,Δ',M',rfl,hlt,(e2.trans e3).trans e',hr',sr',q'⟩
  ·exact k.rt d M' v H'' q' (((e1.trans e2).trans e3).trans e') hr' rv'
 ·rw[af6 (by lia)]at f2;exact .inl ⟨stop (by lia),k.nx Δ2 M2 σ2 H2 f2 (e1.trans e2) hr2 sr2⟩
theorem aT{X:Cx}:QIf X [] nR:=by
 simp only[QIf.eq]at *
 exact fun af s σ H Q I ⟨Δ,M,R,sr,hr,q,k⟩=>zY af s σ H Q I (k true M H q (Ext.refl _ _) hr)
theorem BO{X:Cx}{c:O3}{tc:TTd}(h:QTd X c tc):QIf X [c] tc:=by
 simp only[QTd.eq,QIf.eq]at *
 exact Az h
theorem cX{X:Cx}{pos:Pos}{tg:O3}{iter:O3}{elt:O3}{scope:af8}{cl:List (Str×F9)}{ms:List Bool}{ao:List Str}{ifs:List O3}{wi:TId}{g:GD}{tc:TTd}{te:TEd}(S:fo X scope cl ms ao) (eQ:X.calm=true) (hi:QId X tg iter wi) (hg:PGa X scope cl ao tg g)
  (hif:∀C s H ex,QIf (aH X scope cl (X.N++ao) C s H ex) ifs tc) (he:∀C s H ex,QEd (aH X scope cl (X.N++ao) C s H ex) elt te)
  (hs:∀x,Q0 iter X.env x=af5 x:=by intro _;rfl):QEd X (.ListComp elt [⟨tg,iter,ifs,0⟩] scope pos) (dLc ms ao.length wi g tc te):=by
 simp only[QEd.eq,QId.eq,QIf.eq]at *
 obtain⟨gv,pg,kg⟩:=hg;exact(CZ (tc:=upT X.K tc) S eQ hi pg hif (sV (te:=up X.K te) he) hs).conv (uf kg)
theorem Au{X:Cx}{pos:Pos}{tg:O3}{iter:O3}{elt:O3}{scope:af8}{cl:List (Str×F9)}{ms:List Bool}{ao:List Str}{ifs:List O3}{i:Nat}{x:Str}{spos pos':Pos}{wi:TId}{g:GD}{tc:TTd}{te:TEd}(hN:X.N.Nodup) (hix:X.N[i]?=some x) (hx:X.env.scope.names.lookup x=some .local)
  (hsw:ah9 (.ListComp elt [⟨tg,iter,ifs,0⟩] scope pos) (some (.Name x pos')) spos.line X.env=af5 true) (S:fo X scope cl ms ao) (eQ:X.calm=true) (hi:QId X tg iter wi) (hg:PGa X scope cl ao tg g)
  (hif:∀C s H ex,QIf (aH X scope cl (X.N++ao) C s H ex) ifs tc) (he:∀C s H ex,QEd (aH X scope cl (X.N++ao) C s H ex) elt te)
  (hs:∀x,Q0 iter X.env x=af5 x:=by intro _;rfl):QSd X (.Assign [.Name x pos'] (.ListComp elt [⟨tg,iter,ifs,0⟩] scope pos) spos) (qj i (dLc ms ao.length wi g tc te)):=by
 simp only[QEd.eq,QSd.eq,QId.eq,QIf.eq]at *
 obtain⟨gv,pg,kg⟩:=hg;refine(iW (tc:=upT X.K tc) hN hix hx hsw S eQ hi pg hif (sV (te:=up X.K te) he) hs).conv fun D σ H hh=>?_;obtain⟨Δ,M,E,sr,hr,q,k⟩:=hh;exact uf kg σ H _ ⟨Δ,M,_,sr,hr,q,fun d M1 v H1 q1 e1 hr1 rv=>k.nx _ M1 _ H1 q1 e1 hr1 ((sr.ext e1).set i rv)⟩
theorem xb{X:Cx}{e:O3}{te:TEd}{pos:Pos}{o i:O3}{to ti:TEd}{p:Pos}(ho:QEd X o to) (hi:QEd X i ti) (he:QEd X e te)
  (ha:∀ v,ao8 (.Subscript o i p) X.env v = (do
   let ov <-ak1 [v] (ab7 o X.env)
   let iv <-ak1 [v,ov] (ab7 i X.env)
   aq7 p
   ak1 [v,ov,iv] (setItem ov iv v)
   release [v,ov,iv] []):=by intro _;rfl) (hs:swapsWithSole [.Subscript o i p] e pos.line X.env=af5 false:=by rfl) (hw:swappedStores [.Subscript o i p] e X.env=af5 none:=by rfl)
  (h1:(X6 [.Subscript o i p] X.env).map (·.2)=[ao8 (.Subscript o i p) X.env]:=by rfl):QSd X (.Assign [.Subscript o i p] e pos) (Ef to ti te):=by
 simp only[QEd.eq,QSd.eq]at *
 exact(xo he (CV ho hi wR ha) hs hw h1).conv fun D σ H hup=>hup.el fun Δ M E sr hr q k=>⟨Δ,M,_,sr,hr,q,fun d M1 v H1 q1 e1 hr1 rv=>⟨Δ,M1,_,sr.ext e1,hr1,q1,fun o M2 ov H2 q2 e2 hr2 ro=>⟨Δ,M2,_,(sr.ext e1).ext e2,hr2,q2,fun i M3 iv H3 ⟨a,ds,kk,j,eo,ei,em,ej,q3⟩ e3 hr3 ri=>by
   subst eo;subst ei;simp only[Rep]at ro ri;subst ro;subst ri;obtain⟨vs,hv,rl⟩:=hr3 a _ em;refine⟨a,vs,kk,j,rfl,rfl,hv,by rw[<-rl.length];exact ej,?_⟩;exact k.nx Δ _ σ _ q3 (((e1.trans e2).trans e3).trans (Ext.write em)) (hr3.write em (rl.set j ((rv.ext e2).ext e3))) ((((sr.ext e1).ext e2).ext e3).ext (Ext.write em))⟩⟩⟩
theorem jY{X:Cx}{e:O3}{te:TEd}{o:O3}{to:TEd}{iZ cu:Pos}(ho:QEd X o to) (he:QEd X e te) (ic:ae4 o "append" X.env (ab7 o X.env)=ab7 o X.env:=by rfl)
  (hse:F8 [e] X.env=(false,ab7 e X.env)::F8 [] X.env:=by rfl)
  (sU:((V4 cu (F8 [e] X.env)).all (fun x => !x.1) && (ar3 cu (ak3 [] X.env)).all (fun x => x.1.isSome)
  &&decide ([e].length+([]:List an9).length+(if([]:List an9).isEmpty then 0 else 1)<30))=true:=by rfl)
  (mm:(iZ.endLine==cu.line)=true:=by rfl) (jw:(V4 cu (F8 [] X.env)).any (·.1)=false:=by rfl):QEd X (.Call (.Attribute o "append" iZ) [e] [] cu) (zP to te):=by
 simp only[QEd.eq]at *
 exact(xp PySem.F.plainAttrs_list PySem.F.slot_list_append PySem.F.type_list_append (show MtR X "list.append" uu from vp) ho (cB he gx hse) ic sU mm hse jw).conv fun σ H Q hup=>hup.el fun Δ M R sr hr q k=>⟨Δ,M,_,sr,hr,q,fun o M1 ov H1 ⟨a,l,eo,em,q1⟩ e1 hr1 ro=>by
   subst eo;simp only[Rep]at ro;subst ro;obtain⟨vs,hv,rl⟩:=hr1 a _ em;refine⟨.inl ⟨rfl,vs,SqL.of hv⟩,Δ,M1,_,sr.ext e1,hr1,q1,fun d M2 v H2 ⟨ds,em2,hz,q2⟩ e2 hr2 rv=>?_⟩;obtain⟨ws,hw,rl2⟩:=hr2 a _ em2;refine⟨a,ws,v,rfl,rfl,hw,by rw[<-rl2.length];exact hz,k _ _ _ _ q2 ((e1.trans e2).trans (Ext.write em2)) (hr2.write em2 (rl2.append (ar.cons rv ar.nil))) (by simp[Rep])⟩⟩
theorem cm{X:Cx}{a:O3}{ta:TEd}{pos:Pos}{T:Str}{Tn:String}{p p2:Pos}(hT:okT Tn=true) (hg:Gl X "isinstance") (hm:X.mg "isinstance"=none) (hg2:Gl X T) (hm2:X.mg T=none) (hv2:ac1 T=some (.type Tn)) (ha:QEd X a ta) (hn2:T≠"__name__":=by decide) (hd2:(T==("__debug__":Str))=false:=by decide)
  (hs:F8 [a,.Name T p2] X.env=(false,ab7 a X.env)::F8 [.Name T p2] X.env:=by rfl) (hs2:F8 [.Name T p2] X.env=(false,ab7 (.Name T p2) X.env)::F8 [] X.env:=by rfl) (hpl:(V4 pos (F8 [.Name T p2] X.env)).any (·.1)=false:=by rfl) :
  QEd X (.Call (.Name "isinstance" p) [a,.Name T p2] [] pos) (EJ Tn ta):=by
 simp only[QEd.eq]at *
 have hc:dj X (.builtin "isinstance") (fun xs H Q=>∃v d k M,xs=[v,.ty Tn]/\aY X.K M H d v/\AS Tn d=some k/\Q (.bl k) H):=by
  intro af s σ H xs us Q I rv h;obtain⟨v,d,k,M,rfl,rd,ek,q⟩:=h;obtain⟨u1,u2,rfl,r1,r2⟩:=aE.two rv;cases r2;exact vC hT I r1 rd ek q
 refine(jO hc hg hm (by kernel_rfl) (cB ha (cB (ui (v:=.ty Tn) hg2 hm2 hv2 rfl hn2 hd2) gx hs2) hs) (by decide) (by decide) hs hpl).conv fun σ H Q hh=>?_;obtain⟨Δ,M,R,sr,hr,q,k⟩:=hh;exact⟨Δ,M,_,sr,hr,q,fun d M1 v H1 ⟨kk,ek,q1⟩ e1 hr1 rv=>⟨v,_,kk,M1,rfl,rv.rd hr1,ek,k _ M1 _ H1 q1 e1 hr1 (by simp[Rep])⟩⟩
theorem bq{X:Cx}:QOd X none pB:=by
 simp only[QEd.eq,QAd.eq,QTd.eq,QWd.eq,QSd.eq,QSs.eq,QId.eq,QIf.eq,QOd.eq]at *
 exact zS 
theorem br{X:Cx}{e:O3}{te:TEd}(h:QEd X e te):QOd X (some e) (yE te):=by
 simp only[QEd.eq,QAd.eq,QTd.eq,QWd.eq,QSd.eq,QSs.eq,QId.eq,QIf.eq,QOd.eq]at *
 exact Aa (h:=h)
theorem C9{X:Cx}{e:O3}{te:TEd}{o:O3}{to:TEd}{iZ cu:Pos}(ho:QEd X o to) (he:QEd X e te) (ic:ae4 o "join" X.env (ab7 o X.env)=ab7 o X.env:=by rfl)
  (hse:F8 [e] X.env=(false,ab7 e X.env)::F8 [] X.env:=by rfl)
  (sU:((V4 cu (F8 [e] X.env)).all (fun x => !x.1) && (ar3 cu (ak3 [] X.env)).all (fun x => x.1.isSome)
  &&decide ([e].length+([]:List an9).length+(if([]:List an9).isEmpty then 0 else 1)<30))=true:=by rfl)
  (mm:(iZ.endLine==cu.line)=true:=by rfl) (jw:(V4 cu (F8 [] X.env)).any (·.1)=false:=by rfl):QEd X (.Call (.Attribute o "join" iZ) [e] [] cu) (Bm to te):=by
 simp only[QEd.eq]at *
 have hm:MtR X "str.join" (fun x xs H Q=>∃sep a vs ds ys M,x=.str sep/\xs=[.ref a]/\H a=some (.lst vs)/\ar X.K M H ds vs/\gM ds=some ys/\(ys.map (·.length)).sum+ys.length*sep.length<=16777216/\Q (.str (Txt.join sep ys)) H):=by
  intro af s σ H x xs v us Q I rx rv h;obtain⟨sep,a,vs,ds,ys,M,rfl,rfl,hH,rl,es,hz,q⟩:=h;obtain⟨t,rfl⟩:=rx;obtain⟨u,rfl,ru⟩:=aE.one rv;cases ru;obtain⟨its,r,pl,_⟩:=I.list (SqL.of hH);exact join_list pl.isList (by simpa using mU rl r es) hz fun t' k=>⟨.str _,H,I.tok _,⟨t',rfl⟩,q⟩
 refine(xp PySem.F.plainAttrs_str PySem.F.slot_str_join PySem.F.type_str_join hm ho (cB he gx hse) ic sU mm hse jw).conv fun σ H Q hh=>?_;obtain⟨Δ,M,R,sr,hr,q,k⟩:=hh;refine⟨Δ,M,_,sr,hr,q,fun o M1 ov H1 ⟨sep,eo,q1⟩ e1 hr1 ro=>?_⟩;subst eo;simp only[Rep]at ro;subst ro;refine⟨rfl,Δ,M1,_,sr.ext e1,hr1,q1,fun d M2 v H2 ⟨z,ez,q2⟩ e2 hr2 rv=>?_⟩;have rr:=rv.rd hr2;generalize rdM M2 d=d' at rr ez;cases d' with
 |lst ds =>
  obtain⟨a,vs,rfl,sq,rl⟩:=rr;simp only[uF]at ez;cases qs:gM ds with
  |none=>rw[qs]at ez;cases ez
  |some ys =>
   rw[qs]at ez;dsimp only at ez
   by_cases hz:(ys.map (·.length)).sum+ys.length*sep.length<=16777216
   ·rw[if_pos hz]at ez;cases ez;exact⟨sep,a,vs,ds,ys,M2,rfl,rfl,sq,rl,qs,hz,k _ M2 _ H2 q2 (e1.trans e2) hr2 (by simp[Rep])⟩
   ·rw[if_neg hz]at ez;cases ez
 |_=>cases ez
theorem qc{X:Cx}{e:O3}{es:List O3}{t:TAd}{pos:Pos}{p:Pos}{x:Str}{k:Nat}{n:Nat}{S:SpD}(F:FnD X.prog X.w X.K X.mg X.base x k n S) (hr:cC k X.A) (hg:Gl X x) (ha:QAd X (e::es) t) (hdb:(x==("__debug__":Str))=false:=by decide) (he:F8 (e::es) X.env=(false,ab7 e X.env)::F8 es X.env:=by rfl) (hpl:(V4 pos (F8 es X.env)).any (·.1)=false:=by rfl) :
  QEd X (.Call (.Name x p) (e::es) [] pos) (lM n S t):=by
 simp only[QEd.eq,QAd.eq,QTd.eq,QWd.eq,QSd.eq,QSs.eq,QId.eq,QIf.eq,QOd.eq]at *
 exact dc (F:=F) (hr:=hr) (hg:=hg) (ha:=ha) (hdb:=hdb) (he:=he) (hpl:=hpl)
theorem qcL{X:Cx}{e:O3}{es:List O3}{t:TAd}{pos:Pos}{p:Pos}{x:Str}{k:Nat}{n:Nat}{S:SpD}(F:FnD X.prog X.w X.K X.mg X.base x k n S) (hr:cC k X.A) (hg:Gl X x) (ha:QAd X (e::es) t) (hdb:(x==("__debug__":Str))=false:=by decide) (he:F8 (e::es) X.env=(false,ab7 e X.env)::F8 es X.env:=by rfl) (hpl:(V4 pos (F8 es X.env)).any (·.1)=false:=by rfl) :
  QEd X (.Call (.Name x p) (e::es) [] pos) (oV n S t):=by
 simp only[QEd.eq,QAd.eq,QTd.eq,QWd.eq,QSd.eq,QSs.eq,QId.eq,QIf.eq,QOd.eq]at *
 exact dcL (F:=F) (hr:=hr) (hg:=hg) (ha:=ha) (hdb:=hdb) (he:=he) (hpl:=hpl)
theorem Cr{X:Cx}{e:O3}{te:TEd}{pos:Pos}(he:QEd X e te):QSd X (.Return (some e) pos) (Be te):=by
 simp only[QEd.eq,QSd.eq]at *
 exact(sA he).conv fun D σ H hup=>hup.el fun Δ M E sr hr q k=>⟨Δ,M,_,sr,hr,q,fun d M1 v H1 ⟨a,ds,ed,em,q1⟩ e1 hr1 rv=>by
  subst ed;simp only[Rep]at rv;subst rv;exact k.rt _ _ _ H1 q1 (e1.trans (Ext.le LeM.del)) (hr1.le LeM.del) (Rep.froze hr1 LeM.del em iX)⟩
theorem aN{X:Cx}{te:TEd}{tg:O3}{iter:O3}(h:QEd X iter te):QId X tg iter (rG te):=by
 simp only[QEd.eq,QId.eq]at *
 intro af s σ H R I hh;obtain⟨Δ,M,R',sr,hr,q,k⟩:=hh;refine thn (h af s σ H (fun v H1=>∃d ds M1,jo d=some ds/\(ds.length<=I0->R' ds M1)/\Ext M H M1 H1/\HR X.K M1 H1/\Rep X.K M1 H1 d v) I ⟨Δ,M,_,sr,hr,q,fun d M1 v H1 ⟨ds,ed,q1⟩ e1 hr1 rv=>⟨d,ds,M1,ed,q1,e1,hr1,rv⟩⟩) fun u s1 ⟨v,H1,I1,r1,d,ds,M1,ed,q1,e1,hr1,rv⟩=>?_;have lo:=aY.len (K:=X.K) I1 rv;cases d with
 |tup es =>
  cases ed;simp only[Rep]at rv;obtain⟨a,vs,rfl,ta,rl⟩:=rv;cases r1;obtain⟨its,rvv,p,hz⟩:=I1.tuple ta.sq;refine wpAny_pyIter_tuple (show s1.heap.IsTuple a its.toArray from p) ?_;refine⟨s1.heap.objs.size,[s1.heap.objs.size],_,_,H1,rfl,I1.kept (t':=s1.toks) fun b o e=>F1 _ e,sD a _,⟨_,J6 _ rfl,rfl,rfl⟩,tM (o:=ae8) I1,?_⟩;refine k _ M1 _ H1 (q1 lo) e1 hr1 fun M2 H2 e2 hr2 i=>⟨fun d hd=>?_,fun hl=>⟨vs,(ta.ext e2).sq,by rw[<-rl.length];exact hl⟩⟩;obtain⟨v,gv,r⟩:=rl.get hd;refine⟨⟨vs,v,(ta.ext e2).sq,gv⟩,fun x H' ⟨eH,y⟩=>?_⟩;subst eH;have:=y vs (ta.ext e2).sq;rw[gv]at this;cases this;exact⟨Ext.refl _ _,hr2,r.ext e2⟩
 |lst es =>
  cases ed;simp only[Rep]at rv;obtain⟨a,vs,rfl,ta,rl⟩:=rv;cases r1;obtain⟨its,rvv,p,hz⟩:=I1.list (SqL.of ta.1);refine ak7 p.isList ?_;refine⟨s1.heap.objs.size,[s1.heap.objs.size],_,_,H1,rfl,I1.kept (t':=s1.toks) fun b o e=>F1 _ e,n8 a _,⟨_,J6 _ rfl,rfl,rfl⟩,tM (o:=ae8) I1,?_⟩;refine k _ M1 _ H1 (q1 lo) e1 hr1 fun M2 H2 e2 hr2 i=>⟨fun d hd=>?_,fun hl=>⟨vs,SqL.of (ta.ext e2).1,by rw[<-rl.length];exact hl⟩⟩;obtain⟨v,gv,r⟩:=rl.get hd;refine⟨⟨vs,v,SqL.of (ta.ext e2).1,gv⟩,fun x H' ⟨eH,y⟩=>?_⟩;subst eH;have:=y vs (SqL.of (ta.ext e2).1);rw[gv]at this;cases this;exact⟨Ext.refl _ _,hr2,r.ext e2⟩
 |scr es =>
  cases ed;simp only[Rep]at rv;obtain⟨a,vs,rfl,ta,rl⟩:=rv;cases r1;obtain⟨its,rvv,p,hz⟩:=I1.list ta.sq;refine ak7 p.isList ?_;refine⟨s1.heap.objs.size,[s1.heap.objs.size],_,_,H1,rfl,I1.kept (t':=s1.toks) fun b o e=>F1 _ e,n8 a _,⟨_,J6 _ rfl,rfl,rfl⟩,tM (o:=ae8) I1,?_⟩;refine k _ M1 _ H1 (q1 lo) e1 hr1 fun M2 H2 e2 hr2 i=>⟨fun d hd=>?_,fun hl=>⟨vs,(ta.ext e2).sq,by rw[<-rl.length];exact hl⟩⟩;obtain⟨v,gv,r⟩:=rl.get hd;refine⟨⟨vs,v,(ta.ext e2).sq,gv⟩,fun x H' ⟨eH,y⟩=>?_⟩;subst eH;have:=y vs (ta.ext e2).sq;rw[gv]at this;cases this;exact⟨Ext.refl _ _,hr2,r.ext e2⟩
 |str x =>
  simp only[jo]at ed
  by_cases hz:x.length<=I0
  ·rw[if_pos hz]at ed;cases ed;simp only[Rep]at rv;subst rv;obtain⟨t,rfl⟩:=r1;have hq:=k _ M1 _ H1 (q1 (by have hz2:x.cps.size<=I0:=hz;simpa[bJ]using hz2)) e1 hr1 Cc;cases ha:x.cps.all (·<128)
   ·exact wpAny_pyIter_wide ha (uB I1 "str_iterator" (by decide) (fun A hA=>at6.strWide hA _ x t) (fun A i s' Q E st q=>wpAny_pyIter_striter_wide st q) hq)
   ·exact wpAny_pyIter_ascii ha (uB I1 "str_ascii_iterator" (by decide) (fun A hA=>at6.strAscii hA _ x t) (fun A i s' Q E st q=>wpAny_pyIter_striter_ascii st q) hq)
  ·rw[if_neg hz]at ed;cases ed
 |_=>cases ed
theorem jr{X:Cx}{e:O3}{te:TEd}{pos:Pos}(he:QEd X e te):QSd X (.Return (some e) pos) (Bp te):=by
 simp only[QEd.eq,QSd.eq]at *
 exact(sA he).conv fun D σ H hup=>hup.el fun Δ M E sr hr q k=>⟨Δ,M,_,sr,hr,q,fun d M1 v H1 ⟨M2,hle,q1⟩ e1 hr1 rv =>
  k.rt _ _ _ H1 q1 (e1.trans (Ext.le hle)) (hr1.le hle) (rv.ext (Ext.le hle))⟩
theorem aU{X:Cx}{e:O3}{te:TEd}{pos:Pos}{lo hi:Option O3}{tl th:TOd}{p2:Pos}(he:QEd X e te) (hl:QOd X lo tl) (hu:QOd X hi th):QEd X (.Subscript e (.Slice lo hi none p2) pos) (Dz te tl th):=by
 simp only[QEd.eq,QOd.eq]at *
 refine(w9 (SlR.or zt (SlR.or Dj (SlR.or BM w6))) he hl hu).conv fun σ H Q hh=>?_;obtain⟨Δ,M,R,sr,hr,q,k⟩:=hh;refine⟨Δ,M,_,sr,hr,q,fun x M1 v H1 q1 e1 hr1 rv=>⟨Δ,M1,_,sr.ext e1,hr1,q1,fun l M2 H2 q2 e2 hr2=>⟨Δ,M2,_,(sr.ext e1).ext e2,hr2,q2,fun u M3 H3 ⟨z,ez,q3⟩ e3 hr3=>?_⟩⟩⟩;have rr:=((rv.ext e2).ext e3).rd hr3;have ee:=(e1.trans e2).trans e3;have kk:∀w H',Ext M3 H3 M3 H'->HR X.K M3 H'->Rep X.K M3 H' z w->Q w H':=fun w H' e4 hr4 r4=>k z M3 w H' q3 (ee.trans e4) hr4 r4;generalize rdM M3 x=d at rr ez;cases d with
 |lst ds =>
  cases ez;obtain⟨a,vs,rfl,sq,rl⟩:=rr;refine .inl ⟨a,vs,rfl,SqL.of sq,fun p hp=>iJ hr3 hp ?_ kk⟩;unfold eJ o3;rw[<-rl.length];exact(rl.drop _).take _
 |scr ds =>
  cases ez;obtain⟨a,vs,rfl,sq,rl⟩:=rr;refine .inl ⟨a,vs,rfl,sq,fun p hp=>iJ hr3 hp ?_ kk⟩;unfold eJ o3;rw[<-rl.length];exact(rl.drop _).take _
 |str s =>
  simp only[slE,slD]at ez
  by_cases hz:s.length<=I0
  ·rw[if_pos hz]at ez;cases ez;exact .inr (.inr (.inl ⟨s,nL rr,hz,kk _ H3 (Ext.refl _ _) hr3 (by simp[Rep])⟩))
  ·rw[if_neg hz]at ez;cases ez
 |tup ds =>
  cases ez;have rt:=aY.tup hr3 rr;obtain⟨a,vs,rfl,sq,rl⟩:=rr
  by_cases hw:HT.sIx ds.length 0 l=0/\HT.sIx ds.length ds.length u=ds.length
  ·refine .inr (.inr (.inr ⟨a,vs,rfl,sq,by rw[<-rl.length];exact hw,kk _ H3 (Ext.refl _ _) hr3 ?_⟩));rw[tu hw];exact rt
  ·refine .inr (.inl ⟨a,vs,rfl,sq,by rw[<-rl.length];exact hw,fun p hp=>lQ hr3 hp ?_ kk⟩);unfold eJ o3;rw[<-rl.length];exact(rl.drop _).take _
 |_=>cases ez
theorem yX{X:Cx}{e:O3}{te:TEd}{ts:TEd}{pos:Pos}{st:O3}{p2:Pos}(he:QEd X e te) (hs:QEd X st ts):QEd X (.Subscript e (.Slice none none (some st) p2) pos) (yj te ts):=by
 simp only[QEd.eq]at *
 intro af s σ H Q I hh;obtain⟨Δ,M,R,sr,hr,q,k⟩:=hh;refine Subscript_ (thn (he af s σ H (fun v H1=>∃x M1,Rep X.K M1 H1 x v/\Ext M H M1 H1/\HR X.K M1 H1/\ts Δ M1 fun st M2=>st=.int (-1)/\∃ds,x=.tup ds/\R (.tup ds.reverse) M2) I
  ⟨Δ,M,_,sr,hr,q,fun x M1 v H1 q1 e1 hr1 rv=>⟨x,M1,rv,e1,hr1,q1⟩⟩) fun v s1 ⟨vx,H1,I1,r1,x,M1,rv,e1,hr1,q1⟩=>?_)
 refine wpAny_Slice ?_;rw[evalPart_none];refine u8 (u8 ?_);rw[evalPart_some];refine thn (hs af s1 σ H1 (fun u H2=>∃M2 ds,u=.int (-1)/\x=.tup ds/\R (.tup ds.reverse) M2/\Ext M1 H1 M2 H2/\HR X.K M2 H2) I1 ⟨Δ,M1,_,sr.ext e1,hr1,q1,fun d M2 u H2 ⟨ed,ds,ex,q2⟩ e2 hr2 ru=>⟨M2,ds,by subst ed;simpa only[Rep]using ru,ex,q2,e2,hr2⟩⟩) fun u s2 ⟨vu,H2,I2,r2,M2,ds,eu,ex,q2,e2,hr2⟩=>?_;subst eu;subst ex;obtain⟨tk,rfl⟩:=r2;have rv2:=rv.ext e2;simp only[Rep]at rv2;obtain⟨ad,vs,rfl,ta,rl⟩:=rv2;cases r1;have I4:Inv X af σ H2 { s2 with heap:=s2.heap.push { cls:=.type "slice",data:=.fields #[.none,.none,.int (-1) tk] } }:=I2.kept (t':=s2.toks) fun b ob q=>F1 _ q;obtain⟨its,r,ht,hz⟩:=I4.tuple ta.sq;have hl:=r.length;refine tail_any (ops:=[.ref ad,.ref s2.heap.objs.size]) ht.typeIs P1.lookup (HT.getItem_tuple_rev ht (K5.IsSliceOf.new ..) ?_ (by rw[J0,<-hl];exact hz)) (by with_unfolding_all rfl);have rr:aE vs.reverse its.reverse:=aE.reverse r;refine⟨.ref _,_,I4.laid (t':=s2.toks) (o:=.tup vs.reverse) (fun b ob q=>F1 _ q) (F7 _) ?_,rfl,?_⟩
 ·exact⟨by simpa using hz,_,rr,lF.new _ _⟩
 ·exact lQ (ds:=ds.reverse) hr2 (I4.hok.fresh (F7 _)) rl.reverse fun w H' e4 hr4 r4=>k _ M2 w H' q2 ((e1.trans e2).trans e4) hr4 r4
theorem zq{X:Cx}{st:aa1}:QSd X st yi:=by
 simp only[QSd.eq]at *
 exact fun af s σ H D I ⟨_,_,_,_,_,q,_⟩=>U1 q
theorem lT{X:Cx}{pos:Pos}:QEd X (.Dict [] [] pos) D7:=by
 simp only[QEd.eq]at *
 exact fun af s σ H Q I ⟨Δ,M,R,sr,hr,q,k⟩=>by
  have hp:=I.hok.fresh (F7 _);refine wpAny_Dict_empty ⟨.ref s.heap.objs.size,_,I.laid (a:=s.heap.objs.size) (o:=.dK []) (t':=s.toks) (fun _ _ q=>F1 _ q) (F7 _) (wo s.heap (zu I)),rfl,?_⟩;refine k _ M _ _ q (Ext.new hr hp) (hr.new hp) ?_;simp only[Rep];exact⟨_,rfl,bh,hr.fresh hp⟩
theorem xF{X:Cx}{pos:Pos}{scope:af8}{cl:List (Str×F9)}{ms:List Bool}{ao:List Str}{ifs:List O3}{tg:O3}{iter:O3}{elt:O3}{i:Nat}{x:Str}{spos pos':Pos}{wi:TId}{g:GD}{tc:TTd}{te:TEd}(hN:X.N.Nodup) (hix:X.N[i]?=some x) (hx:X.env.scope.names.lookup x=some .local)
  (hsw:ah9 (.ListComp elt [⟨tg,iter,ifs,0⟩] scope pos) (some (.Name x pos')) spos.line X.env=af5 true) (S:fo X scope cl ms ao) (eQ:X.calm=true) (hi:QId X tg iter wi) (hg:PGa X scope cl ao tg g)
  (hif:∀C s H ex,QIf (aH X scope cl (X.N++ao) C s H ex) ifs tc) (he:∀C s H ex,QEd (aH X scope cl (X.N++ao) C s H ex) elt te)
  (hs:∀x,Q0 iter X.env x=af5 x:=by intro _;rfl):QSd X (.Assign [.Name x pos'] (.ListComp elt [⟨tg,iter,ifs,0⟩] scope pos) spos) (qj i (Cy ms ao.length wi g tc te)):=by
 simp only[QEd.eq,QSd.eq,QId.eq,QIf.eq]at *
 obtain⟨gv,pg,kg⟩:=hg;refine(iW (tc:=upT X.K tc) hN hix hx hsw S eQ hi pg hif (sV (te:=up X.K te) he) hs).conv fun D σ H hh=>?_;obtain⟨Δ,M,E,sr,hr,q,k⟩:=hh;exact wu kg σ H _ ⟨Δ,M,_,sr,hr,q,fun d M1 v H1 q1 e1 hr1 rv=>k.nx _ M1 _ H1 q1 e1 hr1 ((sr.ext e1).set i rv)⟩
section
variable{X:Cx}{rest:List aa1}{t:TSd}{e:O3}{tt:TTd}
theorem z7(h:QSs X rest t):Ap X rest t:=by
 rw[QSs.eq]at h;exact h
theorem mE(h:QWd X e tt):QTd X e tt:=by
 simp only[QWd.eq,QTd.eq]at *
 exact PWd.pt h
end
end L2
namespace L2
open PySem PySem.Spec PyProof.Rows PySem.Builtin.Str
end L2
namespace L2
open PySem PySem.Spec PyProof.Rows
def Few(n:Int):Prop:=K7.Int.intBits n<=2 ^ 20
end L2
namespace Att
open PySem PySem.W PySem.Calls PyProof.Rows
end Att
namespace L2
open PySem PySem.Spec PyProof.Rows
section
variable{X:Cx}{pos:Pos}
def Bw(i j:Int):Prop:=kF i j∨(Few i/\Few j)
theorem Bw.ok{i j:Int}(h:Bw i j):IntMulOk i j:=by
 rcases h with h|⟨a,b⟩
 ·exact h.ok
 ·exact .of_bits a b
def dmD:List D->Option D
 |[.int i,.int j]=>if pM i j then some (.tup [.int (i / j),.int (i % j)])else none
 |_=>none
noncomputable def FO:List D->Option D
 |[.int i,.int j]=>some (.int (if j > i then j else i))
 |_=>none
end
open AutoSeq1 (wpAny_loadPart')
section
variable{prog:K6}{w:Q7}{A:N6}{E:s0->F2->Prop}{s:F2}
end
section
variable{X:Cx}{pos:Pos}
theorem B1{i j:Int}:dmD [.int i,.int j]=if pM i j then some (.tup [.int (i / j),.int (i % j)])else none:=rfl
theorem zO{i j:Int}:FO [.int i,.int j]=some (.int (if j > i then j else i)):=rfl
theorem yA:qF 10 60=True:=by simp[qF]
end
section
variable{X:Cx}{e:O3}{te ts:TEd}{pos:Pos}
end
section
variable{κ:Type} [DecidableEq κ]
noncomputable def tN(kvs:List (κ×D)) (k:κ):Option D:=(kvs.find? fun kv=>decide (kv.1=k)).map (·.2)
noncomputable def EZ(kvs:List (κ×D)) (k:κ) (v:D):List (κ×D) :=
 if(kvs.any fun kv=>decide (kv.1=k))=true then kvs.map (fun kv=>if kv.1=k then(kv.1,v)else kv)else kvs++[(k,v)]
theorem yl{p:κ×D}{r:List (κ×D)}{k:κ}(e:p.1=k):tN (p::r) k=some p.2:=by simp[tN,ab3,e]
theorem wU{p:κ×D}{r:List (κ×D)}{k:κ}(e:¬ p.1=k):tN (p::r) k=tN r k:=by simp[tN,ab3,e]
variable{K:F0}{M:DH}{H:Hp}
theorem KR.val{kvs:List (κ×D)}{ks:List (κ×V)}(h:KR K M H kvs ks) (k:κ):(∀d,tN kvs k=some d->∃v,qX ks k=some v/\Rep K M H d v)/\(qX ks k).isSome=(tN kvs k).isSome:=by
 unfold KR at h
 induction h with
 |nil=>exact⟨fun d e=>(nomatch e),rfl⟩
 |@cons p q ps qs r t ih =>
  by_cases e:p.1=k
  ·rw[yl e,qQ (r.1.symm.trans e)];exact⟨fun d z=>(by cases z;exact⟨_,rfl,r.2⟩),rfl⟩
  ·rw[wU e,rS (fun z=>e (r.1.trans z))];exact ih
theorem KR.any{kvs:List (κ×D)}{ks:List (κ×V)}(h:KR K M H kvs ks) (k:κ):(ks.any fun kv=>decide (kv.1=k))=kvs.any fun kv=>decide (kv.1=k):=by
 unfold KR at h
 induction h with
 |nil=>rfl
 |cons r _ ih=>rw[ac4,ac4,ih,r.1]
theorem KR.length{kvs:List (κ×D)}{ks:List (κ×V)}(h:KR K M H kvs ks):kvs.length=ks.length:=ae0.length h
theorem KR.put{kvs:List (κ×D)}{ks:List (κ×V)}(h:KR K M H kvs ks) (k:κ) {d:D}{v:V}(r:Rep K M H d v):KR K M H (EZ kvs k d) (zE ks k v):=by
 unfold EZ zE;rw[h.any k]
 by_cases e:(kvs.any fun kv=>decide (kv.1=k))=true
 ·rw[if_pos e,if_pos e];clear e;unfold KR at h ⊢
  induction h with
  |nil=>exact .nil
  |@cons p q ps qs r1 t ih =>
   rw[N8,N8];refine .cons ?_ ih
   by_cases e:p.1=k
   ·rw[if_pos e,if_pos (r1.1.symm.trans e)];exact⟨r1.1,r⟩
   ·rw[if_neg e,if_neg (fun z=>e (r1.1.trans z))];exact r1
 ·rw[if_neg e,if_neg e];exact ae0.snoc h ⟨rfl,r⟩
end
def kD:Key->D
 |.inl i=>.int i
 |.inr x=>.str x
section
variable{X:Cx}{a b c e o i:O3}{es:List O3}{te to ti ta tb:TEd}{t:TAd}{pos:Pos}
end
section
variable{X:Cx}{a b c e o:O3}{es:List O3}{te to:TEd}{t:TAd}{pos:Pos}{tg:O3}
noncomputable def FK:List D->Option D
 |[.int i,.int j]=>some (.int (if j<i then j else i))
 |_=>none
end
section
variable{X:Cx}{tg iter elt:O3}{pos:Pos}{scope:af8}{cl:List (Str×F9)}{ms:List Bool}{ao:List Str}{ifs:List O3}
end
end L2
namespace L2
open PySem PySem.W PyProof.Rows
section
variable{α β:Type}
def tw(n:Nat) (lt:Nat->Nat->Bool):KasT α->(α->Prop)->Prop
 |.ret a,Q=>Q a
 |.ask i j k,Q=>i<n/\j<n/\tw n lt (k (lt i j)) Q
theorem iR{n:Nat}{lt:Nat->Nat->Bool}{f:α->KasT β}{Q:β->Prop}:∀{t:KasT α},tw n lt t (fun a=>tw n lt (f a) Q)->tw n lt (t.bind f) Q
 |.ret _,h=>h
 |.ask _ _ _,h=>⟨h.1,h.2.1,iR h.2.2⟩
theorem xE{n:Nat}{lt:Nat->Nat->Bool}{cmp:Nat->Nat->(Bool->F2->Prop)->F2->Prop}{J:F2->Prop}(hc:∀i j C s,i<n->j<n->J s->(∀s',J s'->C (lt i j) s')->cmp i j C s) {Q:α->Prop}{G:α->F2->Prop}(hG:∀a s,J s->Q a->G a s) :
  ∀{t:KasT α} {s:F2},tw n lt t Q->J s->t.kasWp cmp G s
 |.ret _,s,h,hj=>hG _ s hj h
 |.ask i j k,s,h,hj=>hc i j _ s h.1 h.2.1 hj fun s' hj'=>xE hc hG h.2.2 hj'
variable{O:ae1}{key:Nat->O.α}{n:Nat}
def fm(O:ae1) (key:Nat->O.α) (i j:Nat):Bool:=O.blt (key i) (key j)
def Bg(O:ae1) (key:Nat->O.α):KeyKind:={ O with keyOf:=fun v=>match v with|.int i _=>some (key i.toNat)|_=>none,dflt:=key 0 }
def nJ(p:Array Nat):Array Keyed:=p.map fun(i:Nat)=>((at5 (i:Int) 0,L8):Keyed)
noncomputable def kp(O:ae1) (key:Nat->O.α) (p:Array Nat) (i:Nat):O.α:=key (p.getD i 0)
theorem mJ{p:Array Nat}{i:Nat}(h:i<p.size):KK (Bg O key) (nJ p) i=kp O key p i:=by
 unfold KK kp nJ;rw[Array.getElem?_map,K9 h];simp[Bg,X8,h]
theorem Ai{p:Array Nat}{i j:Nat}:nJ (kas_rev p i j)=mirror (nJ p) i j ((j-i) / 2):=by
 unfold nJ kas_rev mirror;exact(kas_swaps_map _ _ _ _ _).symm
theorem As{p:Array Nat}{k d:Nat}:nJ (bubble p k d)=bubble (nJ p) k d:=by
 unfold nJ bubble;exact(kas_swaps_map _ _ _ _ _).symm
theorem rn{p:Array Nat}:(nJ p).size=p.size:=by simp[nJ]
theorem xJ{p:Array Nat}{i j:Nat}:(kas_rev p i j).size=p.size:=mirror_size _ _ _ _
theorem tv{p:Array Nat}{i j k:Nat}(hj:j<=p.size) (hk:k<p.size):kp O key (kas_rev p i j) k=if i<=k/\k<j then kp O key p (i+j-1-k)else kp O key p k:=by
 rw[<-mJ (by rw[xJ];exact hk),Ai,KK_mirror (by rw[rn];exact hj)]
 by_cases h:i<=k/\k<j
 ·rw[if_pos h,if_pos h,mJ (by lia)]
 ·rw[if_neg h,if_neg h,mJ hk]
theorem yM{p:Array Nat}{src d k:Nat}(hs:src<p.size) (hd:d<=src) (hk:k<p.size):kp O key (bubble p src d) k=if k=src-d then kp O key p src else if src-d<k/\k<=src then kp O key p (k-1)else kp O key p k:=by
 rw[<-mJ (by rw[bubble_size];exact hk),As,KK_bubble (by rw[rn];exact hs) hd]
 by_cases h1:k=src-d
 ·rw[if_pos h1,if_pos h1,mJ hs]
 ·rw[if_neg h1,if_neg h1]
  by_cases h2:src-d<k/\k<=src
  ·rw[if_pos h2,if_pos h2,mJ (by lia)]
  ·rw[if_neg h2,if_neg h2,mJ hk]
def cQ(n:Nat) (p:Array Nat):Prop:=p.toList.Perm (P0 n)
theorem cQ.size{p:Array Nat}(h:cQ n p):p.size=n:=by
 have:=h.length_eq;simpa using this
theorem cQ.lt{p:Array Nat}(h:cQ n p) {i:Nat}(hi:i<n):p.getD i 0<n:=by
 have hs:=h.size;have e:p.getD i 0=p.toList[i]'(by simp;lia):=by simp[X8,show i<p.size by lia]
 rw[e];exact R0.mp (h.mem_iff.mp (R6 _))
theorem cQ.rev{p:Array Nat}(h:cQ n p) (i j:Nat):cQ n (kas_rev p i j):=(Array.perm_iff_toList_perm.mp (mirror_perm p i j _)).trans h
theorem cQ.bub{p:Array Nat}(h:cQ n p) (i j:Nat):cQ n (bubble p i j):=(Array.perm_iff_toList_perm.mp (bubble_perm p i j)).trans h
def dP(O:ae1) (key:Nat->O.α) (p:Array Nat) (k:Nat):Prop:=∀i j,i<=j->j<k->O.kle (kp O key p i) (kp O key p j)
def jf(O:ae1) (key:Nat->O.α) (p:Array Nat) (k:Nat):Prop:=∀i j,i<=j->j<k->O.kle (kp O key p j) (kp O key p i)
theorem dP.more{p:Array Nat}{x:Nat}(h:dP O key p x) (hx:1<=x) (le:O.kle (kp O key p (x-1)) (kp O key p x)):dP O key p (x+1):=fun i j hij hj=>by
 rcases R3 j x with h1|h1
 ·exact h i j hij h1
 ·obtain rfl:j=x:=by lia
  rcases R3 i j with h2|h2
  ·exact am7 (h i (j-1) (by lia) (by lia)) le
  ·obtain rfl:i=j:=by lia
   exact ad8 _
theorem jf.more{p:Array Nat}{x:Nat}(h:jf O key p x) (hx:1<=x) (le:O.kle (kp O key p x) (kp O key p (x-1))):jf O key p (x+1):=fun i j hij hj=>by
 rcases R3 j x with h1|h1
 ·exact h i j hij h1
 ·obtain rfl:j=x:=by lia
  rcases R3 i j with h2|h2
  ·exact am7 le (h i (j-1) (by lia) (by lia))
  ·obtain rfl:i=j:=by lia
   exact ad8 _
theorem sS{p:Array Nat}(hp:cQ n p):∀{f a:Nat}{Q:Nat->Prop},1<=a->a+f<=n->dP O key p a ->
  (∀m,a<=m->m<=a+f->dP O key p m->(m=a+f∨O.klt (kp O key p m) (kp O key p (m-1)))->Q m)->tw n (fm O key) (kas_asc p f a) Q
 |0,a,Q,h1,h2,hs,k=>k a (F7 _) (F7 _) hs (.inl rfl)
 |f+1,a,Q,h1,h2,hs,k=>by
  refine⟨hp.lt (by lia),hp.lt (by lia),?_⟩;cases q:fm O key (p.getD a 0) (p.getD (a-1) 0)with
  |true=>exact k a (F7 _) (by lia) hs (.inr q)
  |false=>exact sS hp (by lia) (by lia) (hs.more h1 q) fun m m1 m2 ms mo=>k m (by lia) (by lia) ms (mo.imp (fun e=>by lia) id)
theorem jU{p:Array Nat}{i j:Nat}(hj:j<=p.size) (he:∀k,i<=k->k<j->kp O key p k=kp O key p (j-1)) {k:Nat}(hk:k<p.size):kp O key (kas_rev p i j) k=kp O key p k:=by
 rw[tv hj hk]
 by_cases h:i<=k/\k<j
 ·rw[if_pos h,he _ (by lia) (by lia),he k h.1 h.2]
 ·rw[if_neg h]
theorem lH:∀{f:Nat}{p:Array Nat}{x q:Nat}{Q:Array Nat×Nat×Nat->Prop},cQ n p->1<=x->x+f<=n->jf O key p x->q+1<=x->(∀i,x-(q+1)<=i->i<x->kp O key p i=kp O key p (x-1)) ->
  (∀p' m q',cQ n p'->1<=m->m<=x+f->jf O key p' m->q'+1<=m->(∀i,m-(q'+1)<=i->i<m->kp O key p' i=kp O key p' (m-1))->Q (p',m,q'))->tw n (fm O key) (kas_desc f p x q) Q
 |0,p,x,q,Q,hp,h1,h2,hs,hq,he,k=>k p x q hp h1 (F7 _) hs hq he
 |f+1,p,x,q,Q,hp,h1,h2,hs,hq,he,k=>by
  have hz:=hp.size;refine⟨hp.lt (by lia),hp.lt (by lia),?_⟩;cases c:fm O key (p.getD x 0) (p.getD (x-1) 0)with
  |true =>
   have lt:O.klt (kp O key p x) (kp O key p (x-1)):=c;simp only[if_true]
   by_cases h0:q > 0
   ·rw[if_pos h0];have same:∀{i},i<n->kp O key (kas_rev p (x-(q+1)) x) i=kp O key p i:=fun hi=>jU (by lia) he (by lia);refine lH (hp.rev _ _) (by lia) (by lia) ?_ (by lia) (fun i i1 i2=>by obtain rfl:i=x:=(by lia);rfl) fun p' m q' a b c' d e g=>k p' m q' a b (by lia) d e g;refine jf.more (fun i j hij hj=>?_) h1 ?_
    ·rw[same (by lia),same (by lia)];exact hs i j hij hj
    ·rw[same (by lia),same (by lia)];exact ah2 lt
   ·rw[if_neg h0];exact lH hp (by lia) (by lia) (hs.more h1 (ah2 lt)) (by lia) (fun i i1 i2=>by obtain rfl:i=x:=(by lia);rfl) fun p' m q' a b c' d e g=>k p' m q' a b (by lia) d e g
  |false =>
   simp only[F6,if_false];refine⟨hp.lt (by lia),hp.lt (by lia),?_⟩;cases c2:fm O key (p.getD (x-1) 0) (p.getD x 0)with
   |true=>exact k p x q hp h1 (by lia) hs hq he
   |false =>
    simp only[F6,if_false];have eq:kp O key p x=kp O key p (x-1):=O.total _ _ c c2;refine lH hp (by lia) (by lia) (hs.more h1 c2) (by lia) (fun i i1 i2=>?_) fun p' m q' a b c' d e g=>k p' m q' a b (by lia) d e g;rw[show x+1-1=x by lia];rcases R3 i x with h|h
    ·rw[eq];exact he i (by lia) h
    ·obtain rfl:i=x:=by lia
     rfl
theorem uq{p:Array Nat}{m nrem:Nat}{Q:Nat×Array Nat->Prop}(hp:cQ n p) (h1:1<=m) (h2:m<=nrem) (h3:nrem<=n) (hs:jf O key p m)
  (k:∀m' p',cQ n p'->1<=m'->m'<=nrem->dP O key p' m'->Q (m',p')):tw n (fm O key) (kas_tail3 m nrem p) Q:=by
 have hz:=hp.size;unfold kas_tail3;refine iR (sS (hp.rev 0 m) h1 (by lia) (fun i j hij hj=>?_) fun m' a b c _=>k m' _ (hp.rev 0 m) (by lia) (by lia) c);rw[tv (by lia) (by lia),tv (by lia) (by lia),if_pos ⟨by lia,by lia⟩,if_pos ⟨by lia,by lia⟩];exact hs _ _ (by lia) (by lia)
theorem lg{p:Array Nat}{m nrem:Nat}{Q:Nat×Array Nat->Prop}(hp:cQ n p) (h2:m+1<=nrem) (h3:nrem<=n) (hs:jf O key p (m+1))
  (k:∀m' p',cQ n p'->1<=m'->m'<=nrem->dP O key p' m'->Q (m',p')):tw n (fm O key) (kas_descPart m nrem p) Q:=by
 unfold kas_descPart;refine iR (lH hp (by lia) (by lia) hs (by lia) (fun i i1 i2=>by obtain rfl:i=m:=(by lia);rfl) fun p' x q' hp' x1 x2 hs' hq he=>?_);have hz:=hp'.size;dsimp only
 by_cases h0:q' > 0
 ·rw[if_pos h0];refine uq (hp'.rev _ _) x1 (by lia) h3 (fun i j hij hj=>?_) k;rw[jU (by lia) he (by lia),jU (by lia) he (by lia)];exact hs' i j hij hj
 ·rw[if_neg h0];exact uq hp' x1 (by lia) h3 hs' k
theorem yf{p:Array Nat}{nrem:Nat}{Q:Nat×Array Nat->Prop}(hp:cQ n p) (h1:1<=nrem) (h3:nrem<=n)
  (k:∀m' p',cQ n p'->1<=m'->m'<=nrem->dP O key p' m'->Q (m',p')):tw n (fm O key) (kas_count nrem p) Q:=by
 have hz:=hp.size;unfold kas_count;refine iR (sS hp (F7 1) (by lia) (fun i j hij hj=>by obtain rfl:i=j:=(by lia);exact ad8 _) fun m m1 m2 ms mo=>?_)
 by_cases e:m=nrem
 ·rw[if_pos (by simpa using e)];exact k m p hp m1 (by lia) ms
 ·rw[if_neg (by simpa using e)];have lt:O.klt (kp O key p m) (kp O key p (m-1)):=mo.resolve_left (by lia)
  by_cases g:m > 1
  ·rw[if_pos g];refine⟨hp.lt (by lia),hp.lt (by lia),?_⟩;cases c:fm O key (p.getD 0 0) (p.getD (m-1) 0)with
   |true=>exact k m p hp m1 (by lia) ms
   |false =>
    simp only[F6,if_false];have like:∀i,0<=i->i<m->kp O key p i=kp O key p (m-1):=fun i _ hi =>
     ae1.kle_antisymm (ms i (m-1) (by lia) (by lia)) (am7 (show O.kle (kp O key p (m-1)) (kp O key p 0)from c) (ms 0 i (by lia) hi))
    have same:∀{i},i<n->kp O key (kas_rev p 0 m) i=kp O key p i:=fun hi=>jU (by lia) like (by lia);refine lg (hp.rev _ _) (by lia) h3 (jf.more (fun i j hij hj=>?_) m1 ?_) k
    ·rw[same (by lia),same (by lia),like i (by lia) (by lia),like j (by lia) hj];exact ad8 _
    ·rw[same (by lia),same (by lia)];exact ah2 lt
  ·rw[if_neg g];obtain rfl:m=1:=by lia
   refine lg hp (by lia) h3 (jf.more (fun i j hij hj=>by obtain rfl:i=j:=(by lia);exact ad8 _) (F7 1) (ah2 lt)) k
theorem mx{p:Array Nat}(hp:cQ n p) {x:Nat}(hx:x<n) (hs:dP O key p x):∀{f l r:Nat}{Q:Nat->Prop},l<=r->r<=x->r-l<=f ->
  (∀i,i<l->O.kle (kp O key p i) (kp O key p x))->(∀i,r<=i->i<x->O.klt (kp O key p x) (kp O key p i)) ->
  (∀l',l'<=x->(∀i,i<l'->O.kle (kp O key p i) (kp O key p x))->(∀i,l'<=i->i<x->O.klt (kp O key p x) (kp O key p i))->Q l')->tw n (fm O key) (kas_place p x f l r) Q
 |0,l,r,Q,h1,h2,h3,a,b,k=>by
  obtain rfl:l=r:=by lia
  exact k l h2 a b
 |f+1,l,r,Q,h1,h2,h3,a,b,k=>by
  unfold kas_place
  by_cases g:l>=r
  ·rw[if_pos g];obtain rfl:l=r:=by lia
   exact k l h2 a b
  ·rw[if_neg g];refine⟨hp.lt hx,hp.lt (by lia),?_⟩;cases c:fm O key (p.getD x 0) (p.getD ((l+r) / 2) 0)with
   |true =>
    simp only[if_true];exact mx hp hx hs (by lia) (by lia) (by lia) a (fun i i1 i2=>ae1.klt_of_klt_of_kle (show O.klt (kp O key p x) (kp O key p ((l+r) / 2))from c) (hs _ _ i1 i2)) k
   |false =>
    simp only[F6,if_false];exact mx hp hx hs (by lia) (by lia) (by lia) (fun i hi=>am7 (hs i ((l+r) / 2) (by lia) (by lia)) (show O.kle (kp O key p ((l+r) / 2)) (kp O key p x)from c)) b k
theorem wN:∀{f:Nat}{p:Array Nat}{x:Nat}{Q:Array Nat->Prop},cQ n p->1<=x->x+f<=n->dP O key p x->(∀p',cQ n p'->dP O key p' (x+f)->Q p')->tw n (fm O key) (kas_bin f p x) Q
 |0,p,x,Q,hp,_,_,hs,k=>k p hp hs
 |f+1,p,x,Q,hp,h1,h2,hs,k=>by
  have hz:=hp.size;refine iR (mx hp (by lia) hs (Q5 _) (F7 _) (by lia) (fun i hi=>by lia) (fun i a b=>by lia) fun l hl lo hi=>?_);refine wN (hp.bub _ _) (by lia) (by lia) (fun i j hij hj=>?_) fun p' a b=>k p' a (by rw[show x+(f+1)=x+1+f by lia];exact b);rw[yM (by lia) (by lia) (by lia),yM (by lia) (by lia) (by lia),show x-(x-l)=l by lia]
  by_cases a1:i=l
  ·rw[if_pos a1]
   by_cases b1:j=l
   ·rw[if_pos b1];exact ad8 _
   ·rw[if_neg b1,if_pos (by lia)];exact ah2 (hi _ (by lia) (by lia))
  ·rw[if_neg a1]
   by_cases a2:l<i/\i<=x
   ·rw[if_pos a2,if_neg (by lia),if_pos (by lia)];exact hs _ _ (by lia) (by lia)
   ·rw[if_neg a2]
    by_cases b1:j=l
    ·rw[if_pos b1];exact lo _ (by lia)
    ·rw[if_neg b1]
     by_cases b2:l<j/\j<=x
     ·rw[if_pos b2];exact hs _ _ (by lia) (by lia)
     ·rw[if_neg b2];exact hs _ _ hij (by lia)
theorem zR(h:1<=n) {Q:Array Nat->Prop}(k:∀p,cQ n p->dP O key p n->Q p):tw n (fm O key) (kas_sort n) Q:=by
 have h0:cQ n (List.toArray (P0 n)):=ap7.refl _;unfold kas_sort;refine iR (yf h0 h (F7 _) fun m p hp m1 m2 ms=>?_);dsimp only
 by_cases g:m<n
 ·rw[if_pos g];have e:max m 1=m:=by lia
  rw[e];exact wN hp m1 (by lia) ms fun p' a b=>k p' a (by rwa [show m+(n-m)=n by lia]at b)
 ·rw[if_neg g];obtain rfl:m=n:=by lia
  exact k p hp ms
end
end L2
namespace L2
open PySem PySem.W PySem.Calls PyProof.Rows
section
variable{prog:K6}{w:Q7}{A:N6}{E:s0->F2->Prop}{O:ae1}
def j7(vs:List s0) (p:Array Nat):List s0:=p.toList.map fun i=>vs.getD i L8
theorem kr{vs:List s0}{p:Array Nat}(h:cQ vs.length p):(j7 vs p).length=vs.length:=by
 unfold j7;rw[F3,K3];exact h.size
def xg(x:F9) (s t:F2):Prop:=∀b o,b≠x->s.heap.get? b=some o->t.heap.get? b=some o
theorem Dm{s:F2}{x:F9}{vs:List s0}{n:Nat}{key:Nat->O.α}{κ:SortKind}{P:PySem.Fin->F2->Prop}(hx:s.heap.get? x=some (ar5 "list" vs.toArray n)) (hz:vs.length<64)
  (hk:∀s1 Q,2<=vs.length->xg x s s1->Q κ s1->J4 (M0 prog w) A (keyKind' vs.toArray) Q (fun _ _=>False) s1)
  (hc:∀i j s1 C,i<vs.length->j<vs.length->xg x s s1->C (fm O key i j) s1->kas_ask prog w A κ vs i j C s1)
  (k:∀p c h',cQ vs.length p->dP O key p vs.length->(∀b o,b≠x->s.heap.get? b=some o->h'.get? b=some o)->h'.get? x=some (ar5 "list" (j7 vs p).toArray c)->P (.done (.ret .none)) { s with heap:=h' }) :
  J4 (M0 prog w) A (K7.«list.sort» ⟨[.ref x],[]⟩) P E s:=by
 have lx:x<s.heap.objs.size:=J8 hx;obtain⟨c1,h1⟩:∃c,(s.heap.update x (ad4 fun _=>#[])).get? x=some (ar5 "list" #[] c):=⟨_,get?_update_seq hx (fun _=>#[])⟩;rw[list_sort_plain];refine o0 (listItems_at hx rfl (o0 (listUpdate_at hx rfl (o0 (seqEpoch_at h1 rfl (o0 (wpAny_newTuple (o0 (wpAny_newList (O9 ?_) (Q5 _))) ?_)))) ?_ (Q5 _))))
 rotate_left
 ·show vs.length<=_;rw[ab0];lia
 ·rw[J0,ab0];lia
 generalize hh:((s.heap.update x (ad4 fun _=>#[])).push (ar5 "tuple" vs.toArray 0)).push (ar5 "list" #[] 0)=h2;show J4 _ A _ P E { s with heap:=h2 };have g2:h2.get? x=some (ar5 "list" #[] c1):=by
  rw[<-hh];exact F1 _ (F1 _ h1)
 have st:xg x s { s with heap:=h2 }:=fun b o ne e=>by
  show h2.get? b=some o;rw[<-hh];exact F1 _ (F1 _ (by rw[K5.get?_update_ne _ _ _ _ ne];exact e))
 have fin:∀p,cQ vs.length p->dP O key p vs.length->P (.done (.ret .none)) { s with heap:=h2.update x (ad4 fun _=>(j7 vs p).toArray) }:=fun p hp hr =>
  k p _ _ hp hr (fun b o ne e=>by rw[K5.get?_update_ne _ _ _ _ ne];exact st b o ne e) (get?_update_seq g2 fun _=>(j7 vs p).toArray)
 dsimp only
 by_cases few:vs.toArray.size<2
 ·rw[if_pos few,if_pos few];refine o0 (u8 ?_);rw[StateT.run_pure];refine o0 (u8 ?_);dsimp only;have few':vs.length<2:=by rw[J0]at few;exact few
  have e0:(arrOf (SortSt.mk' general' (vs.toArray.zip vs.toArray) #[] 7 none)).map (·.2)=(j7 vs (List.toArray (P0 vs.length))).toArray:=by
   refine kat_snds rfl ?_;have e:=kas_range (vs.toArray.zip vs.toArray);have z0:(vs.toArray.zip vs.toArray).size=vs.length:=by simp
   rw[z0]at e;exact e.symm
  rw[e0];refine o0 (seqEpoch_at g2 rfl (o0 (listUpdate_at g2 rfl ?_ (Q5 _) ?_)))
  ·simp only[failedOf,bne_self_eq_false,F6,if_false];exact u8 (fin _ (ap7.refl _) fun i j hij hj=>by
    obtain rfl:i=j:=by lia
    exact ad8 _)
  ·rw[J0,kr (show cQ vs.length (List.toArray (P0 vs.length))from ap7.refl _),ab0];lia
 ·rw[if_neg few,if_neg few];have two:2<=vs.length:=by rw[J0]at few;lia
  refine o0 (Q8 (hk { s with heap:=h2 } (fun q t=>q=κ/\t=({ s with heap:=h2 }:F2)) two st ⟨rfl,rfl⟩) ?_ fun _ _ z=>z.elim);rintro κ' _ ⟨ek,rfl⟩;rw[ek];have ask:(kas_sort vs.length).kasWp (kas_ask prog w A κ vs) (fun p t=>t=({ s with heap:=h2 }:F2)/\cQ vs.length p/\dP O key p vs.length) { s with heap:=h2 } :=
   xE (J:=fun t=>t=({ s with heap:=h2 }:F2)) (lt:=fm O key) (Q:=fun p=>cQ vs.length p/\dP O key p vs.length) (fun i j C t hi hj ht hC=>by subst ht;exact hc i j _ C hi hj st (hC _ rfl)) (fun p t ht hq=>⟨ht,hq⟩) (zR (by lia) fun p a b=>⟨a,b⟩) rfl
  refine o0 (Q8 (kat_run (Q:=fun u t=>∃p:Array Nat,arrOf u=p.map (kas_item (vs.toArray.zip vs.toArray))/\failedOf u=none/\t=({ s with heap:=h2 }:F2)/\cQ vs.length p/\dP O key p vs.length) rfl two hz (fun p u t _ a2 a3 a4=>⟨p,a2,a3,a4⟩) ask) ?_ fun _ _ z=>z);rintro⟨⟨⟩,u⟩ t ⟨p,ea,ef,rfl,hp,hr⟩;dsimp only;have e0:(arrOf u).map (·.2)=(j7 vs p).toArray:=kat_snds rfl ea;rw[e0];refine o0 (seqEpoch_at g2 rfl (o0 (listUpdate_at g2 rfl ?_ (Q5 _) ?_)))
  ·rw[ef];simp only[bne_self_eq_false,F6,if_false];exact u8 (fin p hp hr)
  ·rw[J0,kr hp,ab0];lia
end
section
variable{X:Cx}{af:List (F9×Obj)}{s:F2}{σ:St}{H:Hp}{M:DH}
theorem qh{us:List s0}{i:Nat}{v:s0}(h:us[i]?=some v):us.getD i L8=v:=by
 rw[List.getD_eq_getElem?_getD,h];rfl
def kp_(p:Array Nat) (i:Nat):Nat:=p.getD i 0
end
end L2
namespace L2
open PySem PySem.Spec PyProof.Rows
theorem DI{i:Int}{P:Key->Prop}:(∃k,D.int i=kD k/\P k)↔P (.inl i) :=
 ⟨fun⟨k,e,h⟩=>match k,e with|.inl _,rfl=>h,fun h=>⟨_,rfl,h⟩⟩
theorem DN{x:Str}{P:Key->Prop}:(∃k,D.str x=kD k/\P k)↔P (.inr x) :=
 ⟨fun⟨k,e,h⟩=>match k,e with|.inr _,rfl=>h,fun h=>⟨_,rfl,h⟩⟩
theorem Ae{i j:Int}:FK [.int i,.int j]=some (.int (if j<i then j else i)):=rfl
section
variable{X:Cx}{a b:O3}{ta tb:TEd}{pos:Pos}
def A6(ta tb:TEd):TEd:=fun Δ M Q=>ta Δ M fun x M1=>tb Δ M1 fun y M2=>∃xs ys,rdM M2 x=.lst xs/\rdM M2 y=.lst ys/\xs.length+ys.length<=I0/\∀p,M2 p=none->Q (.ref p) (av M2 p (.lst (xs++ys)))
theorem mh(ha:QEd X a ta) (hb:QEd X b tb):QEd X (.BinOp a .Add b pos) (A6 ta tb):=by
 simp only[QEd.eq]at *
 exact(Bl wj ha hb).conv fun σ H Q hup=>hup.el fun Δ M R sr hr q k=>⟨Δ,M,_,sr,hr,q,fun x M1 v H1 q1 e1 hr1 rv=>⟨Δ,M1,_,sr.ext e1,hr1,q1,fun y M2 u H2 ⟨xs,ys,ex,ey,hz,q2⟩ e2 hr2 ru=>by
   have r1:=(rv.ext e2).rd hr2;have r2:=ru.rd hr2;rw[ex]at r1;rw[ey]at r2;obtain⟨l1,vs,rfl,h1,l1r⟩:=r1;obtain⟨l2,ws,rfl,h2,l2r⟩:=r2;exact⟨l1,l2,vs,ws,rfl,rfl,h1,h2,by rw[<-l1r.length,<-l2r.length];exact hz,fun p hp=>k _ _ _ _ (q2 p (hr2.fresh hp)) ((e1.trans e2).trans (Ext.own hp)) (hr2.own hp (l1r.append l2r)) (by simp only[Rep])⟩⟩⟩
end
abbrev BKd:=DE->DH->List D->(List D->DE->DH->Prop)->Prop
def ie(g:GD) (tc:TTd) (B:BKd):List D->DE->DH->List D->(List D->DE->DH->Prop)->Prop
 |[],Δ,M,acc,Q=>Q acc Δ M
 |d::ds,Δ,M,acc,Q=>∃ Δ',g d Δ=some Δ'/\tc Δ' M fun b M1=>if b=true then B Δ' M1 acc fun acc' Δ'' M2=>acc'.length<=I0/\ie g tc B ds Δ'' M2 acc' Q else ie g tc B ds Δ' M1 acc Q
def lX(te:TEd):BKd:=fun Δ M acc Q=>te Δ M fun y M2=>Q (acc++[y]) Δ M2
def jC(wi:TId) (g:GD) (tc:TTd) (B:BKd):BKd:=fun Δ M acc Q=>wi Δ M fun es M2=>ie g tc B es Δ M2 acc Q
def upB(K:F0) (b:BKd):BK:=fun ys σ H Z=>∃(Δ:DE) (M:DH) (acc:List D) (R:List D->DE->DH->Prop),SR K M H σ Δ/\HR K M H/\ar K M H acc ys/\acc.length<=I0/\b Δ M acc R /\
 ∀acc' Δ' M' ys' σ' H',R acc' Δ' M'->Ext M H M' H'->HR K M' H'->SR K M' H' σ' Δ'->ar K M' H' acc' ys'->Z ys' σ' H'
section
variable{K:F0}{g:GD}{gv:TG}{tc:TTd}{te:TEd}{wi:TId}{Bd:BKd}{B:BK}
theorem uK{ys:List V}{σ:St}{H:Hp}{Z:List V->St->Hp->Prop}(h:upB K (lX te) ys σ H Z):k8 (up K te) ys σ H Z:=by
 obtain⟨Δ,M,acc,R,sr,hr,ra,_,q,k⟩:=h;exact⟨Δ,M,_,sr,hr,q,fun d M' v H' q1 e1 hr1 rv=>k _ _ _ _ _ _ q1 e1 hr1 (sr.ext e1) ((ra.ext e1).append (ar.cons rv ar.nil))⟩
theorem uy(kg:mR K g gv) (hB:∀{ys σ H Z},upB K Bd ys σ H Z->B ys σ H Z) {J:It}{es:List D}{M5:DH}{H5:Hp}(it5:ItD K J es M5 H5) (hr5:HR K M5 H5) {Δ:DE}{acc:List D}{R:List D->DE->DH->Prop}{ys:List V}{σ:St}{Z:List V->St->Hp->Prop}
  (sr:SR K M5 H5 σ Δ) (ra:ar K M5 H5 acc ys) (la:acc.length<=I0) (q:ie g tc Bd es Δ M5 acc R)
  (k:∀acc' Δ' M' ys' σ' H',R acc' Δ' M'->Ext M5 H5 M' H'->HR K M' H'->SR K M' H' σ' Δ'->ar K M' H' acc' ys'->Z ys' σ' H') :
  ∃W:Nat->Nat->List V->St->Hp->Prop,(∃m,W 0 m ys σ H5)/\kA J gv (upT K tc) B W Z:=by
 refine⟨fun j m ys' σ' H'=>∃ Δ' M' acc',m=es.length-j/\j<=es.length/\Ext M5 H5 M' H'/\HR K M' H'/\SR K M' H' σ' Δ'/\ar K M' H' acc' ys'/\acc'.length<=I0/\ie g tc Bd (es.drop j) Δ' M' acc' R,
  ⟨es.length,Δ,M5,acc,by simp,Q5 _,Ext.refl _ _,hr5,sr,ra,la,q⟩,?_⟩
 rintro j m ys' σ6 H6 ⟨Δ6,M6,acc6,rfl,hj,e6,hr6,sr6,ra6,la6,f6⟩;refine⟨by rw[<-ra6.length];exact la6,?_⟩;obtain⟨go2,stop2⟩:=it5 M6 H6 e6 hr6 j
 by_cases hlt2:j<es.length
 ·have hd2:es[j]?=some es[j]:=by simp[hlt2]
  obtain⟨g2,y2⟩:=go2 _ hd2;rw[Z5 hlt2]at f6;simp only[ie]at f6;obtain⟨Δ7,eg7,f7⟩:=f6;refine .inr ⟨g2,fun x7 H7 hy7=>?_⟩;obtain⟨e7,hr7,rx7⟩:=y2 x7 H7 hy7;refine kg _ x7 σ6 Δ6 Δ7 M6 H7 _ (sr6.ext e7) hr7 rx7 eg7 fun σ7 sr7=>?_;refine⟨Δ7,M6,_,sr7,hr7,f7,fun b M8 H8 q8 e8 hr8=>?_⟩;cases b with
  |true =>
   simp only[if_true]at q8 ⊢;refine hB ⟨Δ7,M8,acc6,_,sr7.ext e8,hr8,(ra6.ext e7).ext e8,la6,q8,?_⟩;rintro acc' Δ' M' ys9 σ' H' ⟨hz9,q9⟩ e9 hr9 sr9 ra9;exact⟨es.length-(j+1),by lia,Δ',M',acc',rfl,hlt2,((e6.trans e7).trans e8).trans e9,hr9,sr9,ra9,hz9,q9⟩
  |false =>
   simp only[F6,if_false]at q8 ⊢;exact⟨es.length-(j+1),by lia,Δ7,M8,acc6,rfl,hlt2,(e6.trans e7).trans e8,hr8,sr7.ext e8,(ra6.ext e7).ext e8,la6,q8⟩
 ·rw[af6 (by lia)]at f6;simp only[ie]at f6;exact .inl ⟨stop2 (by lia),k _ _ _ _ _ _ f6 e6 hr6 sr6 ra6⟩
theorem o9(kg:mR K g gv) (hB:∀{ys σ H Z},upB K Bd ys σ H Z->B ys σ H Z) {ys:List V}{σ:St}{H:Hp}{Z:List V->St->Hp->Prop}(h:upB K (jC wi g tc Bd) ys σ H Z):qT (upI K wi) gv (upT K tc) B ys σ H Z:=by
 obtain⟨Δ,M,acc,R,sr,hr,ra,la,q,k⟩:=h;exact⟨Δ,M,_,sr,hr,q,fun es M2 J H2 q2 e2 hr2 it2=>uy kg hB it2 hr2 (sr.ext e2) (ra.ext e2) la q2 fun a1 a2 a3 a4 a5 a6 b1 b2=>k a1 a2 a3 a4 a5 a6 b1 (e2.trans b2)⟩
end
def z6(ms:List Bool) (k:Nat) (w0:TId) (g0:GD) (tc0:TTd) (B:BKd):TEd:=fun Δ M Q=>w0 Δ M fun ds M1=>ie g0 tc0 B ds (nY ms k Δ) M1 [] fun ys _ M2=>Q (.lst ys) M2
theorem rm{K:F0}{w0:TId}{g0:GD}{tc0:TTd}{gv0:TG}{Bd:BKd}{B:BK}{ms:List Bool}{kk:Nat}(kg:mR K g0 gv0) (hB:∀{ys σ H Z},upB K Bd ys σ H Z->B ys σ H Z):∀ σ H Q,up K (z6 ms kk w0 g0 tc0 Bd) σ H Q->z5 ms kk (upI K w0) gv0 (upT K tc0) B σ H Q:=by
 rintro σ H Q ⟨Δ,M,R,sr,hr,q,k⟩;refine⟨Δ,M,_,sr,hr,q,fun ds M1 J H1 q1 e1 hr1 it=>?_⟩;obtain⟨W,hW,hC⟩:=uy (Z:=fun ys' _ H'=>∃M' acc,Ext M1 H1 M' H'/\HR K M' H'/\ar K M' H' acc ys'/\R (.lst acc) M') kg hB it hr1 ((sr.ext e1).comp ms kk) ar.nil (Q5 _) q1
  (fun acc' Δ' M' ys' σ' H' q' e' hr' _ ra'=>⟨M',acc',e',hr',ra',q'⟩)
 refine⟨W,_,hW,hC,?_⟩;rintro ys σ' H' p ⟨M',acc,e',hr',ra,q'⟩ hp;refine k _ M' _ _ q' ((e1.trans e').trans (Ext.new hr' hp)) (hr'.new hp) ?_;simp only[Rep];exact⟨p,ys,rfl,⟨bh,hr'.fresh hp⟩,ra.ext (Ext.new hr' hp)⟩
abbrev FY(elt t0 i0 t1 i1:O3) (f0 f1:List O3) (scope:af8) (pos:Pos):O3:=.ListComp elt [⟨t0,i0,f0,0⟩,⟨t1,i1,f1,0⟩] scope pos
def BY(ms:List Bool) (k:Nat) (w0:TId) (g0:GD) (tc0:TTd) (wi:TId) (g:GD) (tc:TTd) (te:TEd):TEd:=z6 ms k w0 g0 tc0 (jC wi g tc (lX te))
section
variable{X:Cx}{scope:af8}{cl:List (Str×F9)}{ms:List Bool}{ao:List Str}{elt t0 i0 t1 i1:O3}{f0 f1:List O3}{pos:Pos}
theorem BQ{w1:TI}{g1:TG}{tc1:TT}{te:TE}(hi1:∀C s H ex,PI (aH X scope cl (X.N++ao) C s H ex) t1 i1 w1) (hg1:∀C s H ex,PG (aH X scope cl (X.N++ao) C s H ex) t1 g1) (hif1:∀C s H ex,PIf (aH X scope cl (X.N++ao) C s H ex) f1 tc1) (he:∀C s H ex,PE (aH X scope cl (X.N++ao) C s H ex) elt te)
  (hs1:∀C x,Q0 i1 (as2 scope cl C X.env) x=af5 x):LvC X scope cl ao (lcE elt [⟨t0,i0,f0,0⟩,⟨t1,i1,f1,0⟩] scope pos) i0.pos t0 f0 (qT w1 g1 tc1 (k8 te)):=fun _ _ _ _ _ c =>
 pF c (o6 (k:=1) (p:=i1.pos) c (he _ _ _ _) fun _ _ _=>rfl) (fun _ _ _=>rfl) (hs1 _) (hi1 _ _ _ _) (hg1 _ _ _ _) (hif1 _ _ _ _) fun _ _ _=>rfl
end
@[irreducible] def AO(t:TSd):TSd:=t
theorem uc{t:TSd}:AO t=t:=by unfold AO;rfl
theorem aP{t:TSd}{E:dQ}{Δ:DE}{M:DH}(h:t E Δ M):AO t E Δ M:=by rw[uc];exact h
theorem bL{X:Cx}{st:List aa1}{t:TSd}(h:QSs X st t):QSs X st (AO t):=by rw[uc];exact h
theorem yg{K:Params->F0}{as:List F9}{n t:Nat}{q:K6}{loose:List Str}{XP:(Str->Option s0)->K5->Prop}{r:PySem.W.RowW}{d:DefRec}{kwd:List (Str×O3)}{run:s0->List s0->Sem s0}(hk:∀P,as=(K P).map (·.1))
  (h:PySem.W.WalkO q loose XP (fun w h=>(K w.params).In h) r d kwd run):PySem.W.WalkX q loose XP (PySem.W.X.obsZ as) (PySem.W.X.valZ K n t) r d kwd run:=by
 intro w s₀ s₁ mg mb G y a o pm cd doc dV kV ho hd hcd hD hmg hg args vals as' L hpre hlay hrd hwl hlo;refine h w s₀ s₁ mg mb G (fun b u hu=>L.keeps b u ?_) a o pm cd doc dV kV ho hd hcd hD hmg hg args vals as' hpre hlay hrd hwl hlo;have y1:as.map s₀.heap.get?=(K w.params).map fun p=>some p.2:=congrArg (·.1) y;rw[hk w.params,S5]at y1;have key:∀(l:F0),(l.map fun p=>s₀.heap.get? p.1)=l.map (fun p=>some p.2)->ar9 b l=some u->s₀.heap.get? b=some u:=by
  intro l
  induction l with
  |nil=>intro _ z;cases z
  |cons p l ih =>
   intro e z;rw[N8,N8,ab5]at e;rw[S2]at z
   by_cases c:b=p.1
   ·subst c;rw[beq_self_eq_true]at z;cases z;exact e.1
   ·rw[beq_eq_false_iff_ne.mpr c]at z;exact ih e.2 z
 exact key _ y1 hu
end L2
namespace L2
open PySem PySem.W PySem.Calls PyProof.Rows
end L2
namespace L2
open PySem PySem.Spec PyProof.Rows
section
variable{X:Cx}{scope:af8}{cl:List (Str×F9)}{ms:List Bool}{ao:List Str}{elt t0 i0 t1 i1:O3}{f0 f1:List O3}{pos:Pos}
theorem xR{i:Nat}{x:Str}{spos pos':Pos}{w0 wi:TId}{g0 g:GD}{tc0 tc:TTd}{te:TEd}(hN:X.N.Nodup) (hix:X.N[i]?=some x) (hx:X.env.scope.names.lookup x=some .local)
  (hsw:ah9 (.ListComp elt [⟨t0,i0,f0,0⟩,⟨t1,i1,f1,0⟩] scope pos) (some (.Name x pos')) spos.line X.env=af5 true) (S:fo X scope cl ms ao) (eQ:X.calm=true) (hi:QId X t0 i0 w0) (hg0:PGa X scope cl ao t0 g0)
  (hif0:∀C s H ex,QIf (aH X scope cl (X.N++ao) C s H ex) f0 tc0) (hi1:∀C s H ex,QId (aH X scope cl (X.N++ao) C s H ex) t1 i1 wi) (hg:PGa X scope cl ao t1 g) (hif:∀C s H ex,QIf (aH X scope cl (X.N++ao) C s H ex) f1 tc) (he:∀C s H ex,QEd (aH X scope cl (X.N++ao) C s H ex) elt te)
  (hs:∀x,Q0 i0 X.env x=af5 x:=by intro _;rfl) (hs1:∀C x,Q0 i1 (as2 scope cl C X.env) x=af5 x:=by intro _ _;rfl):QSd X (.Assign [.Name x pos'] (.ListComp elt [⟨t0,i0,f0,0⟩,⟨t1,i1,f1,0⟩] scope pos) spos) (qj i (BY ms ao.length w0 g0 tc0 wi g tc te)):=by
 simp only[QEd.eq,QSd.eq,QId.eq,QIf.eq]at *
 obtain⟨gv0,pg0,kg0⟩:=hg0;obtain⟨gv,pg,kg⟩:=hg;refine(iW (tc:=upT X.K tc0) hN hix hx hsw S eQ hi pg0 hif0 (BQ (w1:=upI X.K wi) (tc1:=upT X.K tc) (te:=up X.K te) hi1 pg hif he hs1) hs).conv fun D σ H hh=>?_;obtain⟨Δ,M,E,sr,hr,q,k⟩:=hh;unfold qj BY at q;exact rm kg0 (fun h=>o9 kg uK h) σ H _ ⟨Δ,M,_,sr,hr,q,fun d M1 v H1 q1 e1 hr1 rv=>k.nx _ M1 _ H1 q1 e1 hr1 ((sr.ext e1).set i rv)⟩
end
section
variable{X:Cx}
end
section
variable{X:Cx}
def inF(x y:D):Option D:=match y with
 |.lst ds=>if dLe x 59=true/\cz ds 59=true then some (.bl (ds.any fun d=>eqD d x))else none
 |_=>none
theorem E4{x:D}{ds:List D}:inF x (.lst ds)=if dLe x 59=true/\cz ds 59=true then some (.bl (ds.any fun d=>eqD d x))else none:=rfl
end
section
variable{X:Cx}{a b e:O3}{ta tb te:TEd}{pos:Pos}
def qE(ds:List D) (x:D):Option Nat:=if dLe x 59=true/\cz ds 59=true/\ds.length<2 ^ 62 then ds.findIdx? (fun d=>eqD d x)else none
theorem xn{ds:List D}{x:D}{j:Nat}(h:qE ds x=some j):dLe x 59=true/\cz ds 59=true/\ds.length<2 ^ 62/\∃hj:j<ds.length,eqD ds[j] x=true/\∀m (hm:m<ds.length),m<j->eqD ds[m] x=false:=by
 unfold qE at h
 by_cases hc:dLe x 59=true/\cz ds 59=true/\ds.length<2 ^ 62
 ·rw[if_pos hc]at h;obtain⟨hj,h1,h2⟩:=List.findIdx?_eq_some_iff_getElem.mp h;exact⟨hc.1,hc.2.1,hc.2.2,hj,h1,fun m hm hl=>by have:=h2 m hl;simpa using this⟩
 ·rw[if_neg hc]at h;cases h
section
open PySem.SeqAt PySem.MeetsSeq AutoSeq1
theorem qC(l:F9) (xs:Array s0) (n:Nat) (od:Option F9) (os:Array (Option s0)) (y:s0) (hit:Nat->Bool) (top:Int) (j:Nat) (lj:j<xs.size) (ltop:(j:Int)<top) (yes:hit j=true) :
  ∀(k i:Nat),j-i=k->i<=j->(∀m,i<=m->m<j->hit m=false)->Meets (K7.«list.index.loop» ⟨[.ref l,y,Z6 i,Z6 top],[]⟩)
   (fun B R t=>t.heap.get? l=some { cls:=.type "list",dict:=od,data:=.seq xs n,slots:=os }/\(∀m (h:m<xs.size),EqAt B.in1 t xs[m] y (hit m))/\R (.ok (.ret (.int j t.toks))) { t with toks:=t.toks+1 })
 |0,i,ek,hi,no,prog,w,B,R,t,q=>by
  obtain⟨th,tg,td,tt,to⟩:=t;obtain⟨ql,qe,qr⟩:=q;obtain rfl:i=j:=by lia
  wp_walk using ag0 ql
  rw[show(if(i:Int)<top then xs[((i:Nat):Int).toNat]? else none)=some xs[i]by simp[ltop,lj]];refine o0 (qe i lj prog w _ _ ?_);rw[yes]
  wp_walk
  exact qr
 |k+1,i,ek,hi,no,prog,w,B,R,t,q=>by
  obtain⟨th,tg,td,tt,to⟩:=t;obtain⟨ql,qe,qr⟩:=q;have li:i<xs.size:=by lia
  have lt:(i:Int)<top:=by lia
  wp_walk using ag0 ql
  rw[show(if(i:Int)<top then xs[((i:Nat):Int).toNat]? else none)=some xs[i]by simp[lt,li]];refine o0 (qe i li prog w _ _ ?_);rw[no i (F7 _) (by lia)]
  wp_walk
  rw[show((i:Int)+1)=((i+1:Nat):Int)by lia];refine⟨ae9 plain_index_loop _,U4 entry_index_loop ?_⟩;rw[T8 plain_index_loop _];exact qC l xs n od os y hit top j lj ltop yes k (i+1) (by lia) (by lia) (fun m a b=>no m (by lia) b) prog w B R _ ⟨ql,qe,qr⟩
theorem wH(l:F9) (xs:Array s0) (n:Nat) (od:Option F9) (os:Array (Option s0)) (y:s0) (hit:Nat->Bool) (j:Nat) (lj:j<xs.size) (ls:(j:Int)<2 ^ 63-1) (yes:hit j=true) (no:∀m,m<j->hit m=false) :
  Meets (K7.«list.index» ⟨[.ref l,y],[]⟩)
   (fun B R t=>t.heap.get? l=some { cls:=.type "list",dict:=od,data:=.seq xs n,slots:=os }/\(∀m (h:m<xs.size),EqAt B.in1 t xs[m] y (hit m))/\R (.ok (.ret (.int j t.toks))) { t with toks:=t.toks+1 }):=by
 intro prog w B R t q;obtain⟨th,tg,td,tt,to⟩:=t;obtain⟨ql,qe,qr⟩:=q
 wp_walk using ag0 ql
 rw[show((fun i:Int=>if i<0 then max 0 (i+(xs.size:Int))else i) ((none:Option Int).getD 0))=((0:Nat):Int)by simp,show((fun i:Int=>if i<0 then max 0 (i+(xs.size:Int))else i) ((none:Option Int).getD (2 ^ 63-1)))=2 ^ 63-1 by simp];refine⟨ae9 plain_index_loop _,U4 entry_index_loop ?_⟩;rw[T8 plain_index_loop _];exact qC l xs n od os y hit (2 ^ 63-1) j lj ls yes _ 0 rfl (Q5 _) (fun m _ b=>no m b) prog w B R _ ⟨ql,qe,qr⟩
end
end
section
variable{X:Cx}{o e:O3}{to te:TEd}{iZ cu:Pos}
def qS(ds:List D) (d:D) (m:Nat):Bool:=match ds[m]? with|some x=>eqD x d|none=>false
theorem AZ{af:List (F9×Obj)}{σ:St}{H:Hp}{s:F2}{M:DH}{ds:List D}{d:D}{vs:List V}{its:List s0}{y:V}{u:s0}(I:Inv X af σ H s) (hu:X.A.units+64<am0) (rl:ar X.K M H ds vs) (r:aE vs its) (r1:aY X.K M H d y) (ry:aX y u) (h1:dLe d 59=true) (h2:cz ds 59=true) :
  ∀m (h:m<its.toArray.size),PySem.SeqAt.EqAt X.A.in1 s its.toArray[m] u (qS ds d m):=fun m h=>by
 have hl:ds.length=its.length:=rl.length.trans r.length;have h':m<its.length:=by simpa using h
 have h3:m<ds.length:=by lia
 obtain⟨v1,g1,p1⟩:=rl.get (i:=m) (d:=ds[m]) (by simp[h3]);obtain⟨u1,k1,m1⟩:=r.get g1;have e1:its.toArray[m]=u1:=by simpa[F4 h']using k1
 rw[e1,show qS ds d m=eqD ds[m] d by simp[qS,h3]];exact(lN I 59 (by show X.A.units+1+59<am0;lia) (fQ h2 (i:=m) (by simp[h3])) h1 p1.r r1 m1 ry).1
theorem yV{ds:List D}{x:D}{j:Nat}(h:qE ds x=some j):dLe x 59=true/\cz ds 59=true/\(j:Int)<2 ^ 63-1/\j<ds.length/\qS ds x j=true/\∀m,m<j->qS ds x m=false:=by
 obtain⟨h1,h2,h3,lj,yes,no⟩:=xn h;refine⟨h1,h2,by lia,lj,by simp[qS,lj,yes],fun m hm=>?_⟩;have hm':m<ds.length:=by lia
 simp[qS,hm',no m hm' hm]
theorem zm(hu:X.A.units+64<am0):MtR X "list.index" (fun x xs H Q=>∃M ds d y j,xs=[y]/\aY X.K M H (.lst ds) x/\aY X.K M H d y/\qE ds d=some j/\Q (.int j) H):=by
 intro af s σ H x xs v us Q I rx rv h;obtain⟨M,ds,d,y,j,rfl,r2,r1,hj,q⟩:=h;obtain⟨u,rfl,ry⟩:=aE.one rv;obtain⟨l,vs,rfl,sq,rl⟩:=r2;cases rx;obtain⟨its,r,pl,hz⟩:=I.list (SqL.of sq);obtain⟨h1,h2,h3,lj,yes,no⟩:=yV hj;have hl:ds.length=its.length:=rl.length.trans r.length;obtain⟨⟨c,dd,dt,sl⟩,n,ho,hc,hdd,hdt⟩:=pl;obtain rfl:c=.type "list":=hc;obtain rfl:dt=.seq its.toArray n:=hdt;exact ak5 F.slot_list_index ⟨_,ho,rfl⟩ F.entry_list_index (F.args_list_index_2 _ _) (wH l its.toArray n dd sl u (qS ds d) j (by simp;lia) h3 yes no) ⟨ho,AZ I hu rl r r1 ry h1 h2,⟨.int _,H,I.tok _,⟨_,rfl⟩,q⟩⟩
def A4(to te:TEd):TEd:=fun Δ M Q=>to Δ M fun o M1=>(∃ds,rdM M1 o=.lst ds)/\te Δ M1 fun x M2=>∃ds j,rdM M2 o=.lst ds/\qE ds (rdM M2 x)=some j/\Q (.int j) M2
theorem wG(hu:X.A.units+64<am0) (ho:QEd X o to) (he:QEd X e te) (ic:ae4 o "index" X.env (ab7 o X.env)=ab7 o X.env:=by rfl)
  (hse:F8 [e] X.env=(false,ab7 e X.env)::F8 [] X.env:=by rfl)
  (sU:((V4 cu (F8 [e] X.env)).all (fun x => !x.1) && (ar3 cu (ak3 [] X.env)).all (fun x => x.1.isSome)
  &&decide ([e].length+([]:List an9).length+(if([]:List an9).isEmpty then 0 else 1)<30))=true:=by rfl)
  (mm:(iZ.endLine==cu.line)=true:=by rfl) (jw:(V4 cu (F8 [] X.env)).any (·.1)=false:=by rfl):QEd X (.Call (.Attribute o "index" iZ) [e] [] cu) (A4 to te):=by
 rw[QEd.eq]at *
 refine(xp PySem.F.plainAttrs_list PySem.F.slot_list_index PySem.F.type_list_index (zm hu) ho (cB he gx hse) ic sU mm hse jw).conv fun σ H Q hh=>?_;obtain⟨Δ,M,R,sr,hr,q,k⟩:=hh;refine⟨Δ,M,_,sr,hr,q,fun o M1 ov H1 ⟨⟨ds0,e0⟩,q1⟩ e1 hr1 ro=>?_⟩;have r0:=ro.rd hr1;rw[e0]at r0;obtain⟨l0,vs0,rfl,hl0,_⟩:=r0;refine⟨.inl ⟨rfl,vs0,SqL.of hl0⟩,Δ,M1,_,sr.ext e1,hr1,q1,fun d M2 v H2 ⟨ds,j,ed,hj,q2⟩ e2 hr2 rv=>?_⟩;have r2:=(ro.ext e2).rd hr2;rw[ed]at r2;exact⟨M2,ds,_,v,j,rfl,r2,rv.rd hr2,hj,k _ M2 _ H2 q2 (e1.trans e2) hr2 (by simp[Rep])⟩
end
section
variable{X:Cx}{scope:af8}{cl:List (Str×F9)}{ao:List Str}{tg:O3}{pos:Pos}
end
section
variable{X:Cx}{e:O3}{te:TEd}
def FU(kvs:List (Key×D)):D:=.box (.dk (kvs.map (·.1))) (kvs.map (·.2))
end
def Cz(ms:List Bool) (k:Nat) (w0:TId) (g0:GD) (tc0:TTd) (w1:TId) (g1:GD) (tc1:TTd) (w2:TId) (g2:GD) (tc2:TTd) (te:TEd):TEd:=z6 ms k w0 g0 tc0 (jC w1 g1 tc1 (jC w2 g2 tc2 (lX te)))
section
variable{X:Cx}{a b c e o i:O3}{es:List O3}{te ta tb to ti:TEd}{t:TAd}{pos:Pos}{tg iter:O3}
end
def DW:D->Option D
 |.box (.dk ks) _=>some (.lst (ks.map kD))
 |_=>none
theorem zX{kvs:List (Key×D)}:DW (FU kvs)=some (.lst (kvs.map fun p=>kD p.1)):=by
 show some (D.lst ((kvs.map (·.1)).map kD))=_;rw[S5];rfl
noncomputable def DG(s:aa1) (i:Nat):aa1:=match s with
 |.ClassDef _ _ _ b _ _ _ _ _ _ _=>b.getD i (.Pass ⟨0,0,0,0⟩)
 |_=>.Pass ⟨0,0,0,0⟩
noncomputable def FV:D->Option D
 |.int i=>some (.int i)
 |.bl k=>some (.int (if k then 1 else 0))
 |_=>none
theorem Co{k:Bool}:FV (.bl k)=some (.int (if k then 1 else 0)):=rfl
noncomputable def ltS(a b:Str):Bool:=decide (a.cps.toList<b.cps.toList)
def leS(a b:Str):Bool:=!ltS b a
theorem yp{a b:Str}(h:a.cps.toList=b.cps.toList):a=b:=by
 cases a;cases b;simp only[Str.mk.injEq];exact Array.toList_inj.mp h
theorem uU(a:Str):ltS a a=false:=decide_eq_false (List.lt_irrefl _)
theorem ky{a b c:Str}(h1:ltS a b=true) (h2:ltS b c=true):ltS a c=true:=decide_eq_true (List.lt_trans (of_decide_eq_true h1) (of_decide_eq_true h2))
theorem oZ{a b:Str}(h1:ltS a b=false) (h2:ltS b a=false):a=b :=
 yp (List.le_antisymm (List.not_lt.mp (of_decide_eq_false h2)) (List.not_lt.mp (of_decide_eq_false h1)))
theorem u3{a b c:Str}(h:ltS a c=true):ltS a b=true∨ltS b c=true:=by
 cases h1:ltS a b with
 |true=>exact .inl rfl
 |false =>
  refine .inr ?_;cases h2:ltS b a with
  |true=>exact ky h2 h
  |false=>rw[<-oZ h1 h2];exact h
def Fu:ae1 where
 α:=Str
 blt:=ltS
 irrefl:=uU
 trans _ _ _:=ky
 negTrans _ _ _:=u3
 total _ _:=oZ
theorem yO{a b:Str}(h1:leS a b=true) (h2:leS b a=true):a=b:=oZ (by simpa[leS]using h2) (by simpa[leS]using h1)
def cG(ps:List Str):List Str:=ps.mergeSort leS
theorem gK(ps:List Str):(cG ps).Perm ps:=List.mergeSort_perm _ _
theorem rk(ps:List Str):(cG ps).Pairwise fun a b=>leS a b=true :=
 List.pairwise_mergeSort (fun a b c h1 h2=>by
  simp only[leS,Bool.not_eq_true']at *
  cases h:ltS c a with
  |false=>rfl
  |true =>
   rcases u3 (b:=b) h with z|z
   ·rw[h2]at z;cases z
   ·rw[h1]at z;cases z) (fun a b=>by
  cases h:leS a b with
  |true=>rfl
  |false =>
   have h':ltS b a=true:=by simpa[leS]using h
   cases h2:ltS a b with
   |false=>simp[leS,h2]
   |true=>have:=ky h' h2;rw[uU]at this;cases this) ps
theorem r8{ps qs:List Str}(h:qs.Perm ps) (hs:qs.Pairwise fun a b=>leS a b=true):qs=cG ps :=
 ap7.eq_of_pairwise (le:=fun a b=>leS a b=true) (fun a b _ _ h1 h2=>yO h1 h2) hs (rk ps) (h.trans (gK ps).symm)
section
variable{X:Cx}{af:List (F9×Obj)}{s:F2}{σ:St}{H:Hp}{M:DH}
theorem sI(ns:List Str):(P0 ns.length).map (fun i=>ns.getD i ae8)=ns:=by
 apply List.ext_getElem (by simp);intro i h1 h2;simp[F4 h2]
theorem De{K:F0}{ns:List Str}{vs:List V}{us:List s0}(rl:ar K M H (ns.map D.str) vs) (rv:aE vs us) {i:Nat}(hi:i<ns.length):∃t,us[i]?=some (.str ns[i] t):=by
 obtain⟨v,g,r⟩:=rl.get (i:=i) (d:=D.str ns[i]) (by simp[hi]);obtain⟨u,g',r'⟩:=rv.get g;simp only[Rep]at r;subst r;obtain⟨t,rfl⟩:=r';exact⟨t,g'⟩
end
section
variable{X:Cx}
def mK(x y:D):Option D:=match y with
 |.lst ds=>if dLe x 59=true/\cz ds 59=true then some (.bl (!(ds.any fun d=>eqD d x)))else none
 |.tup ds=>if dLe x 59=true/\cz ds 59=true then some (.bl (!(ds.any fun d=>eqD d x)))else none
 |_=>none
theorem xm{x:D}{ds:List D}:mK x (.lst ds)=if dLe x 59=true/\cz ds 59=true then some (.bl (!(ds.any fun d=>eqD d x)))else none:=rfl
theorem tI{h:K5}{a:F9}{xs:Array s0}(p:ap8 h a xs):h.IsTuple a xs:=by
 obtain⟨o,h1,h2,n,h3⟩:=p;exact⟨o,h1,h2,n,h3⟩
open Classical in
theorem sd(hu:X.A.units+64<am0):cq X (S4 .NotIn) mK:=by
 intro af s σ H M x y v u dx dy dz Q I hr rx ry r1 r2 e k;cases dy with
 |lst ds =>
  simp only[mK]at e
  by_cases hc:dLe dx 59=true/\cz ds 59=true
  ·rw[if_pos hc]at e;cases e;obtain⟨l,vs,rfl,sq,rl⟩:=r2;cases ry;obtain⟨its,r,pl,hz⟩:=I.list (SqL.of sq);have hl:ds.length=its.length:=rl.length.trans r.length;have at_:∀j (h:j<ds.length) (h':j<its.length),PySem.SeqAt.EqAt X.A.in1 s its[j] v (eqD ds[j] dx):=fun j h h'=>by
    obtain⟨v1,g1,p1⟩:=rl.get (i:=j) (d:=ds[j]) (by simp[h]);obtain⟨u1,k1,m1⟩:=r.get g1;have e1:its[j]=u1:=by simpa[F4 h']using k1
    rw[e1];exact(lN I 59 (by show X.A.units+1+59<am0;omega) (fQ hc.2 (i:=j) (by simp[h])) hc.1 p1.r r1 m1 rx).1
   refine SeqAt.notIn_listAt (fun w=>decide (∃j,∃h:j<ds.length,∃h':j<its.length,its[j]=w/\eqD ds[j] dx=true)) pl.isList (fun w hw=>?_) ⟨.bl _,H,I,rfl,?_⟩
   ·obtain⟨i,hi,rfl⟩:=X0.mp (show w∈its by simpa using hw)
    by_cases q:∃j,∃h:j<ds.length,∃h':j<its.length,its[j]=its[i]/\eqD ds[j] dx=true
    ·rw[decide_eq_true q];obtain⟨j,h,h',q1,q2⟩:=q;rw[<-q1,<-q2];exact at_ j h h'
    ·rw[decide_eq_false q];have:=at_ i (by omega) hi
     rwa [show eqD ds[i] dx=false from X9.mpr fun z=>q ⟨i,by omega,hi,rfl,z⟩]at this
   ·have ea:its.toArray.any (fun w=>decide (∃j,∃h:j<ds.length,∃h':j<its.length,its[j]=w/\eqD ds[j] dx=true))=ds.any fun d=>eqD d dx:=by
     rw[S0,List.any_toArray,ab9,ab9];constructor
     ·rintro⟨w,_,h⟩;obtain⟨j,h1,_,_,h2⟩:=of_decide_eq_true h;exact⟨ds[j],R6 _,h2⟩
     ·rintro⟨d,hd,h⟩;obtain⟨j,hj,rfl⟩:=X0.mp hd;exact⟨its[j],R6 _,decide_eq_true ⟨j,hj,by omega,rfl,h⟩⟩
    rw[ea];exact k _ H (Ext.refl _ _) hr (by simp[Rep])
  ·rw[if_neg hc]at e;cases e
 |tup ds =>
  simp only[mK]at e
  by_cases hc:dLe dx 59=true/\cz ds 59=true
  ·rw[if_pos hc]at e;cases e;obtain⟨l,vs,rfl,sq,rl⟩:=r2;cases ry;obtain⟨its,r,pl,hz⟩:=I.tuple sq;have hl:ds.length=its.length:=rl.length.trans r.length;have at_:∀j (h:j<ds.length) (h':j<its.length),PySem.SeqAt.EqAt X.A.in1 s its[j] v (eqD ds[j] dx):=fun j h h'=>by
    obtain⟨v1,g1,p1⟩:=rl.get (i:=j) (d:=ds[j]) (by simp[h]);obtain⟨u1,k1,m1⟩:=r.get g1;have e1:its[j]=u1:=by simpa[F4 h']using k1
    rw[e1];exact(lN I 59 (by show X.A.units+1+59<am0;omega) (fQ hc.2 (i:=j) (by simp[h])) hc.1 p1.r r1 m1 rx).1
   refine SeqAt.notIn_tupleAt (fun w=>decide (∃j,∃h:j<ds.length,∃h':j<its.length,its[j]=w/\eqD ds[j] dx=true)) (tI pl) (fun w hw=>?_) ⟨.bl _,H,I,rfl,?_⟩
   ·obtain⟨i,hi,rfl⟩:=X0.mp (show w∈its by simpa using hw)
    by_cases q:∃j,∃h:j<ds.length,∃h':j<its.length,its[j]=its[i]/\eqD ds[j] dx=true
    ·rw[decide_eq_true q];obtain⟨j,h,h',q1,q2⟩:=q;rw[<-q1,<-q2];exact at_ j h h'
    ·rw[decide_eq_false q];have:=at_ i (by omega) hi
     rwa [show eqD ds[i] dx=false from X9.mpr fun z=>q ⟨i,by omega,hi,rfl,z⟩]at this
   ·have ea:its.toArray.any (fun w=>decide (∃j,∃h:j<ds.length,∃h':j<its.length,its[j]=w/\eqD ds[j] dx=true))=ds.any fun d=>eqD d dx:=by
     rw[S0,List.any_toArray,ab9,ab9];constructor
     ·rintro⟨w,_,h⟩;obtain⟨j,h1,_,_,h2⟩:=of_decide_eq_true h;exact⟨ds[j],R6 _,h2⟩
     ·rintro⟨d,hd,h⟩;obtain⟨j,hj,rfl⟩:=X0.mp hd;exact⟨its[j],R6 _,decide_eq_true ⟨j,hj,by omega,rfl,h⟩⟩
    rw[ea];exact k _ H (Ext.refl _ _) hr (by simp[Rep])
  ·rw[if_neg hc]at e;cases e
 |_=>cases e
end
section
variable{X:Cx}{e:O3}{t:TEd}
end
section
variable{P:K6}{w:Q7}{K:F0}{h base:K5}{mg:Str->Option s0}{x qual:Str}{st:aa1}{f:F9}{fd:K4}{k:Nat}{S:SpD}
structure bF(K:F0) (x:Str) (st:aa1) (f:F9) (fd:K4):Prop where
 a:N7 K K2 x=some (some (.ref f))
 F:Fun K x x st f fd
theorem Es{oc:s0}{od an:Option F9}{osl:Array (Option s0)}{kV doc pm cdv ct:s0}(a:N7 K K2 x=some (some (.ref f))) (l:K.lookup f=some ⟨oc,od,.func (ac3 x x (fE st) (cO st) (ah st) .none kV doc pm an cdv ct),osl⟩)
  (c:al4 K cdv x=true) (k:W3 K (.ref f)=true):bF K x st f (ac3 x x (fE st) (cO st) (ah st) .none kV doc pm an cdv ct):=⟨a,sJ l c k⟩
theorem usS{p:List s0->Prop}{n:Nat}(h:∀a us,us.length=n->p (a::us)):∀us:List s0,us.length=n+1->p us:=by
 intro us e;cases us with
 |nil=>cases e
 |cons a us=>exact h a us (Nat.succ.inj e)
theorem us0{p:List s0->Prop}(h:p []):∀us:List s0,us.length=0->p us:=by
 intro us e;cases us with
 |nil=>exact h
 |cons a us=>cases e
def Bd(x qual:Str) (st:aa1) (ps:List Str) (us:List s0):Prop:=∀(kV doc pm:s0) (an:Option F9) (cdv ct:s0),bindArgs (ac3 x qual (fE st) (cO st) (ah st) .none kV doc pm an cdv ct) ⟨us,[]⟩=af5 (ps.zip us)
theorem ua{ps:List Str}(F:Fun K x qual st f fd) (b:∀us:List s0,us.length=ps.length->Bd x qual st ps us):cZ K fd ps []:=F.binds fun kV doc pm an cdv ct us hl=>b us hl kV doc pm an cdv ct
variable{p1 p2 p3 p4 p5:Str}
theorem bd1(F:Fun K x qual st f fd) (b:∀a,Bd x qual st [p1] [a]):cZ K fd [p1] []:=ua F (usS fun a=>us0 (b a))
theorem bd2(F:Fun K x qual st f fd) (b:∀a c,Bd x qual st [p1,p2] [a,c]):cZ K fd [p1,p2] []:=ua F (usS fun a=>usS fun c=>us0 (b a c))
theorem bd3(F:Fun K x qual st f fd) (b:∀a c d,Bd x qual st [p1,p2,p3] [a,c,d]):cZ K fd [p1,p2,p3] []:=ua F (usS fun a=>usS fun c=>usS fun d=>us0 (b a c d))
theorem bd5(F:Fun K x qual st f fd) (b:∀a c d e g,Bd x qual st [p1,p2,p3,p4,p5] [a,c,d,e,g]):cZ K fd [p1,p2,p3,p4,p5] []:=ua F (usS fun a=>usS fun c=>usS fun d=>usS fun e=>usS fun g=>us0 (b a c d e g))
theorem fg{ps:List Str}{n:Nat}(X:K.In h) (G:h.Ns K2 mg) (i:bF K x st f fd) (o:a7 P w K mg base CX0 k f fd ps (spD K n S)) (b:cZ K fd ps []):FnD P w K mg base x k n S:=⟨_,_,_,o,P8 X G i.a,i.F.kp,b⟩
theorem CA{fa:F9}{sp:Sp}{lp:K6}(X:K.In h) (G:h.Ns K2 mg) (hfa:mg "law"=some (.ref fa)) (i:bF K "law" st f fd) (b:∀a,Bd "law" "law" st [p1] [a]) (o:∀base:K5,a7 lp w K mg base CX0 k f fd [p1] sp) :
  ∃fd:K4,(∀(s:F2) (v:s0),as6 s fd ⟨[v],[]⟩ [(p1,v)])/\∀base:K5,K.In base->base.Ns K2 mg->a7 lp w K mg base CX0 k fa fd [p1] sp:=by
 have e:=hfa.symm.trans (P8 X G i.a);cases e;refine⟨fd,fun s v=>?_,fun base _ _=>o base⟩;obtain⟨oc,od,kV,doc,pm,an,cdv,ct,osl,rfl,lk,hcd⟩:=i.F.ex;exact .of_eq (b v kV doc pm an cdv ct)
end
theorem nbh{op:CmpOp}{b:O3}(h:op≠.In:=by decide) (h2:op≠.NotIn:=by decide):ag8 op b=false:=xv b h h2
theorem fsc{N P:List Str}{sc:af8}(a:sc.kind=.function:=by exact rfl) (b:sc.isCoroutine=false:=by exact rfl) (c:sc.isGenerator=false:=by exact rfl) (d:N.Nodup:=by decide +kernel) (e:N.take P.length=P:=by exact rfl)
  (f:∀x∈P,sc.names.lookup x=some .local∨sc.names.lookup x=some .cell:=by decide +kernel) (g:∀y∈sc.names,y.2≠.free:=by decide +kernel):ay N P sc:=⟨a,b,c,d,e,f,g⟩
section
variable{X:Cx}{e:O3}{es:List O3}{t:TAd}{pos p:Pos}{x:Str}{j k n:Nat}{S:SpD}
theorem qd(F:FnD X.prog X.w X.K X.mg X.base x j n S) (hr:cC k X.A) (ha:QAd X (e::es) t) (h:j<=k:=by decide) (hg:Gl X x:=by exact rfl) (hdb:(x==("__debug__":Str))=false:=by decide) (he:F8 (e::es) X.env=(false,ab7 e X.env)::F8 es X.env:=by rfl) (hpl:(V4 pos (F8 es X.env)).any (·.1)=false:=by rfl) :
  QEd X (.Call (.Name x p) (e::es) [] pos) (lM n S t):=qc F (hr.mono h) hg ha hdb he hpl
end
def txt:s0->Str|.str x _=>x|_=>ae8
theorem za(t:K8) (n:Nat):(t.orStandIn n).led=t.led:=by unfold K8.orStandIn;split<;>rfl
theorem tF(t:K8) (es:Array (Int×s0)) (h:Int) (x:s0):(layNew t es h x).2.1.led=t.led:=by
 unfold layNew
 split
 ·exact za _ _
 ·rfl
theorem mP{t t':K8}{hs:Array Int}{n:Nat}{o:Array Nat}(e:t.relaid hs n=some (t',o)):t'.led=t.led/\t'.plain=t.plain:=by
 unfold K8.relaid K8.laid at e;cases q:K8.layClean (K8.sizeAbove n-1) hs with
 |none=>rw[q]at e;cases e
 |some w=>rw[q]at e;cases e;exact⟨rfl,rfl⟩
theorem pb(t:K8) (es:Array (Int×s0)) (n:Nat):(aq0 t es n).2.1.led=t.led:=by
 unfold aq0
 split
 ·rename_i e;dsimp only;split
  ·exact(mP e).1
  ·rfl
 ·rfl
theorem mI(t:K8) (es:Array (Int×s0)) (n:Nat) (z:t.plain=false):(aq0 t es n).2.1.plain=false:=by
 unfold aq0
 split
 ·rename_i e;dsimp only;split
  ·rw[(mP e).2];exact z
  ·rfl
 ·rfl
section
variable{prog:K6}{w:Q7}{A:N6}{E:s0->F2->Prop}{s:F2}
noncomputable def byT(w:Q7):Bool:=w.params.followText "set-order"
def ElT(prog:K6) (w:Q7) (l:List (Int×s0)):Prop:=∀e∈l,∃x t,e=((strKind prog w).hash x,.str x t)
theorem ElT.of{l:List (Int×s0)}(h:ElT prog w l):ElemsOf (strKind prog w) l:=fun e he=>by
 obtain⟨x,t,rfl⟩:=h e he;exact⟨⟨x,as8 _ _ _ _,rfl⟩,rfl⟩
structure pH(prog:K6) (w:Q7) (h:K5) (a:F9) (o:Obj) (es:Array (Int×s0)) (ep:Nat) (t:K8):Prop where
 get:h.get? a=some o
 ex:o.ExactSet
 data:o.data=.set es ep t
 el:ElT prog w es.toList
 nd:(es.toList.map fun e=>txt e.2).Nodup
 room:es.size<ac6
 fit:t.fits es.size=true
 led:t.led=!byT w
 pl:es.size≠0->t.plain=false
def fG(prog:K6) (w:Q7) (h:K5) (a:F9) (xs:List Str):Prop:=∃o es ep t,pH prog w h a o es ep t/\(es.toList.map fun e=>txt e.2).Perm xs
theorem fG.mono{h h':K5}{a:F9}{xs:List Str}(z:fG prog w h a xs) (k:∀o,h.get? a=some o->h'.get? a=some o):fG prog w h' a xs:=by
 obtain⟨o,es,ep,t,p,q⟩:=z;exact⟨o,es,ep,t,⟨k _ p.get,p.ex,p.data,p.el,p.nd,p.room,p.fit,p.led,p.pl⟩,q⟩
theorem fG.perm{h:K5}{a:F9}{xs ys:List Str}(z:fG prog w h a xs) (k:xs.Perm ys):fG prog w h a ys:=by
 obtain⟨o,es,ep,t,p,q⟩:=z;exact⟨o,es,ep,t,p,q.trans k⟩
theorem CT{x:Str}{v:s0}(h:(strKind prog w).is x v=true):∃t,v=.str x t:=by
 cases v<;>simp[PySem.strKind,s0.isStrOf]at h
 rename_i y t;exact⟨t,by rw[h]⟩
theorem pH.mem{h:K5}{a:F9}{o:Obj}{es:Array (Int×s0)}{ep:Nat}{t:K8}(p:pH prog w h a o es ep t) (x:Str) :
  (∃e∈es.toList,(strKind prog w).is x e.2=true)↔x∈es.toList.map fun e=>txt e.2:=by
 constructor
 ·rintro⟨e,he,q⟩;obtain⟨t,z⟩:=CT q;exact O2.mpr ⟨e,he,by rw[z];rfl⟩
 ·intro q;obtain⟨e,he,z⟩:=O2.mp q;obtain⟨y,t,rfl⟩:=p.el e he;have:y=x:=z;subst this;exact⟨_,he,as8 _ _ _ _⟩
theorem n4{h:K5}{a:F9}{o:Obj}{es:Array (Int×s0)}{ep:Nat}{t:K8}(ho:h.get? a=some o) (hd:o.data=.set es ep t) (es':Array (Int×s0)) (t':K8) :
  (h.update a (ai9 es' t')).get? a=some { o with data:=.set es' (ep+1) t' }:=by
 have:=O1 (ai9 es' t') ho (by rw[au1 es' t' hd];rfl);rw[au1 es' t' hd]at this;exact this
theorem j5{l l':List (Int×s0)}(h:l.Perm l'):(l.map fun e=>txt e.2).Perm (l'.map fun e=>txt e.2):=h.map _
theorem pH.laid{h h':K5}{a:F9}{o:Obj}{es es':Array (Int×s0)}{ep ep':Nat}{t t':K8}(p:pH prog w h a o es ep t)
  (g:h'.get? a=some { o with data:=.set es' ep' t' }) (q:es'.toList.Perm es.toList) (f:t'.fits es'.size=true) (l:t'.led=t.led) (z:es'.size≠0->t'.plain=false):pH prog w h' a { o with data:=.set es' ep' t' } es' ep' t':=by
 have sz:es'.size=es.size:=by rw[<-K3,q.length_eq,K3]
 exact⟨g,p.ex,rfl,fun e he=>p.el e (q.mem_iff.mp he),((j5 q).nodup_iff).mpr p.nd,by rw[sz];exact p.room,f,l.trans p.led,z⟩
theorem Bz{g:Bool->Sem Unit}(hg:∀(b:Bool) (s₁:F2) (Q':Unit->F2->Prop),Q' () s₁->J4 (M0 prog w) A (g b) Q' E s₁)
  {a:F9} {o:Obj} {es:Array (Int×s0)} {ep:Nat} {t:K8} (ho:s.heap.get? a=some o) (hex:o.ExactSet) (hd:o.data=.set es ep t)
  {es1:Array (Int×s0)} {t2:K8} (el:ElT prog w es1.toList) (nd:(es1.toList.map fun e=>txt e.2).Nodup) (hb1:es1.size<ac6) (hf2:t2.fits es1.size=true) (ld:t2.led=!byT w) (pl:t2.plain=false)
  {wasDummy:Bool} {R:Option Bool->F2->Prop}
  (h:∀h',P2 a s.heap h'->fG prog w h' a (es1.toList.map fun e=>txt e.2)->R (some true) { s with heap:=h' }) :
  J4 (M0 prog w) A (do
    storeSet a es1 t2
    if(!wasDummy&&t2.tooFull)=true then do
      g (aq0 t2 es1 (ac8 es1.size)).2.2
      storeSet a (aq0 t2 es1 (ac8 es1.size)).1 (aq0 t2 es1 (ac8 es1.size)).2.1
      af5 (some true)
     else af5 (some true)) R E s:=by
 refine o0 (ak8 ho hd ?_ (ad9 hb1));have ho1:=n4 ho hd es1 t2;have hS1:pH prog w (s.heap.update a (ai9 es1 t2)) a { o with data:=.set es1 (ep+1) t2 } es1 (ep+1) t2:=⟨ho1,hex,rfl,el,nd,hb1,hf2,ld,fun _=>pl⟩;have hsb1:=S1 s.heap a (ai9 es1 t2)
 split
 ·have hp:=relayAll_perm t2 es1 (ac8 es1.size);have hfr:=relayAll_fits t2 es1 (ac8 es1.size);have hl:=pb t2 es1 (ac8 es1.size);have hpl:=mI t2 es1 (ac8 es1.size) pl;generalize hRl:aq0 t2 es1 (ac8 es1.size)=Rl at hp hfr hl hpl ⊢;obtain⟨es2,t3,gave2⟩:=Rl;dsimp only at hp hfr hl hpl ⊢;have hsz:es2.size=es1.size:=by rw[<-K3,hp.length_eq,K3]
  have hb2:es2.size<ac6:=by rw[hsz];exact hb1
  refine o0 (hg _ _ _ ?_);refine o0 (ak8 ho1 rfl ?_ (ad9 hb2));have ho2:=n4 (h:=s.heap.update a (ai9 es1 t2)) ho1 rfl es2 t3;exact u8 (h _ (hsb1.trans (S1 _ a _)) ⟨_,_,_,_,hS1.laid ho2 hp hfr hl (fun _=>hpl),j5 hp⟩)
 ·exact u8 (h _ hsb1 ⟨_,_,_,_,hS1,.refl _⟩)
theorem FB{a:F9}{xs:List Str}{x:Str}{tk:Tok}{Q:Bool->F2->Prop}(hS:fG prog w s.heap a xs) (hroom:xs.length+1<ac6)
  (h:∀b h',P2 a s.heap h'->fG prog w h' a (if x∈xs then xs else xs++[x])->Q b { s with heap:=h' }) :
  J4 (M0 prog w) A (ar0 a (.str x tk) ((strKind prog w).hash x)) Q E s:=by
 obtain⟨o,es,ep,t,p,pm⟩:=hS;have hkey:=as8 prog w x tk;have hel:=p.el.of;have hn:es.size=xs.length:=by rw[<-K3,<-pm.length_eq,F3]
 have hb1:es.size+1<ac6:=by rw[hn];exact hroom
 unfold ar0 setAddHashedIn;refine O9 (o0 (aa7 p.get p.data p.fit ?_));dsimp only;rw[byScan_of rfl p.room hel];simp only[↓reduceIte];unfold setAddByScan;refine o0 ?_;refine o0 (ak6 ?_);refine o0 (wpAny_setScan_of hkey p.get p.data p.fit hel ?_);cases hr:List.findIdx? (fun e=>(strKind prog w).is x e.2) es.toList with
 |some j =>
  dsimp only;obtain⟨hj,hpj,_⟩:=List.findIdx?_eq_some_iff_getElem.mp hr;have hx:x∈xs:=pm.mem_iff.mp ((p.mem x).mp ⟨es.toList[j],R6 hj,hpj⟩);refine u8 (u8 ?_);have e:s={ s with heap:=s.heap }:=by cases s;rfl
  rw[e];exact h _ s.heap (P2.refl a s.heap) (by rw[if_pos hx];exact⟨o,es,ep,t,p,pm⟩)
 |none =>
  dsimp only;have hx:x∉es.toList.map fun e=>txt e.2:=fun q=>by
   obtain⟨e,he,z⟩:=(p.mem x).mpr q;have:=List.findIdx?_eq_none_iff.mp hr e he;rw[z]at this;exact Bool.noConfusion this
  have hx':x∉xs:=fun q=>hx (pm.mem_iff.mpr q);have hgw:∀(b:Bool) {s₁:F2} {Q':Unit->F2->Prop},Q' () s₁->J4 (M0 prog w) A (match b with|true=>rule "set.scan.the-table-gave-way" |false=>af5 ()) Q' E s₁ :=
   fun b s₁ Q' hq=>by cases b<;>first|exact u8 hq|exact ak6 hq
  have hperm:=layNew_perm t es ((strKind prog w).hash x) (.str x tk);have hfits:=layNew_fits t es ((strKind prog w).hash x) (.str x tk);have hled:=tF t es ((strKind prog w).hash x) (.str x tk);generalize hL:layNew t es ((strKind prog w).hash x) (.str x tk)=L at hperm hfits hled ⊢;obtain⟨es1,t1,wasDummy,gave⟩:=L;dsimp only at hperm hfits hled ⊢;rw[ak9]at hperm;have hel1:ElT prog w es1.toList:=fun e he=>by
   rcases K0.mp (hperm.mem_iff.mp he)with he|he
   ·exact p.el e he
   ·rw[J5]at he;exact⟨x,tk,he⟩
  have hm:(es1.toList.map fun e=>txt e.2).Perm ((es.toList.map fun e=>txt e.2)++[x]):=by
   have:=j5 hperm
   rwa [U5]at this
  have hnd:(es1.toList.map fun e=>txt e.2).Nodup:=by
   rw[hm.nodup_iff,Z0];exact⟨p.nd,by simp,fun a ha b hb=>by rw[J5]at hb;subst hb;intro q;subst q;exact hx ha⟩
  have hb1':es1.size<ac6:=by rw[<-K3,hperm.length_eq,J1,K3];simpa using hb1
  refine o0 (hgw _ ?_);have hend:∀h',P2 a s.heap h'->fG prog w h' a (es1.toList.map fun e=>txt e.2)->Q true { s with heap:=h' }:=fun h' hsb hS' =>
   h _ h' hsb (by rw[if_neg hx'];exact hS'.perm (hm.trans (pm.append_right _)))
  split
  ·refine o0 ?_;rw[hashByValue_scannable 8 rfl];refine u8 ?_;refine Bz (t2:={ t1 with plain:=false }) ?_ p.get p.ex p.data hel1 hnd hb1' (K8.fits_plain_off hfits) (hled.trans p.led) rfl ?_
   ·intro b s₁ Q' hq;cases b<;>first|exact u8 hq|exact ak6 hq
   ·intro h' hsb hS';dsimp only;exact u8 (hend h' hsb hS')
  ·rename_i hp;refine o0 (u8 ?_);simp only[↓reduceIte];refine Bz ?_ p.get p.ex p.data hel1 hnd hb1' hfits (hled.trans p.led) (by simpa using hp) ?_
   ·intro b s₁ Q' hq;cases b<;>first|exact u8 hq|exact ak6 hq
   ·intro h' hsb hS';dsimp only;exact u8 (hend h' hsb hS')
end
def dS(xs:List Str) (x:Str):List Str:=if x∈xs then xs else xs++[x]
def cp(xs:List Str):List Str:=xs.foldl dS []
theorem vj(xs:List Str) (x:Str):(dS xs x).length<=xs.length+1:=by unfold dS;split<;>simp
theorem vX(xs:List Str) (x y:Str):y∈dS xs x↔y∈xs∨y=x:=by
 unfold dS;split
 ·rename_i h;exact⟨.inl,fun q=>q.elim id fun e=>e▸h⟩
 ·simp
theorem kE:∀(xs zs:List Str),(xs.foldl dS zs).length<=zs.length+xs.length
 |[],_=>F7 _
 |x::xs,zs=>by
  have:=kE xs (dS zs x);have:=vj zs x;simp only[W5,T0];lia
theorem oB:∀(xs zs:List Str) (y:Str),y∈xs.foldl dS zs↔y∈zs∨y∈xs
 |[],_,_=>by simp
 |x::xs,zs,y=>by
  rw[W5,oB xs,vX,J3,or_assoc]
theorem ml(xs:List Str) (y:Str):y∈cp xs↔y∈xs:=by rw[cp,oB];simp
theorem y3(xs:List Str):(cp xs).length<=xs.length:=by have:=kE xs [];simpa[cp]using this
theorem vB(xs:List Str) (i:Nat) (h:i<xs.length):cp (xs.take (i+1))=dS (cp (xs.take i)) xs[i]:=by
 rw[List.take_succ_eq_append_getElem h,cp,List.foldl_append];rfl
section
variable{prog:K6}{w:Q7}{A:N6}{R:at1->F2->Prop}{I:F9}{fp wr:List F9}{G:Array am9->Array am9->Prop}{P:Nat->s0->Prop}{St:Nat->F2->Prop}
theorem Fv{xs:List Str}(W:WalksS prog w A.in1 I fp wr G xs.length P St) (S:F9) (hSf:S∉fp)
  (hval:∀i v (h:i<xs.length),P i v->∃t,v=.str xs[i] t) (hb:xs.length+1<ac6) :
  ∀(k i:Nat) (s:F2),xs.length-i=k->i<=xs.length->St i s->fG prog w s.heap S (cp (xs.take i)) ->
   (∀s',Moved (S::wr) G s s'->fG prog w s'.heap S (cp xs)->R (.ok (.ret .none)) s') ->
   ah6 (M0 prog w) A (.builtin "set.update.loop" ⟨[.ref S,.ref I],[]⟩) R s:=by
 have hSw:S∉wr:=fun h=>hSf (W.sub _ h);have hsub:∀b∈wr,b∈S::wr:=fun b hb=>O0 _ hb;intro k
 induction k with
 |zero =>
  intro i s hk hi hst hS hR;have hin:i=xs.length:=by lia
  subst hin;refine U4 af0 ?_;rw[T8 W8 _];show J4 _ A.in1 (an7 (.ref I) >>= _) _ _ s;refine o0 (W.done s _ _ hst fun s' hm=>?_);show J4 _ A.in1 (ret L8) _ _ s';rw[aa0]at hS;exact u8 (hR s' (hm.mono hsub) (hS.mono fun o e=>hm.heap S _ hSw e))
 |succ k ih =>
  intro i s hk hi hst hS hR;have hlt:i<xs.length:=by lia
  refine U4 af0 ?_;rw[T8 W8 _];show J4 _ A.in1 (an7 (.ref I) >>= _) _ _ s;refine o0 (W.item i s _ _ hlt hst fun v s' hP hst' hm=>?_);obtain⟨t,rfl⟩:=hval i v hlt hP;have hS':fG prog w s'.heap S (cp (xs.take i)):=hS.mono fun o e=>hm.heap S _ hSw e;show J4 _ A.in1 (ak1 [ap5 xs[i] t] (setAdd S (.str xs[i] t)) >>= _) _ _ s';refine o0 (O9 ?_);unfold setAdd;refine O9 ?_;refine o0 ((strKind prog w).pyHash (k:=xs[i]) (as8 _ _ _ _) ?_);have hroom:(cp (xs.take i)).length+1<ac6:=by have:=y3 (xs.take i);rw[P4]at this;lia
  refine FB (s:={ s' with toks:=s'.toks+1 }) hS' hroom fun b h' hsb hS2=>?_;have hSi:fG prog w h' S (cp (xs.take (i+1))):=by rw[vB xs i hlt];exact hS2
  refine u8 ⟨ae9 W8 _,ih (i+1) _ (by lia) hlt (W.frame _ s' _ _ hst' (ai4 _) fun b hb o e=>?_) hSi fun s'' hm'' hS''=>?_⟩
  ·rw[hsb.2 b (fun h:b=S=>hSf (by rw[<-h];exact hb))];exact e
  ·refine hR s'' (Moved.trans W.gtrans ((hm.mono hsub).then_heap (ai4 _) fun b o hb e=>?_) hm'') hS'';rw[hsb.2 b (fun h:b=S=>hb (by rw[h];exact R5))];exact e
end
section
variable{prog:K6}{w:Q7}{A:N6}{E:s0->F2->Prop}{s:F2}
abbrev fO(w:Q7):Obj:={ cls:=.type "set",dict:=none,data:=.set #[] 0 (.fresh 0 0 (!byT w)) }
theorem Dc{h:K5}{a:F9}(g:h.get? a=some (fO w)):fG prog w h a [] :=
 ⟨_,#[],0,_,⟨g,⟨rfl,rfl,rfl⟩,rfl,fun e he=>by simp at he,by simp,by decide,rfl,rfl,fun q=>absurd rfl q⟩,by simp⟩
theorem qB(a:s0) {Q₁:s0->F2->Prop}(h:Q₁ (.ref s.heap.objs.size) { s with heap:=s.heap.push (fO w) }) :
  ah6 (M0 prog w) A (.call (.builtin "set.__new__") ⟨[.type "set",a],[]⟩) (wants Q₁ E) s:=by
 refine aj7 ?_;show J4 _ A.in1 (do checkBuiltinCall "set.__new__" ⟨[.type "set",a],[]⟩;again (.builtin "set.__new__" ⟨[.type "set",a],[]⟩)) _ _ s;refine o0 (ao2 (PySem.F.newCall_set_1 a) (u8 ⟨ae9 PySem.F.plain_set_new _,U4 PySem.F.entry_set_new ?_⟩));rw[T8 PySem.F.plain_set_new _];unfold K7.«set.__new__» K7.Frozenset.newClass;have hsub:=sub_set_self;obtain⟨hp,g,d,tk,os⟩:=s;dsimp only
 wp_walk
 refine ai0 (u8 ?_);dsimp only;simp only[newObj];refine o0 (wpAny_alloc (u8 ?_));exact u8 h
set_option maxHeartbeats 3200000 in
theorem nZ{l:F9}{items:Array s0}{xs:List Str}{Q:s0->F2->Prop}
  (hh:A.handled=none) (hl:s.heap.IsList l items) (hn:items.size=xs.length) (hi:∀i (h:i<xs.length),∃t,items[i]?=some (.str xs[i] t)) (hb:xs.length+1<ac6)
  (h:∀(h':K5) (tk:Nat),fG prog w h' s.heap.objs.size (cp xs)->(∀b o,s.heap.get? b=some o->h'.get? b=some o)->Q (.ref s.heap.objs.size) { s with heap:=h',toks:=tk }) :
  J4 (M0 prog w) A (call (.type "set") [.ref l]) Q E s:=by
 obtain⟨c,tl,hmro⟩:=P3.mro;have hmade:=P3.made;have hsub:=P3.sub;refine af4 (aj7 ?_);show J4 _ _ (callAny (.type "set") _) _ _ _;refine u8 ⟨af7 _ (by decide +kernel),U4 PySem.F.entry_type_call ?_⟩;rw[N6.under_plain (weight_type_call_type "set" [.ref l] []) rfl];have h1:=P3.notType;have h2:=P3.canCreate;have hct:=PySem.F.typeCall_set_1 (.ref l)
 repeat (any_goals (first|assumption|wp_step))
 refine aa4 (qB (.ref l) (E:=E) (Q₁:=fun obj s₁=>obj=.ref s.heap.objs.size/\s₁={ s with heap:=s.heap.push (fO w) }) ⟨rfl,rfl⟩) fun r s₁ hr=>?_;cases r with
 |error e=>exact hr
 |ok fl =>
  cases fl with
  |ret obj =>
   obtain⟨rfl,rfl⟩:=hr;have hS:(s.heap.push (fO w)).get? s.heap.objs.size=some (fO w):=J6 _ rfl;have hT:aq1 { s with heap:=s.heap.push (fO w) } (.ref s.heap.objs.size) "set":=⟨_,hS,rfl⟩;have hli:=P3.init.lookup;have hbi:=P3.init.bind (.ref s.heap.objs.size)
   repeat (any_goals (first|assumption|wp_step))
   refine aa4 (X1 (R:=wants (fun r s₂=>r=.none/\∃h' tk,s₂={ s with heap:=h',toks:=tk } /\
     fG prog w h' s.heap.objs.size (cp xs)/\(∀b o,s.heap.get? b=some o->h'.get? b=some o)) E) P3.init.plain PySem.F.entry_set_init (check_set_init_1 hT ?_)) fun r₂ s₂ hr₂=>?_
   ·obtain⟨ol,hol,hcl,nl,hdl⟩:=hl;obtain⟨ocls,odict,odata,oslots⟩:=ol;simp only at hcl hdl;subst hcl;subst hdl;have hol':(s.heap.push (fO w)).get? l=some { cls:=.type "list",dict:=odict,data:=.seq items nl,slots:=oslots }:=F1 _ hol;have hsls:=PySem.F.sub_list_set;have hslf:=PySem.F.sub_list_frozenset;have hne:(O6 "list"==O6 "dict")=false:=by decide
    have hl1:(s.heap.push (fO w)).IsList l items:=⟨_,hol',rfl,nl,rfl⟩;unfold K7.«set.__init__» noKeywords K7.Frozenset.updateFrom;generalize hPI:aq6=PI
    wp_walk
    subst hPI;refine ak7 hl1 ?_;refine o0 (wpAny_runValue ?_);have hlS:l<s.heap.objs.size:=J8 hol;have hh3:A.in1.in1.in1.handled=none:=by simp[hh]
    have hneI:l≠(s.heap.push (fO w)).objs.size:=by
     rw[U8];exact L6 (S6 hlS)
    have hSf:s.heap.objs.size∉[(s.heap.push (fO w)).objs.size,l]:=by
     rw[U8];simp only[J3,J5,L9,or_false,not_or];exact⟨L6 (ab8 _),af9 hlS⟩
    have W:=(at6.list (prog:=prog) (w:=w) hh3 _ l hneI items).toS;rw[hn]at W;refine Fv (xs:=xs) W s.heap.objs.size hSf (fun i v hlt hv=>?_) hb (xs.length-0) 0 _ (by lia) (Q5 _) ?St0 ?hS0 ?hR
    case St0=>exact⟨⟨_,J6 _ rfl,rfl,rfl⟩,(hl1.push _)⟩
    ·obtain⟨t,g⟩:=hi i hlt;have hv':items[i]?=some v:=hv;rw[g]at hv';exact⟨t,(P9 hv').symm⟩
    case hS0=>exact Dc (F1 _ hS)
    case hR =>
     intro s' hm hS';obtain⟨h',g',d',tk',os'⟩:=s';have eg:g'=s.gens:=hm.gens;have ed:d'=s.drawn:=hm.drawn;have eo:os'=s.os:=hm.os;subst eg;subst ed;subst eo;show J4 _ _ _ _ _ _;refine u8 ?_;show J4 _ _ (ret L8) _ _ _;refine u8 ⟨rfl,h',tk',rfl,hS',fun b o e=>?_⟩;have hb:=J8 e;have hb1:b≠s.heap.objs.size:=L6 hb;have hb2:b≠(s.heap.push (fO w)).objs.size:=by
      rw[U8];exact L6 (S6 hb)
     exact hm.heap b o (by simp only[J3,J5,L9,or_false,not_or];exact⟨hb1,hb2⟩) (F1 _ (F1 _ e))
   ·cases r₂ with
    |error e=>exact hr₂
    |ok fl₂ =>
     cases fl₂ with
     |ret r =>
      obtain⟨rfl,h',tk,rfl,hS',hk'⟩:=hr₂
      repeat (any_goals (first|assumption|wp_step))
      exact h _ _ hS' hk'
     |_=>exact hr₂.elim
  |_=>exact hr.elim
end
theorem kW{α:Type}(f:Nat->Nat):∀(n k:Nat) (l:List α) (out:Array α),l.length=n->(ag5.go f n k l out).toList.Perm (out.toList++l)
 |0,k,l,out,h=>by
  have:l=[]:=ae7.mp h;subst this;simp[ag5.go]
 |n+1,k,l,out,h=>by
  have hl:f k % l.length<l.length:=aj0 _ (by lia);simp only[ag5.go,F4 hl];refine(kW f n (k+1) _ _ (by rw[List.length_eraseIdx_of_lt hl];lia)).trans ?_;rw[ak9,aa6];refine ap7.append_left _ ?_;have z:l=l.take (f k % l.length)++l[f k % l.length]::l.drop (f k % l.length+1):=by rw[List.getElem_cons_drop];simp
  have e:l.eraseIdx (f k % l.length)=l.take (f k % l.length)++l.drop (f k % l.length+1):=List.eraseIdx_eq_take_drop_succ l _;rw[e];generalize l[f k % l.length]=x at z ⊢
  conv=>rhs;rw[z]
  rw[List.singleton_append];exact ai1.symm
theorem kJ{α:Type}(f:Nat->Nat) (xs:Array α):(ag5 f xs).toList.Perm xs.toList:=by
 have:=kW f xs.size 0 xs.toList #[] (by simp);simpa[ag5]using this
section
variable{prog:K6}{w:Q7}{A:N6}{E:s0->F2->Prop}{s:F2}
theorem lL{Q:Bool->F2->Prop}(h:Q (byT w) s):J4 (M0 prog w) A setsByText Q E s:=by
 unfold setsByText;exact o0 (ai0 (u8 h))
end
end L2
namespace L2
open PySem
def f51(x:Nat):Nat:=5*x+1
def lA:Nat->Nat->Nat
 |0,x=>x
 |n+1,x=>lA n (f51 x)
theorem lY(m n x:Nat):lA (m+n) x=lA n (lA m x):=by
 induction m generalizing x with
 |zero=>simp[lA]
 |succ m ih=>rw[Nat.succ_add];simp only[lA];exact ih _
theorem xw(k:Nat):∃a c,∀z,lA (2 ^ k) z=z+2 ^ (k+2)*a*z+2 ^ k+2 ^ (k+1)*c:=by
 induction k with
 |zero=>exact⟨1,0,fun z=>by simp[lA,f51];lia⟩
 |succ k ih =>
  obtain⟨a,c,h⟩:=ih;generalize hp:2 ^ k=p at *
  have e1:2 ^ (k+1)=2*p:=by rw[am3,hp,am1]
  have e2:2 ^ (k+2)=4*p:=by rw[as0,hp];lia
  have e3:2 ^ (k+1+2)=8*p:=by rw[show k+1+2=k+3 by lia,as0,hp];lia
  have e4:2 ^ (k+1+1)=4*p:=e2;rw[e1,e3,e4];rw[e1,e2]at h;refine⟨a+2*p*a*a,c+p*a+2*p*a*c,fun z=>?_⟩;rw[show 2*p=p+p by lia,lY,h,h]
  grind
theorem yo(k:Nat):∀x j,j<2 ^ k->∃n,n<2 ^ k/\lA n x % 2 ^ k=j:=by
 induction k with
 |zero=>intro x j h;exact⟨0,by simp,by simp at h;simp[h,Nat.mod_one]⟩
 |succ k ih =>
  intro x j hj;obtain⟨a,c,hs⟩:=xw k;have pos:0<2 ^ k:=Nat.two_pow_pos k;have e1:2 ^ (k+1)=2*2 ^ k:=by rw[am3,am1]
  have e2:2 ^ (k+2)=2*(2*2 ^ k):=by rw[as0];lia
  obtain⟨n,hn,he⟩:=ih x (j % 2 ^ k) (aj0 _ pos);generalize hy:lA n x=y at he;generalize hp:2 ^ k=p at *
  have hm:y % (2*p)=j∨(y+p) % (2*p)=j:=by
   rw[e1]at hj;have d1:=Nat.div_add_mod y (2*p);have d3:=aj0 y (show 0<2*p by lia);have:y % (2*p) % p=y % p:=Nat.mod_mul_left_mod y 2 p;rw[he]at this;generalize y % (2*p)=r at *
   have q1:r=p*(r / p)+r % p:=(Nat.div_add_mod r p).symm;have q2:j=p*(j / p)+j % p:=(Nat.div_add_mod j p).symm;have r2:r / p<2:=Nat.div_lt_of_lt_mul (by lia);have j2:j / p<2:=Nat.div_lt_of_lt_mul (by lia);rw[this]at q1;have hy':(y+p) % (2*p)=(r+p) % (2*p):=by
    rw[<-d1,aq2,Nat.mul_add_mod]
   rw[hy'];have jl:j % p<p:=aj0 _ pos;generalize j % p=u at *
   have two:∀q,q<2->q=0∨q=1:=fun q h=>by lia
   have c1:=two _ r2;have c2:=two _ j2;rcases c1 with c1|c1<;>rcases c2 with c2|c2<;>rw[c1]at q1<;>rw[c2]at q2<;>simp only[Nat.mul_zero,Nat.mul_one,Nat.zero_add]at q1 q2
   ·left;lia
   ·right;rw[Nat.mod_eq_of_lt (by lia)];lia
   ·right;rw[show r+p=u+1*(2*p)by lia,Nat.add_mul_mod_self_right,Nat.mod_eq_of_lt (by lia)];lia
   ·left;lia
  rcases hm with hm|hm
  ·exact⟨n,by lia,by rw[e1,hy];exact hm⟩
  ·refine⟨n+p,by lia,?_⟩;rw[lY,hy,hs y,e1,e2];have:y+2*(2*p)*a*y+p+2*p*c=(y+p)+(2*a*y+c)*(2*p):=by grind
   rw[this,Nat.add_mul_mod_self_right];exact hm
end L2
namespace L2
open PySem PySem.SetTable
def pS(mask:Nat) (h:Int):Probe:={ j:=bits h % (mask+1),more:=runEnd mask (bits h % (mask+1))-bits h % (mask+1),i:=bits h % (mask+1),perturb:=bits h,dummy:=none }
def pA(mask:Nat) (p:Probe):Probe :=
 if p.more > 0 then { p with j:=p.j+1,more:=p.more-1 }
 else { p with j:=(leap mask p.i p.perturb).1,more:=runEnd mask (leap mask p.i p.perturb).1-(leap mask p.i p.perturb).1,i:=(leap mask p.i p.perturb).1,perturb:=(leap mask p.i p.perturb).2 }
def pth(mask:Nat) (h:Int):Nat->Probe
 |0=>pS mask h
 |n+1=>pA mask (pth mask h n)
def rs(mask:Nat) (h:Int):Nat->Nat×Nat
 |0=>(bits h % (mask+1),bits h)
 |n+1=>leap mask (rs mask h n).1 (rs mask h n).2
def atR(mask:Nat) (r:Nat×Nat):Probe:={ j:=r.1,more:=runEnd mask r.1-r.1,i:=r.1,perturb:=r.2,dummy:=none }
variable{mask:Nat}{h:Int}
theorem Cd(i:Nat):runEnd mask i-i<=9:=by unfold runEnd;split<;>lia
theorem o4{n:Nat}{r:Nat×Nat}(e:pth mask h n=atR mask r):∀q,q<=runEnd mask r.1-r.1->pth mask h (n+q)={ atR mask r with j:=r.1+q,more:=runEnd mask r.1-r.1-q }
 |0,_=>by rw[Nat.add_zero,e];rfl
 |q+1,hq=>by
  rw[<-aq2];show pA mask (pth mask h (n+q))=_;rw[o4 e q (by lia)];unfold pA;rw[if_pos (show runEnd mask r.1-r.1-q > 0 by lia)];rfl
theorem wM:∀m,∃n,n<=10*m/\pth mask h n=atR mask (rs mask h m)
 |0=>⟨0,by lia,rfl⟩
 |m+1=>by
  obtain⟨n,hn,e⟩:=wM m;have hl:=Cd (mask:=mask) (rs mask h m).1;refine⟨n+(runEnd mask (rs mask h m).1-(rs mask h m).1)+1,by lia,?_⟩;show pA mask (pth mask h (n+_))=_;rw[o4 e _ (F7 _)];unfold pA;rw[if_neg (by simp)];rfl
theorem zo:bits h<2 ^ 64:=by
 unfold bits;have:=Int.emod_lt_of_pos h (show(0:Int)<2 ^ 64 by decide);have:=Int.emod_nonneg h (show(2 ^ 64:Int)≠0 by decide)
 lia
theorem ya:∀m,(rs mask h m).2=bits h / 32 ^ m
 |0=>by simp[rs]
 |m+1=>by
  show(rs mask h m).2 / 32=_;rw[ya m,Nat.div_div_eq_div_mul,am3]
theorem FN(m:Nat):(rs mask h (13+m)).2=0:=by
 rw[ya];refine Nat.div_eq_of_lt (J9 zo ?_);rw[as0];exact O4 (by decide) (Nat.le_mul_of_pos_right (32 ^ 13) (Nat.pow_pos (by decide)))
theorem BA:∀m,(rs mask h (13+m)).1 % (mask+1)=lA m (rs mask h 13).1 % (mask+1)
 |0=>rfl
 |m+1=>by
  show(leap mask (rs mask h (13+m)).1 (rs mask h (13+m)).2).1 % _=_;unfold leap;rw[FN,lY m 1];show((rs mask h (13+m)).1*5+1+0 / 32) % (mask+1) % (mask+1)=(5*lA m (rs mask h 13).1+1) % (mask+1);rw[Nat.mod_mod,Nat.zero_div,Nat.add_zero,Nat.add_mod,Nat.mul_mod,BA m,<-Nat.mul_mod,<-Nat.add_mod,am1]
theorem Bv(m:Nat):(rs mask h m).1<mask+1:=by
 cases m with
 |zero=>exact aj0 _ (ar1 _)
 |succ m=>exact aj0 _ (ar1 _)
theorem uA{k:Nat}(hk:mask+1=2 ^ k) {j:Nat}(hj:j<=mask):∃m n,m<=mask+13/\n<=10*m/\(rs mask h m).1=j/\(pth mask h n).j=j:=by
 obtain⟨m,hm,e⟩:=yo k (rs mask h 13).1 j (by lia);rw[<-hk]at hm e;have e2:=BA (mask:=mask) (h:=h) m;rw[e,Nat.mod_eq_of_lt (Bv _)]at e2;obtain⟨n,hn,en⟩:=wM (mask:=mask) (h:=h) (13+m);exact⟨13+m,n,by lia,hn,e2,by rw[en];exact e2⟩
theorem so(n:Nat):(pth mask h n).j<=mask:=by
 have key:∀n,(pth mask h n).j+(pth mask h n).more<=mask/\(pth mask h n).dummy=none:=fun n=>by
  have st:∀i,i<mask+1->i+(runEnd mask i-i)<=mask:=fun i hi=>by unfold runEnd;split<;>lia
  induction n with
  |zero=>exact⟨st _ (aj0 _ (ar1 _)),rfl⟩
  |succ n ih =>
   show(pA mask (pth mask h n)).j+(pA mask (pth mask h n)).more<=mask/\(pA mask (pth mask h n)).dummy=none;unfold pA
   split
   ·exact⟨by have:=ih.1;dsimp only;lia,ih.2⟩
   ·exact⟨st _ (aj0 _ (ar1 _)),ih.2⟩
 have:=(key n).1
 lia
theorem BZ(n:Nat):(pth mask h n).dummy=none:=by
 induction n with
 |zero=>rfl
 |succ n ih =>
  show(pA mask (pth mask h n)).dummy=none;unfold pA
  split<;>exact ih
theorem Ey{P:Nat->Prop}{n:Nat}(h:P n):∃m,m<=n/\P m/\∀l,l<m->¬ P l:=by
 induction n using Nat.strongRecOn with
 |_ n ih =>
  by_cases c:∃l,l<n/\P l
  ·obtain⟨l,hl,pl⟩:=c;obtain⟨m,hm,a,b⟩:=ih l hl pl;exact⟨m,by lia,a,b⟩
  ·exact⟨n,F7 _,h,fun l hl pl=>c ⟨l,hl,pl⟩⟩
def Ri(xs:Array Nat):Prop:=∀i j,i<j->j<xs.size->xs.getD i 0<xs.getD j 0
theorem wy{xs:Array Nat}{i:Nat}(h:i<xs.size) (a b:Nat):xs.getD i a=xs.getD i b:=by simp[X8,h]
theorem mY{xs:Array Nat}(up:Ri xs) (j:Nat):∀f lo hi,hi-lo<=f->lo<=hi->hi<=xs.size->(∀i,i<lo->xs.getD i 0<j)->(∀i,hi<=i->i<xs.size->j<=xs.getD i 0) ->
  below.go xs j f lo hi<=xs.size/\(∀i,i<below.go xs j f lo hi->xs.getD i 0<j)/\∀i,below.go xs j f lo hi<=i->i<xs.size->j<=xs.getD i 0
 |0,lo,hi,h1,h2,h3,a,b=>by
  obtain rfl:lo=hi:=by lia
  exact⟨h3,a,b⟩
 |f+1,lo,hi,h1,h2,h3,a,b=>by
  unfold below.go
  by_cases c:lo<hi
  ·rw[if_pos c];dsimp only
   by_cases d:xs.getD ((lo+hi) / 2) j<j
   ·rw[if_pos d];rw[wy (by lia) j 0]at d;refine mY up j f _ _ (by lia) (by lia) h3 (fun i hi'=>?_) b;rcases R3 i ((lo+hi) / 2)with q|q
    ·exact Nat.lt_trans (up i _ q (by lia)) d
    ·obtain rfl:i=(lo+hi) / 2:=by lia
     exact d
   ·rw[if_neg d];rw[wy (by lia) j 0]at d;refine mY up j f _ _ (by lia) (by lia) (by lia) a (fun i h4 h5=>?_);rcases R3 ((lo+hi) / 2) i with q|q
    ·have:=up _ i q h5;lia
    ·obtain rfl:i=(lo+hi) / 2:=by lia
     lia
  ·rw[if_neg c];obtain rfl:lo=hi:=by lia
   exact⟨h3,a,b⟩
theorem mq{xs:Array Nat}(up:Ri xs) (j:Nat):below xs j<=xs.size/\(∀i,i<below xs j->xs.getD i 0<j)/\∀i,below xs j<=i->i<xs.size->j<=xs.getD i 0 :=
 mY up j _ _ _ (by lia) (Q5 _) (F7 _) (fun i h=>by lia) (fun i h1 h2=>by lia)
def Occ(xs:Array Nat) (j:Nat):Prop:=∃i,i<xs.size/\xs.getD i 0=j
theorem nU{t:K8}(up:Ri t.place) {i j:Nat}(hi:i<t.place.size) (e:t.place.getD i 0=j):t.slot j=.live i:=by
 obtain⟨h1,h2,h3⟩:=mq up j;have:below t.place j=i:=by
  rcases al0 (below t.place j) i with q|q|q
  ·have a:=h3 _ (F7 _) (by lia);have b:=up _ i q hi
   lia
  ·exact q
  ·have:=h2 i q;lia
 unfold slot;rw[this];have g:t.place[i]?=some j:=by rw[K9 hi,<-e];simp[X8,hi]
 simp[g]
theorem sP{t:K8}(dm:t.dummies=#[]) {j:Nat}(n:¬ Occ t.place j):t.slot j=.empty:=by
 unfold slot;have g:(t.place[below t.place j]?==some j)=false:=by
  cases q:t.place[below t.place j]? with
  |none=>rfl
  |some x =>
   obtain⟨hi,e⟩:=R1.mp q;simp only[beq_eq_false_iff_ne,ne_eq,al2];intro z;exact n ⟨_,hi,by simp[X8,hi,e,z]⟩
 rw[if_neg (by rw[g];decide),dm];rfl
theorem vf{xs:Array Nat}(up:Ri xs) {mask:Nat}(few:xs.size<=mask):∃j,j<=mask/\¬ Occ xs j:=by
 refine V8 fun c=>?_;have all:∀j,j<=mask->Occ xs j:=fun j hj=>V8 fun d=>c ⟨j,hj,d⟩;have key:∀j,j<=mask+1->j<=xs.size/\∀i,i<j->xs.getD i 0=i:=fun j=>by
  induction j with
  |zero=>exact fun _=>⟨Q5 _,fun i h=>by lia⟩
  |succ j ih =>
   intro hj;obtain⟨h1,h2⟩:=ih (by lia);obtain⟨i,hi,e⟩:=all j (by lia);have a:¬ i<j:=fun q=>by have:=h2 i q;lia
   have b:i=j:=by
    rcases R3 j i with q|q
    ·have b1:=up j i q hi;rw[e]at b1;cases j with
     |zero=>lia
     |succ j =>
      have b2:=up j (j+1) (by lia) (by lia);have b3:=h2 j (by lia)
      lia
    ·lia
   subst b;refine⟨hi,fun l hl=>?_⟩;rcases R3 l i with q|q
   ·exact h2 l q
   ·obtain rfl:l=i:=by lia
    exact e
 have:=(key (mask+1) (F7 _)).1
 lia
structure TB(t:K8) (hs:List Int):Prop where
 sz:t.place.size=hs.length
 up:Ri t.place
 le:∀i,i<t.place.size->t.place.getD i 0<=t.mask
 dm:t.dummies=#[]
 pw:∃k,3<=k/\t.mask+1=2 ^ k
 few:t.place.size<=t.mask
 pr:∀i h,hs[i]?=some h->∃n,(pth t.mask h n).j=t.place.getD i 0/\∀m,m<n->Occ t.place (pth t.mask h m).j
theorem TB.free{t:K8}{hs:List Int}(T:TB t hs) (h:Int):∃n,n<=10*(t.mask+13)/\¬ Occ t.place (pth t.mask h n).j/\∀m,m<n->Occ t.place (pth t.mask h m).j:=by
 obtain⟨j,hj,nj⟩:=vf T.up T.few;obtain⟨k,_,hk⟩:=T.pw;obtain⟨m,n,hm,hn,_,e⟩:=uA (mask:=t.mask) (h:=h) hk hj;obtain⟨n0,h1,h2,h3⟩:=Ey (P:=fun n=>¬ Occ t.place (pth t.mask h n).j) (n:=n) (by rw[e];exact nj);exact⟨n0,by lia,h2,fun m hm=>V8 fun d=>h3 m hm d⟩
theorem qO{t:K8}{hs:List Int}(T:TB t hs) {h:Int}{n0:Nat}(f0:¬ Occ t.place (pth t.mask h n0).j) (f1:∀m,m<n0->Occ t.place (pth t.mask h m).j) {ha:Nat->Int}:∀F n,n<=n0->n0-n<F ->
    ∃ m,n ≤ m ∧ m ≤ n0 ∧ (∀ l,n ≤ l → l < m → ∃ i,i < t.place.size ∧ t.place.getD i 0 = (pth t.mask h l).j ∧ ha i ≠ h) ∧
      ((m = n0 ∧ probe.go t ha h F (pth t.mask h n) = some (.empty (pth t.mask h n0).j none)) ∨
       (m<n0/\∃i,i<t.place.size/\t.place.getD i 0=(pth t.mask h m).j/\ha i=h/\probe.go t ha h F (pth t.mask h n)=some (.candidate (pth t.mask h m).j i (pth t.mask h (m+1)))))
  |0,n,h1,h2=>by lia
  | F + 1,n,h1,h2 => by
    rcases R3 n n0 with q|q
    · obtain ⟨i,hi,e⟩:=f1 n q;have es:=nU T.up hi e
      by_cases c:ha i=h
      · refine ⟨n,F7 _,h1,fun l a b => by lia,.inr ⟨q,i,hi,e,c,?_⟩⟩;unfold probe.go;rw[es];dsimp only;rw[if_pos (by simpa using c)];rfl
      · obtain ⟨m,m1,m2,m3,m4⟩:=qO T f0 f1 (ha:=ha) F (n + 1) (by lia) (by lia);have eq:probe.go t ha h (F+1) (pth t.mask h n)=probe.go t ha h F (pth t.mask h (n+1)):=by
          rw[probe.go,es];dsimp only;rw[if_neg (by simpa using c)];rfl
        rw[eq];refine⟨m,by lia,m2,fun l a b=>?_,m4⟩;rcases R3 n l with d|d
        · exact m3 l d b
        · obtain rfl:l = n:=by lia
          exact⟨i,hi,e,c⟩
    · obtain rfl:n = n0:=by lia
      refine⟨n,F7 _,F7 _,fun l a b=>by lia,.inl ⟨rfl,?_⟩⟩;unfold probe.go;rw[sP T.dm f0];dsimp only;rw[BZ]
end L2
namespace L2
open PySem PySem.Spec PyProof.Rows
theorem bb:Slot "set_iterator" "__next__" "set_iterator.__next__" :=
 .of (owner:="set_iterator") (n:="__next__") (by rw[typeLookup_type,builtinLookup_eq_fast];kernel_rfl) (by decide +kernel) (by decide +kernel) (by decide +kernel)
  (by first|exact .inl (by decide +kernel)|exact .inr (by decide +kernel)) (by rw[isSubtype_type];kernel_rfl)
theorem df:entryFor table "set_iterator.__next__"=some K7.«set_iterator.__next__»:=entryFor_of_tree (by kernel_rfl)
theorem dD(a:s0):argsOk "set_iterator.__next__" ⟨[a],[]⟩:=by unfold argsOk;kernel_rfl
noncomputable abbrev jD(f:s0) (i:Nat) (a:F9) (n ep:Nat):Obj:={ cls:=.type "set_iterator",data:=.fields #[f,Z6 i,.ref a,Z6 n,Z6 ep] }
structure eZ(w:Q7) (h:K5) (a:F9) (o:Obj) (es:Array (Int×s0)) (ep:Nat) (t:K8):Prop where
 get:h.get? a=some o
 ex:o.ExactSet
 data:o.data=.set es ep t
 room:es.size<ac6
 fit:t.fits es.size=true
 led:t.led=!byT w
 go:(es.size≠0->t.plain=false)∨Ri t.place
theorem pH.b{prog:K6}{w:Q7}{h:K5}{a:F9}{o:Obj}{es:Array (Int×s0)}{ep:Nat}{t:K8}(p:pH prog w h a o es ep t):eZ w h a o es ep t:=⟨p.get,p.ex,p.data,p.room,p.fit,p.led,.inl p.pl⟩
theorem eZ.kept{w:Q7}{h h':K5}{a:F9}{o:Obj}{es:Array (Int×s0)}{ep:Nat}{t:K8}(p:eZ w h a o es ep t) (k:h'.get? a=some o):eZ w h' a o es ep t:=⟨k,p.ex,p.data,p.room,p.fit,p.led,p.go⟩
theorem eZ.typeIs{w:Q7}{s:F2}{a:F9}{o:Obj}{es:Array (Int×s0)}{ep:Nat}{t:K8}(p:eZ w s.heap a o es ep t):s.TypeIs (.ref a) "set":=⟨o,p.get,p.ex.1⟩
section
variable{prog:K6}{w:Q7}{A:N6}{E:s0->F2->Prop}{s:F2}
theorem eZ.state{a:F9}{o:Obj}{es:Array (Int×s0)}{ep:Nat}{t:K8}{Q:Array (Int×s0)×Nat×K8->F2->Prop}(p:eZ w s.heap a o es ep t) (h:Q (es,ep,t) s):J4 (M0 prog w) A (setState a) Q E s:=aa7 p.get p.data p.fit h
theorem xk{a:F9}{o:Obj}{es:Array (Int×s0)}{ep:Nat}{t:K8}{Q:Nat->F2->Prop}(p:eZ w s.heap a o es ep t) (h:Q ep s):J4 (M0 prog w) A (setEpoch a) Q E s :=
 wpAny_setEpoch_of p.get p.data p.fit h
theorem A5{I a:F9}{k i n:Nat}{o:Obj}{es:Array (Int×s0)}{ep:Nat}{t:K8}{x:s0}{nx:Nat}{Q:Option s0->F2->Prop}(hI:s.heap.get? I=some (jD (Z6 k) i a n ep)) (p:eZ w s.heap a o es ep t) (hn:es.size=n)
  (hx:∀(Q':Option (s0×Nat)->F2->Prop) E',Q' (some (x,nx)) s->J4 (M0 prog w) A.in1 (au2 a k i ep) Q' E' s)
  (h:∀h',h'.get? I=some (jD (Z6 nx) (i+1) a n ep)->P2 I s.heap h'->Q (some x) { s with heap:=h' }):J4 (M0 prog w) A (an7 (.ref I)) Q E s:=by
 have hT:s.TypeIs (.ref I) "set_iterator":=⟨_,hI,rfl⟩;unfold an7;refine o0 (ah3 (V1 (name:=F5 "__next__") hT bb
  (U7 bb hT df ?_ (dD _))))
 unfold K7.«set_iterator.__next__»;refine o0 (m:=slotArgs "__next__" 0 ⟨[.ref I],[]⟩) (u8 ?_);refine o0 (ap2 hI rfl ?_);dsimp only;simp only[Z6,W1];refine o0 (af1 p.get p.data p.fit ?_);rw[if_neg (by rw[hn];simp)];refine o0 (hx _ _ ?_);dsimp only;refine o0 (ac9 hI rfl (by simp) ?_);have h1:(s.heap.update I (V9 (·.setIfInBounds 0 (Z6 nx)))).get? I=some (jD (Z6 nx) i a n ep):=O1 _ hI rfl;refine o0 (ac9 h1 rfl (by simp) ?_);have h2:((s.heap.update I (V9 (·.setIfInBounds 0 (Z6 nx)))).update I (V9 (·.setIfInBounds 1 (Z6 ((i:Int)+1))))).get? I=some (jD (Z6 nx) (i+1) a n ep):=O1 _ h1 rfl;exact u8 ⟨_,rfl,u8 (h _ h2 ((S1 ..).trans (S1 ..)))⟩
theorem EO{I a:F9}{k i n:Nat}{o:Obj}{es:Array (Int×s0)}{ep:Nat}{t:K8}{Q:Option s0->F2->Prop}(hh:A.handled=none) (hI:s.heap.get? I=some (jD (Z6 k) i a n ep)) (p:eZ w s.heap a o es ep t) (hn:es.size=n)
  (hx:∀(Q':Option (s0×Nat)->F2->Prop) E',Q' none s->J4 (M0 prog w) A.in1 (au2 a k i ep) Q' E' s)
  (h:∀h',K5.ExtBut I s.heap h'->Q none { s with heap:=h' }):J4 (M0 prog w) A (an7 (.ref I)) Q E s:=by
 have hT:s.TypeIs (.ref I) "set_iterator":=⟨_,hI,rfl⟩;unfold an7;refine o0 (ah3 (V1 (name:=F5 "__next__") hT bb
  (U7 bb hT df ?_ (dD _))))
 unfold K7.«set_iterator.__next__»;refine o0 (m:=slotArgs "__next__" 0 ⟨[.ref I],[]⟩) (u8 ?_);refine o0 (ap2 hI rfl ?_);dsimp only;simp only[Z6,W1];refine o0 (af1 p.get p.data p.fit ?_);rw[if_neg (by rw[hn];simp)];refine o0 (hx _ _ ?_);dsimp only;refine o0 (ac9 hI rfl (by simp) ?_);refine o0 ?_;simp only[newExc,newTuple];refine o0 (O7 ?_ (by size_fits));refine o0 (m:=ap3 _ _) (ao2 (a:=L8) (by first|rfl|(simp only[ap3];rfl)) ?_);refine O7 ?_ (by size_fits);simp only[raiseNew];refine o0 (wpAny_handled ?_);rw[show A.in1.handled=none from hh];refine o0 (u8 (wpAny_throw ?_));refine o0 (am8 (T:="StopIteration") (b:=true) ⟨_,J6 _ rfl,rfl⟩ isSubtype_stop ?_);exact u8 (h _ (((S1 ..).extBut.push _).push _))
end
section
variable{prog:K6}{w:Q7}{A:N6}{E:s0->F2->Prop}{s:F2}
noncomputable abbrev tpO(ps:List Nat):Obj:={ cls:=.type "tuple",data:=.seq (ps.map fun(i:Nat)=>Z6 i).toArray }
theorem E5{tp:F9}{ps:List Nat}{Q:Option (Array s0)->F2->Prop}(hp:s.heap.get? tp=some (tpO ps)) (h:Q (some (ps.map fun(i:Nat)=>Z6 i).toArray) s):J4 (M0 prog w) A (au3 (.ref tp)) Q E s:=by
 unfold au3;exact o0 (as5 hp (u8 h))
theorem EW{I a tp:F9}{i n pl:Nat}{ps:List Nat}{o:Obj}{es:Array (Int×s0)}{ep:Nat}{t:K8}{e:Int×s0}{Q:Option s0->F2->Prop}(hI:s.heap.get? I=some (jD (.ref tp) i a n ep)) (hp:s.heap.get? tp=some (tpO ps)) (p:eZ w s.heap a o es ep t) (hn:es.size=n)
  (hx:ps[i]?=some pl) (he:es[pl]?=some e)
  (h:∀h',h'.get? I=some (jD (.ref tp) (i+1) a n ep)->P2 I s.heap h'->Q (some e.2) { s with heap:=h' }):J4 (M0 prog w) A (an7 (.ref I)) Q E s:=by
 have hT:s.TypeIs (.ref I) "set_iterator":=⟨_,hI,rfl⟩;unfold an7;refine o0 (ah3 (V1 (name:=F5 "__next__") hT bb
  (U7 bb hT df ?_ (dD _))))
 unfold K7.«set_iterator.__next__»;refine o0 (m:=slotArgs "__next__" 0 ⟨[.ref I],[]⟩) (u8 ?_);refine o0 (ap2 hI rfl ?_);dsimp only;simp only[Z6,W1];refine o0 (af1 p.get p.data p.fit ?_);rw[if_neg (by rw[hn];simp)];refine o0 (E5 hp ?_);have hx':(ps.map fun(i:Nat)=>Z6 i).toArray[i]?=some (.int pl 0):=by simp[hx,Z6]
 dsimp only;rw[hx'];dsimp only;refine o0 ?_;unfold setNextDrawn;refine o0 (p.state ?_);dsimp only;rw[if_neg (by simp),W1,he];refine u8 ?_;refine o0 (ac9 hI rfl (by simp) ?_);have h2:(s.heap.update I (V9 (·.setIfInBounds 1 (Z6 ((i:Int)+1))))).get? I=some (jD (.ref tp) (i+1) a n ep):=O1 _ hI rfl;exact u8 ⟨_,rfl,u8 (h _ h2 (S1 ..))⟩
theorem Fi{I a tp:F9}{i n:Nat}{ps:List Nat}{o:Obj}{es:Array (Int×s0)}{ep:Nat}{t:K8}{Q:Option s0->F2->Prop}(hh:A.handled=none) (hI:s.heap.get? I=some (jD (.ref tp) i a n ep)) (hp:s.heap.get? tp=some (tpO ps)) (p:eZ w s.heap a o es ep t) (hn:es.size=n)
  (hx:ps[i]?=none)
  (h:∀h',K5.ExtBut I s.heap h'->Q none { s with heap:=h' }):J4 (M0 prog w) A (an7 (.ref I)) Q E s:=by
 have hT:s.TypeIs (.ref I) "set_iterator":=⟨_,hI,rfl⟩;unfold an7;refine o0 (ah3 (V1 (name:=F5 "__next__") hT bb
  (U7 bb hT df ?_ (dD _))))
 unfold K7.«set_iterator.__next__»;refine o0 (m:=slotArgs "__next__" 0 ⟨[.ref I],[]⟩) (u8 ?_);refine o0 (ap2 hI rfl ?_);dsimp only;simp only[Z6,W1];refine o0 (af1 p.get p.data p.fit ?_);rw[if_neg (by rw[hn];simp)];refine o0 (E5 hp ?_);have hx':(ps.map fun(i:Nat)=>Z6 i).toArray[i]?=none:=by simp[hx]
 dsimp only;rw[hx'];dsimp only;refine o0 (ac9 hI rfl (by simp) ?_);have h1:(s.heap.update I (V9 (·.setIfInBounds 0 (Z6 0)))).get? I=some (jD (Z6 0) i a n ep):=O1 _ hI rfl;refine o0 (ac9 h1 rfl (by simp) ?_);refine o0 ?_;simp only[newExc,newTuple];refine o0 (O7 ?_ (by size_fits));refine o0 (m:=ap3 _ _) (ao2 (a:=L8) (by first|rfl|(simp only[ap3];rfl)) ?_);refine O7 ?_ (by size_fits);simp only[raiseNew];refine o0 (wpAny_handled ?_);rw[show A.in1.handled=none from hh];refine o0 (u8 (wpAny_throw ?_));refine o0 (am8 (T:="StopIteration") (b:=true) ⟨_,J6 _ rfl,rfl⟩ isSubtype_stop ?_);exact u8 (h _ (((((S1 ..).trans (S1 ..)).extBut).push _).push _))
theorem yS{a:F9}{k i:Nat}{o:Obj}{es:Array (Int×s0)}{ep:Nat}{t:K8}{Q:Option (s0×Nat)->F2->Prop}(p:eZ w s.heap a o es ep t) (hb:byT w=true)
  (h:Q (((ag5 (w.params.setOrder a ep) es)[i]?).map fun e=>(e.2,k)) s):J4 (M0 prog w) A (au2 a k i ep) Q E s:=by
 unfold au2;refine o0 (p.state ?_);dsimp only;refine o0 (lL ?_);rw[hb];simp only[if_true];rw[if_neg (by simp)];refine o0 ?_;unfold setWalk;refine o0 (p.state ?_);dsimp only;refine o0 (lL ?_);rw[hb];simp only[if_true];exact o0 (ai0 (u8 (u8 h)))
theorem y0{a:F9}{k i:Nat}{o:Obj}{es:Array (Int×s0)}{ep:Nat}{t:K8}{Q:Option (s0×Nat)->F2->Prop}(p:eZ w s.heap a o es ep t) (hb:byT w=false) (h2:(!t.plain&&decide (es.size > 1))=false)
  (h:Q (match es[ap4 t.place k]?,t.place[ap4 t.place k]? with|some (_,x),some j=>some (x,j+1)|_,_=>none) s):J4 (M0 prog w) A (au2 a k i ep) Q E s:=by
 unfold au2;refine o0 (p.state ?_);dsimp only;refine o0 (lL ?_);rw[hb];simp only[F6,if_false];show J4 _ _ (if(!t.plain&&decide (es.size > 1))=true then _ else _) _ _ _;rw[if_neg (by rw[h2];simp)];refine o0 ?_;show J4 _ _ (if(!t.led&&!es.isEmpty)=true then _ else _) _ _ _;rw[if_neg (by rw[p.led,hb];simp)];exact u8 (u8 h)
end
section
variable{prog:K6}{w:Q7}{A:N6}{E:s0->F2->Prop}{s:F2}
theorem zg{src:Source}{n:Nat}{Q:Nat->F2->Prop}(hn:n≠0) (h:∀i d,i<n->Q i { s with drawn:=d }):J4 (M0 prog w) A (choose src n) Q E s :=
 fun Γ p hΓ=>⟨hn,h _ _ (aj0 _ (Nat.pos_of_ne_zero hn))⟩
theorem Fd{α:Type}(n:Nat):∀(xs:List α) (s:F2) (Q:List α->F2->Prop),xs.length=n->(∀ys d,ys.Perm xs->Q ys { s with drawn:=d })->J4 (M0 prog w) A (drawOrder n xs) Q E s:=by
 induction n with
 |zero =>
  intro xs s Q hn h;have:xs=[]:=ae7.mp hn;subst this;have e:s={ s with drawn:=s.drawn }:=by cases s;rfl
  rw[e];exact u8 (h [] s.drawn (.refl _))
 |succ n ih =>
  intro xs s Q hn h;cases xs with
  |nil=>simp at hn
  |cons x xs =>
   unfold drawOrder;refine o0 (zg (by simp) fun i d hi=>?_);rw[F4 hi];dsimp only;refine o0 (ih ((x::xs).eraseIdx i) _ _ (by rw[List.length_eraseIdx_of_lt hi];simp at hn ⊢;lia) fun ys d' hp=>?_);refine u8 (h _ d' ?_);have z:(x::xs)=(x::xs).take i++(x::xs)[i]::(x::xs).drop (i+1):=by rw[List.getElem_cons_drop];simp
   have e:(x::xs).eraseIdx i=(x::xs).take i++(x::xs).drop (i+1):=List.eraseIdx_eq_take_drop_succ _ _;rw[e]at hp;refine(hp.cons _).trans ?_;generalize (x::xs)[i]=u at z ⊢
   conv=>rhs;rw[z]
   exact ai1.symm
theorem ja:Slot "set_iterator" "__iter__" "set_iterator.__iter__" :=
 .of (owner:="set_iterator") (n:="__iter__") (by rw[typeLookup_type,builtinLookup_eq_fast];kernel_rfl) (by decide +kernel) (by decide +kernel) (by decide +kernel)
  (by first|exact .inl (by decide +kernel)|exact .inr (by decide +kernel)) (by rw[isSubtype_type];kernel_rfl)
theorem mH:entryFor table "set_iterator.__iter__"=some K7.«dict_keyiterator.__iter__» :=
 entryFor_alias (id':="dict_keyiterator.__iter__") (by kernel_rfl) rfl (by decide +kernel) (by kernel_rfl)
theorem nr(a:s0):argsOk "set_iterator.__iter__" ⟨[a],[]⟩:=by unfold argsOk;kernel_rfl
theorem yd{I a:F9}{f:s0}{i n ep:Nat}{Q:s0->F2->Prop}(hI:s.heap.get? I=some (jD f i a n ep)) (h:Q (.ref I) s):J4 (M0 prog w) A (aq6 (.ref I)) Q E s:=by
 have hT:s.TypeIs (.ref I) "set_iterator":=⟨_,hI,rfl⟩;refine wpAny_pyIter_slot hT ja (U7 ja hT mH ?_ (nr _));show J4 _ _ (ret (.ref I)) _ _ s;exact u8 ⟨_,rfl,"set_iterator",_,hT,bb.lookup,h⟩
end
def kI(xs:Array Nat) (i:Nat):Nat:=if i=0 then 0 else xs.getD (i-1) 0+1
theorem qD{xs:Array Nat}(up:Ri xs) {i:Nat}(hi:i<=xs.size):ap4 xs (kI xs i)=i:=by
 obtain⟨h1,h2,h3⟩:=mq up (kI xs i);rcases al0 (ap4 xs (kI xs i)) i with q|q|q
 ·have a:=h3 (i-1) (by lia) (by lia);unfold kI at a;rw[if_neg (by lia)]at a;lia
 ·exact q
 ·have a:=h2 i q;unfold kI at a
  by_cases c:i=0
  ·rw[if_pos c]at a;lia
  ·rw[if_neg c]at a;have b:=up (i-1) i (by lia) (by lia)
   lia
section
variable{prog:K6}{w:Q7}{A:N6}{E:s0->F2->Prop}{s:F2}
abbrev PSe(es':Array (Int×s0)):Nat->s0->Prop:=fun i v=>∃e,es'[i]?=some e/\v=e.2
theorem Cf(hh:A.handled=none) {I a:F9}(hne:a≠I) {o:Obj}{es:Array (Int×s0)}{ep:Nat}{t:K8}(hb:byT w=true) :
  at6 prog w A I [I,a] [I] es.size (PSe (ag5 (w.params.setOrder a ep) es)) (fun i h=>(∃k:Nat,h.get? I=some (jD (Z6 k) i a es.size ep))/\eZ w h a o es ep t) where
 sub:=fun b hb=>by simp at hb;simp[hb]
 frame:=fun _ _ _ st hk=>⟨let⟨k,g⟩:=st.1;⟨k,hk I (by simp) _ g⟩,st.2.kept (hk a (by simp) _ st.2.get)⟩
 item:=fun i s Q E hi st hQ=>by
  obtain⟨⟨k,g⟩,p⟩:=st;have sz:(ag5 (w.params.setOrder a ep) es).size=es.size:=by
   have:=(kJ (w.params.setOrder a ep) es).length_eq;simpa using this
  have hx:(ag5 (w.params.setOrder a ep) es)[i]?=some ((ag5 (w.params.setOrder a ep) es)[i]'(by lia)):=K9 _;refine A5 g p rfl (fun Q' E' q=>yS p hb (by rw[hx];exact q)) fun h' g' sb=>?_;exact hQ _ h' s.toks ⟨_,hx,rfl⟩ ⟨⟨_,g'⟩,p.kept (by rw[sb.2 a hne];exact p.get)⟩ fun b o hb e=>by rw[sb.2 b (fun h=>hb (by simp[h]))];exact e
 done:=fun s Q E st hQ=>by
  obtain⟨⟨k,g⟩,p⟩:=st;have sz:(ag5 (w.params.setOrder a ep) es).size=es.size:=by
   have:=(kJ (w.params.setOrder a ep) es).length_eq;simpa using this
  have hx:(ag5 (w.params.setOrder a ep) es)[es.size]?=none:=Array.getElem?_eq_none (by lia);exact EO hh g p rfl (fun Q' E' q=>yS p hb (by rw[hx];exact q)) fun h' he'=>hQ h' s.toks fun b o hb e=>he' b o (fun h=>hb (by simp[h])) e
 self:=fun _ _ _ _ st hQ=>let⟨⟨_,g⟩,_⟩:=st;yd g hQ
theorem Dl(hh:A.handled=none) {I a:F9}(hne:a≠I) {o:Obj}{es:Array (Int×s0)}{ep:Nat}{t:K8}(hb:byT w=false) (h1:(!t.plain&&decide (es.size > 1))=false) (up:Ri t.place) (hf:t.place.size=es.size) :
  at6 prog w A I [I,a] [I] es.size (PSe es) (fun i h=>i<=es.size/\h.get? I=some (jD (Z6 (kI t.place i)) i a es.size ep)/\eZ w h a o es ep t) where
 sub:=fun b hb=>by simp at hb;simp[hb]
 frame:=fun _ _ _ st hk=>⟨st.1,hk I (by simp) _ st.2.1,st.2.2.kept (hk a (by simp) _ st.2.2.get)⟩
 item:=fun i s Q E hi st hQ=>by
  obtain⟨_,g,p⟩:=st;have hx:es[i]?=some (es[i]'hi):=K9 _;have hp:t.place[i]?=some (t.place.getD i 0):=by rw[K9 (by lia)];simp[X8,show i<t.place.size by lia]
  refine A5 (x:=(es[i]'hi).2) (nx:=t.place.getD i 0+1) g p rfl (fun Q' E' q=>y0 p hb h1 (by rw[qD up (by lia),hx,hp];exact q)) fun h' g' sb=>?_;refine hQ _ h' s.toks ⟨_,hx,rfl⟩ ⟨hi,?_,p.kept (by rw[sb.2 a hne];exact p.get)⟩ fun b o hb e=>by rw[sb.2 b (fun h=>hb (by simp[h]))];exact e
  rw[g'];rfl
 done:=fun s Q E st hQ=>by
  obtain⟨_,g,p⟩:=st;have e1:es[es.size]?=none:=Array.getElem?_eq_none (F7 _);exact EO hh g p rfl (fun Q' E' q=>y0 p hb h1 (by rw[qD up (by lia),e1];exact q)) fun h' he'=>hQ h' s.toks fun b o hb e=>he' b o (fun h=>hb (by simp[h])) e
 self:=fun _ _ _ _ st hQ=>yd st.2.1 hQ
theorem CG(hh:A.handled=none) {I a tp:F9}(hne:a≠I) (hnt:tp≠I) {o:Obj}{es:Array (Int×s0)}{ep:Nat}{t:K8}{ps:List Nat}(hp:ps.Perm (P0 es.size)) :
  at6 prog w A I [I,a,tp] [I] es.size (PSe (ps.map fun j=>es.getD j ae8).toArray) (fun i h=>h.get? I=some (jD (.ref tp) i a es.size ep)/\h.get? tp=some (tpO ps)/\eZ w h a o es ep t) where
 sub:=fun b hb=>by simp at hb;simp[hb]
 frame:=fun _ _ _ st hk=>⟨hk I (by simp) _ st.1,hk tp (by simp) _ st.2.1,st.2.2.kept (hk a (by simp) _ st.2.2.get)⟩
 item:=fun i s Q E hi st hQ=>by
  obtain⟨g,gt,p⟩:=st;have sz:ps.length=es.size:=by rw[hp.length_eq,aa8]
  have hi':i<ps.length:=by lia
  have hx:ps[i]?=some ps[i]:=F4 hi';have hm:ps[i]<es.size:=R0.mp (hp.mem_iff.mp (R6 hi'));have he:es[ps[i]]?=some es[ps[i]]:=K9 hm;refine EW g gt p rfl hx he fun h' g' sb=>?_;refine hQ _ h' s.toks ⟨es[ps[i]],?_,rfl⟩ ⟨g',by rw[sb.2 tp hnt];exact gt,p.kept (by rw[sb.2 a hne];exact p.get)⟩ fun b o hb e=>by rw[sb.2 b (fun h=>hb (by simp[h]))];exact e
  simp[hx,X8,hm]
 done:=fun s Q E st hQ=>by
  obtain⟨g,gt,p⟩:=st;have sz:ps.length=es.size:=by rw[hp.length_eq,aa8]
  exact Fi hh g gt p rfl (P5 (by lia)) fun h' he'=>hQ h' s.toks fun b o hb e=>he' b o (fun h=>hb (by simp[h])) e
 self:=fun _ _ _ _ st hQ=>yd st.1 hQ
end
theorem mr:entryFor table "set.__iter__"=some K7.«frozenset.__iter__» :=
 entryFor_alias (id':="frozenset.__iter__") (by kernel_rfl) rfl (by decide +kernel) (by kernel_rfl)
section
variable{prog:K6}{w:Q7}{A:N6}{E:s0->F2->Prop}{s:F2}
theorem wZ(es:Array (Int×s0)):(P0 es.size).map (fun j=>es.getD j ae8)=es.toList:=by
 apply List.ext_getElem (by simp);intro i h1 h2;simp at h1;simp[X8,h1]
theorem DL{a:F9}{o:Obj}{es:Array (Int×s0)}{ep:Nat}{t:K8}{Q:s0->F2->Prop}(hh:A.handled=none) (p:eZ w s.heap a o es ep t)
  (h:∀ (I:F9) (h':K5) d' (es':Array (Int × s0)) (fp:List F9) (St:Nat → K5 → Prop),es'.toList.Perm es.toList → (∀ b o,s.heap.get? b = some o → h'.get? b = some o) → at6 prog w A I fp [I] es.size (PSe es') St → St 0 h' → s.heap.objs.size ≤ I →
   (∀b∈fp,b=a∨s.heap.objs.size<=b)->Q (.ref I) { s with heap:=h',drawn:=d' }):J4 (M0 prog w) A (aq6 (.ref a)) Q E s:=by
 have al:a<s.heap.objs.size:=J8 p.get;refine wpAny_pyIter_slot p.typeIs PySem.F.slot_set_iter (U7 PySem.F.slot_set_iter p.typeIs mr ?_ (PySem.F.args_set_iter_1 _));unfold K7.«frozenset.__iter__»;refine o0 (m:=K7.Frozenset.slot0 "__iter__" ⟨[.ref a],[]⟩) (u8 ?_);unfold K7.Frozenset.sizeOf;refine o0 (o0 (af1 p.get p.data p.fit (u8 ?_)));refine o0 ?_;unfold setDrawn;refine o0 (p.state ?_);dsimp only;refine o0 (lL (u8 ?_));show J4 _ _ (if(!byT w&&(!t.plain&&decide (es.size > 1)))=true then _ else _) _ _ _
 split
 ·rename_i hc;refine o0 (Fd es.size (P0 es.size) s _ (by simp) fun ps d hp=>?_);have bX:ps.length=es.size:=by rw[hp.length_eq,aa8]
  have hsz:=ad9 p.room;refine o0 ?_;simp only[newTuple];refine O7 ?_ (by show(ps.map _).toArray.size<=I0;simp;lia);have g1:(s.heap.push (tpO ps)).get? s.heap.objs.size=some (tpO ps):=J6 _ rfl;have p1:eZ w (s.heap.push (tpO ps)) a o es ep t:=p.kept (F1 _ p.get);refine o0 (xk (s:={ s with heap:=s.heap.push (tpO ps),drawn:=d }) p1 ?_);refine o0 ?_;unfold newFields;refine O7 ?_;refine u8 ⟨_,rfl,"set_iterator",_,⟨_,J6 _ rfl,rfl⟩,bb.lookup,?_⟩;refine h _ _ d (ps.map fun j=>es.getD j ae8).toArray [(s.heap.push (tpO ps)).objs.size,a,s.heap.objs.size] _ ?_ (fun b o e=>F1 _ (F1 _ e))
   (CG hh (o:=o) (t:=t) (ep:=ep) (ps:=ps) (by rw[U8];exact L6 (S6 al)) (by rw[U8];exact L6 (ab8 _)) hp) ⟨J6 _ rfl,F1 _ g1,p1.kept (F1 _ p1.get)⟩ (by rw[U8];lia) fun b hb=>?_
  ·have:=hp.map fun j=>es.getD j ae8;rw[wZ]at this;simpa using this
  ·rw[U8]at hb;simp only[J3,L9,or_false]at hb;rcases hb with rfl|rfl|rfl
   ·exact .inr (ai4 _)
   ·exact .inl rfl
   ·exact .inr (F7 _)
 ·rename_i hc;refine o0 (u8 ?_);refine o0 (xk p ?_);refine o0 ?_;unfold newFields;refine O7 ?_;refine u8 ⟨_,rfl,"set_iterator",_,⟨_,J6 _ rfl,rfl⟩,bb.lookup,?_⟩;have p1:∀oI,eZ w (s.heap.push oI) a o es ep t:=fun oI=>p.kept (F1 _ p.get);have fpok:∀b∈[s.heap.objs.size,a],b=a∨s.heap.objs.size<=b:=fun b hb=>by
   simp only[J3,L9,or_false]at hb;rcases hb with rfl|rfl
   ·exact .inr (F7 _)
   ·exact .inl rfl
  cases hb:byT w with
  |true =>
   exact h _ _ s.drawn _ [s.heap.objs.size,a] _ (kJ (w.params.setOrder a ep) es) (fun b o e=>F1 _ e) (Cf hh (o:=o) (t:=t) (ep:=ep) (L6 al) hb) ⟨⟨0,J6 _ rfl⟩,p1 _⟩ (F7 _) fpok
  |false =>
   have hd:(!t.plain&&decide (es.size > 1))=false:=by
    rw[hb]at hc;simpa using hc
   have hf:t.place.size=es.size:=by
    have:=p.fit;simp[K8.fits]at this;lia
   have up:Ri t.place:=by
    rcases p.go with z|z
    ·intro i j hij hj;have:=z (by lia);rw[this]at hd;simp at hd
     lia
    ·exact z
   exact h _ _ s.drawn es [s.heap.objs.size,a] _ (.refl _) (fun b o e=>F1 _ e) (Dl hh (o:=o) (t:=t) (ep:=ep) (L6 al) hb hd up hf) ⟨Q5 _,J6 _ rfl,p1 _⟩ (F7 _) fpok
end
section
variable{prog:K6}{w:Q7}{A:N6}{E:s0->F2->Prop}{s:F2}
theorem D6{r:F9}{Q:Bool->F2->Prop}(hT:s.TypeIs (.ref r) "set") (h:Q false s):J4 (M0 prog w) A (K7.List.listLengthHint (.ref r)) Q E s:=by
 unfold K7.List.listLengthHint;refine o0 (ag6 hT PySem.F.slot_set_len.lookup ?_);generalize hid:("set.__len__":String)=id0
 wp_delta
 rw[show splitId id0=some ("set","__len__")from by subst hid;decide +kernel];subst hid;refine o0 (am8 (T:="set") (b:=true) hT (by rw[isSubtype_type];kernel_rfl) ?_);refine wpAny_ite_split (fun hab=>absurd hab (by decide)) (fun _=>?_);refine wpAny_ite_split (fun _=>?_) (fun hab=>absurd (by decide +kernel) hab);refine o0 (ag2 hT ?_);exact u8 h
abbrev AV(vs:Array s0) (c:Nat):Obj:={ cls:=.type "list",data:=.seq vs c }
theorem yh{a:F9}{o:Obj}{es:Array (Int×s0)}{ep:Nat}{t:K8}{Q:List s0->F2->Prop}(hh:A.handled=none) (p:eZ w s.heap a o es ep t)
  (h:∀s' (es':Array (Int×s0)),es'.toList.Perm es.toList->(∀b o,s.heap.get? b=some o->s'.heap.get? b=some o)->s'.gens=s.gens->s'.os=s.os->Q (es'.toList.map (·.2)) s') :
  J4 (M0 prog w) A (collect (.ref a)) Q E s:=by
 have al:a<s.heap.objs.size:=J8 p.get;have hn:=ad9 p.room;unfold collect;refine o0 (wpAny_runValue (U4 PySem.F.entry_proto_collect ?_));rw[T8 PySem.F.plain_proto_collect _];show J4 _ A.in1 (newList [] >>= fun l=>again (.builtin "list.__iadd__" ⟨[l,.ref a],[]⟩)) _ _ s;refine o0 (O7 ?_);refine u8 ⟨ae9 PySem.F.plain_list_iadd _,U4 PySem.F.entry_list_iadd ?_⟩;rw[T8 PySem.F.plain_list_iadd _];generalize hH1:s.heap.push { cls:=.type "list",data:=.seq ([]:List s0).toArray }=H1;have k1:∀b o,s.heap.get? b=some o->H1.get? b=some o:=fun b o e=>by rw[<-hH1];exact F1 _ e
 have hS:H1.get? s.heap.objs.size=some (AV #[] 0):=by rw[<-hH1];exact J6 _ rfl
 have sz1:H1.objs.size=s.heap.objs.size+1:=by rw[<-hH1];exact U8 _ _
 have p1:eZ w H1 a o es ep t:=p.kept (k1 _ _ p.get);show J4 _ A.in1 (K7.List.listExtendWith (.ref s.heap.objs.size) (.ref a) (.ref s.heap.objs.size)) _ _ { s with heap:=H1 };unfold K7.List.listExtendWith;refine o0 (ag2 (T:="set") (p1.typeIs (s:={ s with heap:=H1 })) ?_);have hne:s.heap.objs.size≠a:=af9 al;have h1:K7.List.listSameRef (.ref s.heap.objs.size) (.ref a)=false:=by simp[K7.List.listSameRef,hne]
 have h2:(O6 "set"==O6 "list")=false:=by decide
 have h3:(O6 "set"==O6 "tuple")=false:=by decide
 simp only[h1,h2,h3,Bool.or_false,F6,if_false];have hh1:A.in1.handled=none:=hh;refine o0 (DL (s:={ s with heap:=H1 }) hh1 p1 fun I h' d' es' fp St hp k2 W st hI hfp=>?_);have hSf:s.heap.objs.size∉fp:=fun hm=>by
  rcases hfp _ hm with e|e
  ·exact hne e
  ·have e':H1.objs.size<=s.heap.objs.size:=e
   lia
 have szE:es'.size=es.size:=by have:=hp.length_eq;simpa using this
 have T2:aq1 { s with heap:=h',drawn:=d' } (.ref a) "set":=(p1.kept (k2 _ _ p1.get)).typeIs (s:={ s with heap:=h',drawn:=d' });refine o0 (O9 (D6 T2 ?_));have post:∀s' (acc:Array s0) c',Moved (s.heap.objs.size::[I]) (fun a b=>b=a) { s with heap:=h',drawn:=d' } s'->s'.heap.get? s.heap.objs.size=some (AV acc c')->ItemsOf (PSe es') acc es.size ->
   J4 (M0 prog w) A (do match (<-load s.heap.objs.size).data with|.seq xs _=>af5 xs.toList|_=>ap9 "internal:collect") Q E s':=by
  intro s' acc c' hm hS' hacc;refine o0 (as5 hS' (u8 ?_));have eacc:acc.toList=es'.toList.map (·.2):=by
   apply ad7;intro i;rcases R3 i es.size with hi|hi
   ·have:acc[i]?=some (acc[i]'(by rw[hacc.1];exact hi)):=K9 _;obtain⟨e,e1,e2⟩:=hacc.2 i _ this;rw[S3,this,e2,N0,S3,e1];rfl
   ·rw[P5 (by simp[hacc.1];exact hi),P5 (by simp;lia)]
  rw[eacc];refine h s' es' hp (fun b o e=>hm.heap b o ?_ (k2 b o (k1 b o e))) hm.gens hm.os;have hb:=J8 e;have hI':H1.objs.size<=I:=hI;rw[sz1]at hI';simp only[J3,L9,or_false,not_or];exact⟨L6 hb,L6 (J9 (S6 hb) hI')⟩
 have key:∀(R:at1->F2->Prop) (h2:K5) (c:Nat),St 0 h2->(∀b o,b≠s.heap.objs.size->h'.get? b=some o->h2.get? b=some o)->h2.get? s.heap.objs.size=some (AV #[] c) ->
   (∀s' (acc:Array s0) c',Moved (s.heap.objs.size::[I]) (fun a b=>b=a) { s with heap:=h',drawn:=d' } s'->s'.heap.get? s.heap.objs.size=some (AV acc c')->ItemsOf (PSe es') acc es.size->R (.ok (.ret (.ref s.heap.objs.size))) s') ->
   ah6 (M0 prog w) A (.builtin "list.extend.loop" ⟨[.ref s.heap.objs.size,.ref I,.ref s.heap.objs.size],[]⟩) R { s with heap:=h2,drawn:=d' }:=by
  intro R h2 c st2 k3 hS2 hR;refine codeAny_extend_loopS W.toS hn _ hSf _ es.size 0 _ #[] c rfl (Q5 _) st2 hS2 (ItemsOf.nil _) fun s' acc c' hm hS' hacc=>hR s' acc c' ⟨fun b o hb e=>hm.heap b o hb (k3 b o (fun q=>hb (by simp[q])) e),hm.gens,hm.drawn,hm.os,hm.toks⟩ hS' hacc
 have hS1:=k2 _ _ hS;refine wpAny_ite_split (fun _=>?_) (fun _=>u8 ⟨ae9 PySem.F.plain_extend_loop _,?_⟩)
 ·refine o0 (ak6 ?_);refine o0 ?_;show J4 _ _ (updateSeq s.heap.objs.size (·.push .none) >>= fun _=>updateSeq s.heap.objs.size (·.pop)) _ _ _;refine o0 (wpAny_updateSeq hS1 rfl ?_);have hS2:=O1 (ad4 (·.push L8)) hS1 rfl;refine wpAny_updateSeq hS2 rfl ?_;have hS3:=O1 (ad4 (·.pop)) hS2 rfl;have oth:∀b o,b≠s.heap.objs.size->h'.get? b=some o->((h'.update s.heap.objs.size (ad4 (·.push L8))).update s.heap.objs.size (ad4 (·.pop))).get? b=some o :=
   fun b o hb e=>(N3 _ _ (V0 hb)).trans ((N3 _ _ (V0 hb)).trans e)
  refine u8 ⟨ae9 PySem.F.plain_extend_loop _,?_⟩;exact key _ _ _ (W.frame 0 h' _ st fun b hb o e=>oth b o (fun q=>hSf (q▸hb)) e) oth hS3 post
 ·exact key _ h' 0 st (fun b o _ e=>e) hS1 post
end
end L2
namespace L2
open PySem PySem.Spec PyProof.Rows PySem.Calls
section
variable{prog:K6}{w:Q7}{A:N6}{E:s0->F2->Prop}{s:F2}
theorem xU{es es':Array (Int×s0)}(el:ElT prog w es.toList) (hp:es'.toList.Perm es.toList) {i:Nat}(hi:i<es'.toList.length) :
  ∃t,(es'.toList.map (·.2))[i]?=some (.str ((es'.toList.map fun e=>txt e.2).getD i ae8) t):=by
 obtain⟨x,t,e⟩:=el _ (hp.mem_iff.mp (R6 hi));refine⟨t,?_⟩;simp only[List.getD_eq_getElem?_getD,N0,F4 hi,ao3,e];rfl
theorem uS{a:F9}{xs:List Str}{Q:s0->F2->Prop}(hh:A.handled=none) (hS:fG prog w s.heap a xs) (h64:xs.length<64)
  (k:∀ (s1:F2) (h':K5) (x:F9) (us:List s0) (c:Nat),(∀ b o,s.heap.get? b = some o → s1.heap.get? b = some o) → s1.gens = s.gens → s1.os = s.os → s1.heap.objs.size ≤ x → (∀ b o,s1.heap.get? b = some o → h'.get? b = some o) → h'.get? x = some (ar5 "list" us.toArray c) →
   us.length=(cG xs).length->(∀i,(hi:i<(cG xs).length)->∃t,us[i]?=some (.str (cG xs)[i] t))->Q (.ref x) { s1 with heap:=h' }) :
  J4 (M0 prog w) A (call (.builtin "sorted") [.ref a]) Q E s:=by
 obtain⟨o,es,ep,t,p,pm⟩:=hS;refine call_function_entry kind_sorted plain_sorted entry_sorted (args_sorted1 _) ?_;unfold K7.«sorted»;refine o0 (m:=checkCount "sorted" 1 1 _) (u8 ?_);refine o0 (yh (A:=A.in1) hh p.b fun s1 es' hp kp0 eg eo=>?_);generalize hvs:es'.toList.map (·.2)=vs;have bX:vs.length=xs.length:=by rw[<-hvs,F3,hp.length_eq,<-pm.length_eq,F3]
 generalize hns:es'.toList.map (fun e=>txt e.2)=ns;have hnl:ns.length=vs.length:=by rw[<-hns,<-hvs];simp
 have pmn:ns.Perm xs:=by rw[<-hns];exact(j5 hp).trans pm
 have at_:∀i,i<vs.length->∃t,vs[i]?=some (.str (ns.getD i ae8) t):=fun i hi=>by
  rw[<-hvs,<-hns];exact xU p.el hp (by rw[<-hvs,F3]at hi;exact hi)
 have hz:vs.length<64:=by rw[bX];exact h64
 have hz':vs.length<=I0:=by rw[ab0];lia
 refine o0 (wpAny_newList ?_ hz');have new:(s1.heap.push (ar5 "list" vs.toArray 0)).get? s1.heap.objs.size=some (ar5 "list" vs.toArray 0):=J6 _ rfl;have kp2:∀b o,s1.heap.get? b=some o->(s1.heap.push (ar5 "list" vs.toArray 0)).get? b=some o:=fun b o e=>F1 _ e;show J4 _ _ _ _ _ { s1 with heap:=s1.heap.push (ar5 "list" vs.toArray 0) };refine o0 (O9 (U7 slot_list_sort ⟨_,new,rfl⟩ entry_list_sort ?_ (args_list_sort _)));refine Dm (O:=Fu) (κ:=oneType') (key:=fun i=>ns.getD i ae8) new hz (fun t Q' two ht q=>?_) (fun i j t C hi hj ht q=>?_) fun pp c h' hpp hr hs hx=>?_
 ·exact PySem.W.kas_kind (T:=.type "str") two (fun v hv=>by
   obtain⟨i,hi⟩:=ac5.mp hv;obtain⟨t,g⟩:=at_ i (N1.mp hi).1;rw[g]at hi;cases hi;exact PySem.W.Looks.of_pure rfl) rfl rfl q
 ·obtain⟨t1,g⟩:=at_ i hi;obtain⟨u1,g'⟩:=at_ j hj;show J4 _ _ (keyLt' _ _ _) _ _ _;rw[qh g,qh g'];exact PySem.W.kas_lt_str q
 ·refine⟨_,rfl,u8 ⟨_,rfl,?_⟩⟩;have hlt:∀i∈pp.toList,i<vs.length:=fun i hi=>R0.mp (hpp.mem_iff.mp hi);have es:(pp.toList.map fun i=>ns.getD i ae8)=cG xs:=by
   have hp':pp.toList.Perm (P0 ns.length):=by rw[hnl];exact hpp
   have hm:=hp'.map fun i=>ns.getD i ae8;rw[sI]at hm;refine r8 (hm.trans pmn) ?_;rw[List.pairwise_iff_getElem];intro i j hi hj hij;have sz:pp.size=vs.length:=hpp.size;rw[F3,K3]at hi hj;have:=hr i j (al9 hij) (by lia);have e1:kp_ pp i=pp.toList[i]'(by simpa using hi):=by simp[kp_,X8,hi]
   have e2:kp_ pp j=pp.toList[j]'(by simpa using hj):=by simp[kp_,X8,hj]
   have g:leS (ns.getD (kp_ pp i) ae8) (ns.getD (kp_ pp j) ae8)=true:=by
    have z:ltS (ns.getD (kp_ pp j) ae8) (ns.getD (kp_ pp i) ae8)=false:=this;simp only[leS,z,al5]
   rw[e1,e2]at g;simpa using g
  have ln:(cG xs).length=vs.length:=by rw[<-es,F3,K3];exact hpp.size
  refine k s1 h' s1.heap.objs.size (j7 vs pp) c kp0 eg eo (F7 _) (fun b o e=>hs b o (L6 (J8 e)) (kp2 b o e)) hx ((kr hpp).trans ln.symm) fun i hi=>?_;have hi':i<pp.toList.length:=by rw[K3];rw[show pp.size=vs.length from hpp.size];lia
  obtain⟨t1,g⟩:=at_ _ (hlt _ (R6 hi'));refine⟨t1,?_⟩;have e2:(cG xs)[i]?=some (ns.getD pp.toList[i] ae8):=by rw[<-es,N0,F4 hi'];rfl
  have e3:(cG xs)[i]=ns.getD pp.toList[i] ae8:=by rw[F4 hi]at e2;exact P9 e2
  rw[e3,j7,N0,F4 hi',ao3,qh g]
end
theorem qM:∀(xs zs:List Str),zs.Nodup->(xs.foldl dS zs).Nodup
 |[],_,h=>h
 |x::xs,zs,h=>by
  rw[W5];refine qM xs _ ?_;unfold dS;split
  ·exact h
  ·rename_i hx;rw[Z0];exact⟨h,by simp,fun a ha b hb=>by rw[J5]at hb;subst hb;intro q;subst q;exact hx ha⟩
theorem rP{l l':List Str}(h:l.Nodup) (h':l'.Nodup) (e:∀x,x∈l↔x∈l'):l.Perm l':=by
 rw[List.perm_iff_count];intro a;rw[h.count,h'.count];simp only[e a]
theorem ny{l l':List Str}(h:l.Perm l'):cG l=cG l':=r8 ((gK l).trans h) (rk l)
section
variable{X:Cx}{af:List (F9×Obj)}{s:F2}{σ:St}{H:Hp}{M:DH}
theorem fG.nd{prog:K6}{w:Q7}{h:K5}{a:F9}{xs:List Str}(z:fG prog w h a xs):xs.Nodup:=by
 obtain⟨o,es,ep,t,p,q⟩:=z;exact q.nodup_iff.mp p.nd
theorem Inv.with{s':F2}(I:Inv X af σ H s) (k:∀b u,s.heap.get? b=some u->s'.heap.get? b=some u) (g:s'.gens=s.gens) (o:s'.os=s.os):Inv X af σ H s':=by
 have I1:Inv X af σ H { s with heap:=s'.heap,toks:=s'.toks }:=I.kept k;exact⟨I1.ok,o.trans I1.os,by rw[g];exact I1.bare,I1.base,I1.loc,I1.cell,I1.free,I1.freeC,I1.pin,I1.hok,I1.len⟩
theorem tq:∀{ns:List Str}{us:List s0},us.length=ns.length->(∀i,(hi:i<ns.length)->∃t,us[i]?=some (.str ns[i] t))->aE (ns.map V.str) us
 |[],us,h,_=>by
  have:us=[]:=ae7.mp h;subst this;exact .nil
 |n::ns,[],h,_=>by simp at h
 |n::ns,u::us,h,q=>by
  obtain⟨t,g⟩:=q 0 (by simp);have e:u=.str n t:=by simpa using g
  subst e;exact .cons ⟨t,rfl⟩ (tq (by simpa using h) fun i hi=>q (i+1) (Nat.succ_lt_succ hi))
theorem mS{K:F0}:∀{ns:List Str},ar K M H (ns.map D.str) (ns.map V.str)
 |[]=>rfl
 |n::ns=>⟨_,_,rfl,rfl,mS⟩
end
end L2
namespace L2
open PySem PySem.Spec PyProof.Rows
section
variable{X:Cx}{o i:O3}{to ti:TEd}{pos:Pos}
end
section
variable{P:K6}{w:Q7}{K:F0}{mg:Str->Option s0}{base:K5}{f:F9}{fd:K4}
theorem Fun.okR{x qual:Str}{st:aa1}{f:F9}{fd:K4}{N ps:List Str}{k n:Nat}{S:SpD}(F:Fun K x qual st f fd) (hn:ps.length=n) (Sc:ay N ps (ah st))
  (hbody:∀ (cdv:s0) (A:N6) (outer:List Env) (s:F2) (H:Hp) (E:XK),cC k (A.deeper (aj4 qual (ah st) s.heap.objs.size f cdv)) →
   ∃t:TSd,QSs (mn CX0 P w K mg base N qual (ah st) f cdv A outer s H E).nox (cO st) t/\∀ds M R (G:Prop),S ds M R->(t { nx:=fun _ M'=>R .non M',rt:=R } (gJ N ds) M->G)->G):a7 P w K mg base CX0 (k+1) f fd ps (spD K n S):=by
 refine F.okD hn Sc fun cdv A outer s H E hr=>?_;obtain⟨t,h1,h2⟩:=hbody cdv A outer s H E hr;exact⟨t,z7 h1,fun ds M R _ hS=>h2 ds M R _ hS id⟩
theorem shr{p:Prop}(h:∀q:Prop,(p->q)->q):p:=h p id
end
end L2
namespace L2
open PySem PyProof.Rows
def gA(xs:Array Keyed) (i:Nat):Keyed:=xs[i]?.getD (.none,.none)
section
variable{prog:K6}{w:Q7}{A:N6}{E:s0->F2->Prop}{s:F2}{O:ae1}{key:Keyed->O.α}{a0:List Keyed}{κ:SortKind}
structure SB(a0:List Keyed) (κ:SortKind) (st:SortSt):Prop where
 perm:(arrOf st).toList.Perm a0
 kind:ao9 st=κ
 fail:failedOf st=none
theorem SB.size{st:SortSt}(h:SB a0 κ st):(arrOf st).size=a0.length:=by rw[<-K3];exact h.perm.length_eq
theorem SB.mem{st:SortSt}(h:SB a0 κ st) {i:Nat}(hi:i<a0.length):gA (arrOf st) i∈a0:=by
 have hi':i<(arrOf st).size:=by rw[h.size];exact hi
 have:gA (arrOf st) i=(arrOf st)[i]:=by unfold gA;rw[K9 hi'];rfl
 rw[this];exact h.perm.mem_iff.mp (by simp)
end
end L2
namespace L2
open PySem PySem.SetTable
theorem j8{α:Type}(xs:Array α) (p:Nat) (x:α):(insertAt xs p x).toList=xs.toList.take p++x::xs.toList.drop p:=by
 unfold insertAt;rw[Array.toList_append,ak9,Array.toList_extract,Array.toList_extract,List.extract_eq_take_drop,List.extract_eq_take_drop];rw[List.drop_zero,Nat.sub_zero,X5 (l:=xs.toList.drop p) (by simp)];simp
theorem iN{xs:Array Nat}{i d:Nat}:xs.getD i d=xs.toList[i]?.getD d:=by
 rw[S3]
 by_cases h:i<xs.size
 ·simp[X8,h]
 ·simp[X8,h]
theorem rF{xs:Array Nat}{p x:Nat}(hp:p<=xs.size) (i:Nat):(insertAt xs p x).getD i 0=if i<p then xs.getD i 0 else if i=p then x else xs.getD (i-1) 0:=by
 have hl:(xs.toList.take p).length=p:=by simp;lia
 rw[iN,j8,ah7,hl]
 by_cases a:i<p
 ·rw[if_pos a,if_pos a,Z9 a,iN]
 ·rw[if_neg a,if_neg a]
  by_cases b:i=p
  ·rw[if_pos b,b];simp
  ·rw[if_neg b];obtain⟨m,hm⟩:∃m,i-p=m+1:=⟨i-p-1,by lia⟩;rw[hm,aa2,List.getElem?_drop,iN];congr 2;lia
theorem ip{α:Type}(xs:Array α) (p:Nat) (x:α) (hp:p<=xs.size):(insertAt xs p x).size=xs.size+1:=by
 rw[<-K3,j8];simp;lia
theorem u4{xs:Array Nat}{p x:Nat}(hp:p<=xs.size) {j:Nat}(h:Occ xs j):Occ (insertAt xs p x) j:=by
 obtain⟨i,hi,e⟩:=h
 by_cases a:i<p
 ·exact⟨i,by rw[ip _ _ _ hp];lia,by rw[rF hp,if_pos a];exact e⟩
 ·exact⟨i+1,by rw[ip _ _ _ hp];lia,by rw[rF hp,if_neg (by lia),if_neg (by lia)];exact e⟩
theorem TB.put{t:K8}{hs:List Int}(T:TB t hs) {h:Int}{n:Nat}(f0:¬ Occ t.place (pth t.mask h n).j) (f1:∀m,m<n->Occ t.place (pth t.mask h m).j) (few:t.place.size+1<=t.mask) :
  ∃p,p<=hs.length/\(t.put (pth t.mask h n).j).2=p/\TB (t.put (pth t.mask h n).j).1 (hs.take p++h::hs.drop p)/\(t.put (pth t.mask h n).j).1.led=t.led/\(t.put (pth t.mask h n).j).1.plain=t.plain/\(t.put (pth t.mask h n).j).1.mask=t.mask/\(t.put (pth t.mask h n).j).1.place.size=t.place.size+1:=by
 generalize hj:(pth t.mask h n).j=j at *
 have hjm:j<=t.mask:=by rw[<-hj];exact so n
 obtain⟨b1,b2,b3⟩:=mq T.up j;have sz:=T.sz;have hd:has t.dummies j=false:=by rw[T.dm];rfl
 have e:t.put j=({ t with place:=insertAt t.place (below t.place j) j,dummies:=t.dummies },below t.place j):=by unfold K8.put;rw[hd];rfl
 rw[e];dsimp only;generalize hp:below t.place j=p at *
 have b3':∀i,p<=i->i<t.place.size->j<t.place.getD i 0:=fun i h1 h2=>by
  have:=b3 i h1 h2;rcases R3 j (t.place.getD i 0)with q|q
  ·exact q
  ·exact absurd ⟨i,h2,by lia⟩ f0
 have isz:=ip t.place p j b1;refine⟨p,by lia,rfl,⟨?_,?_,?_,T.dm,T.pw,by rw[isz];exact few,?_⟩,rfl,rfl,rfl,isz⟩
 ·show(insertAt t.place p j).size=_;rw[isz,J1,P4,T0,af3];lia
 ·intro i k hik hk;have hk':k<t.place.size+1:=by rw[<-isz];exact hk
  show(insertAt t.place p j).getD i 0<(insertAt t.place p j).getD k 0;rw[rF b1,rF b1]
  by_cases c1:i<p
  ·rw[if_pos c1]
   by_cases c2:k<p
   ·rw[if_pos c2];exact T.up i k hik (by lia)
   ·rw[if_neg c2]
    by_cases c3:k=p
    ·rw[if_pos c3];exact b2 i c1
    ·rw[if_neg c3];exact T.up i (k-1) (by lia) (by lia)
  ·rw[if_neg c1,if_neg (show ¬ k<p by lia),if_neg (show ¬ k=p by lia)]
   by_cases c3:i=p
   ·rw[if_pos c3];exact b3' _ (by lia) (by lia)
   ·rw[if_neg c3];exact T.up (i-1) (k-1) (by lia) (by lia)
 ·intro i hi;have hi':i<t.place.size+1:=by rw[<-isz];exact hi
  show(insertAt t.place p j).getD i 0<=t.mask;rw[rF b1]
  by_cases c1:i<p
  ·rw[if_pos c1];exact T.le i (by lia)
  ·rw[if_neg c1]
   by_cases c3:i=p
   ·rw[if_pos c3];exact hjm
   ·rw[if_neg c3];exact T.le _ (by lia)
 ·intro i g hg;have hl:(hs.take p).length=p:=by simp;lia
  have old:∀i',hs[i']?=some g->(insertAt t.place p j).getD i 0=t.place.getD i' 0->∃n,(pth t.mask g n).j=(insertAt t.place p j).getD i 0/\∀m,m<n->Occ (insertAt t.place p j) (pth t.mask g m).j:=fun i' h1 h2=>by
   obtain⟨n',a,b⟩:=T.pr i' g h1;exact⟨n',by rw[a,h2],fun m hm=>u4 b1 (b m hm)⟩
  rw[ah7,hl]at hg
  by_cases c1:i<p
  ·rw[if_pos c1,Z9 c1]at hg;exact old i hg (by rw[rF b1,if_pos c1])
  ·rw[if_neg c1]at hg
   by_cases c3:i=p
   ·rw[c3,ar2,af2]at hg;cases hg;exact⟨n,by show _=(insertAt t.place p j).getD i 0;rw[rF b1,if_neg c1,if_pos c3];exact hj,fun m hm=>u4 b1 (f1 m hm)⟩
   ·obtain⟨m,hm⟩:∃m,i-p=m+1:=⟨i-p-1,by lia⟩;rw[hm,aa2,List.getElem?_drop]at hg;exact old _ hg (by rw[rF b1,if_neg c1,if_neg c3];congr 1;lia)
variable{mask:Nat}{h:Int}
abbrev Ow:=Array (Option Nat)
def ocO(ow:Ow) (j:Nat):Prop:=ow.getD j (some 0)≠none
theorem uY{ow:Ow}(hs:ow.size=mask+1) {M:Nat}(hM:ow.getD (rs mask h M).1 (some 0)=none):∀F m n,m<=M->M-m<F->pth mask h n=atR mask (rs mask h m)->(∀l,l<n->ocO ow (pth mask h l).j) ->
  ∃n',layClean.free mask ow F (rs mask h m).1 (rs mask h m).2=some (pth mask h n').j/\ow.getD (pth mask h n').j (some 0)=none/\∀l,l<n'->ocO ow (pth mask h l).j
 |0,m,n,h1,h2,_,_=>by lia
 |F+1,m,n,h1,h2,e,oc=>by
  have lt:=Bv (mask:=mask) (h:=h) m;have len:runEnd mask (rs mask h m).1+1-(rs mask h m).1=runEnd mask (rs mask h m).1-(rs mask h m).1+1:=by
   have:(rs mask h m).1<=runEnd mask (rs mask h m).1:=by unfold runEnd;split<;>lia
   lia
  have jq:∀q,q<=runEnd mask (rs mask h m).1-(rs mask h m).1->(pth mask h (n+q)).j=(rs mask h m).1+q:=fun q hq=>by rw[o4 e q hq]
  unfold layClean.free;rw[len];cases c:(P0 (runEnd mask (rs mask h m).1-(rs mask h m).1+1)).find? fun k=>(ow.getD ((rs mask h m).1+k) (some 0)).isNone with
  |some k =>
   dsimp only;have hk:=R0.mp (List.mem_of_find?_eq_some c);have hn:=List.find?_some c;refine⟨n+k,by rw[jq k (by lia)],by rw[jq k (by lia)];simpa using hn,fun l hl=>?_⟩;rcases R3 l n with a|a
   ·exact oc l a
   ·obtain⟨q,rfl⟩:∃q,l=n+q:=⟨l-n,by lia⟩;unfold ocO;rw[jq q (by lia)];intro z;obtain⟨as,bs,e1,e2⟩:=(List.find?_eq_some_iff_append.mp c).2;have:q∈as:=by
     have hq:q∈P0 (runEnd mask (rs mask h m).1-(rs mask h m).1+1):=R0.mpr (by lia);have srt:(as++k::bs).Pairwise (·<·):=by rw[<-e1];exact List.pairwise_lt_range
     rw[e1]at hq;rcases K0.mp hq with r|r
     ·exact r
     ·rw[List.pairwise_append]at srt;rcases J3.mp r with r|r
      ·lia
      ·have:=(List.pairwise_cons.mp srt.2.1).1 q r;lia
    have:=e2 q this;rw[z]at this;simp at this
  |none =>
   dsimp only;have all:=List.find?_eq_none.mp c;have ne:m≠M:=fun z=>by
    subst z;have:=all 0 (R0.mpr (by lia));rw[Nat.add_zero,hM]at this;simp at this
   show ∃n',layClean.free mask ow F (rs mask h (m+1)).1 (rs mask h (m+1)).2=_/\_;refine uY hs hM F (m+1) (n+(runEnd mask (rs mask h m).1-(rs mask h m).1)+1) (by lia) (by lia) ?_ fun l hl=>?_
   ·show pA mask (pth mask h (n+_))=_;rw[o4 e _ (F7 _)];unfold pA;rw[if_neg (by simp)];rfl
   ·rcases R3 l n with a|a
    ·exact oc l a
    ·obtain⟨q,rfl⟩:∃q,l=n+q:=⟨l-n,by lia⟩;unfold ocO;rw[jq q (by lia)];intro z;have:=all q (R0.mpr (by lia));rw[z]at this;simp at this
def lv(mask:Nat) (ow:Ow):List (Nat×Nat):=(P0 (mask+1)).filterMap fun j=>(ow.getD j none).map (j,·)
theorem sT{ow:Ow}{j:Nat}(hj:j<ow.size) (a b:Option Nat):ow.getD j a=ow.getD j b:=by simp[X8,hj]
theorem BL{ow:Ow}(hs:ow.size=mask+1) {s k:Nat}(hl:s<=mask) (hn:ow.getD s none=none):(lv mask (ow.setIfInBounds s (some k))).Perm ((s,k)::lv mask ow):=by
 unfold lv;have sp:P0 (mask+1)=P0 s++s::(List.range' (s+1) (mask-s)):=by
  rw[List.range_eq_range',List.range_eq_range',show mask+1=s+(1+(mask-s))by lia,<-List.range'_append_1,<-List.range'_append_1];simp[Nat.add_comm]
 have same:∀l:List Nat,s∉l->(l.filterMap fun j=>((ow.setIfInBounds s (some k)).getD j none).map (j,·))=l.filterMap fun j=>(ow.getD j none).map (j,·):=fun l hl=>by
  induction l with
  |nil=>rfl
  |cons j l ih =>
   have this:s≠j:=fun z=>hl (z▸.head _);rw[R8,R8,ih fun z=>hl (.tail _ z)];simp only[S7,aa3,if_neg this]
 rw[sp,ag4,ag4,R8,R8,hn,same _ (by simp),same _ (fun z=>by obtain⟨x,_,z⟩:=List.mem_range'.mp z;lia)];have:(ow.setIfInBounds s (some k)).getD s none=some k:=by simp[S7,show s<ow.size by lia]
 rw[this];simp only[ao3,Option.map_none];exact ai1
structure LC(mask:Nat) (hs:List Int) (ow:Ow) (k:Nat):Prop where
 sz:ow.size=mask+1
 perm:((lv mask ow).map (·.2)).Perm (P0 k)
 pr:∀j i h,ow.getD j none=some i->hs[i]?=some h->∃n,(pth mask h n).j=j/\∀m,m<n->ocO ow (pth mask h m).j
theorem CC{ow:Ow}(hs:ow.size=mask+1) {j i:Nat}(e:ow.getD j none=some i):(j,i)∈lv mask ow:=by
 have hj:j<ow.size:=by
  rcases R3 j ow.size with q|q
  ·exact q
  ·simp[X8,show ¬ j<ow.size by lia]at e
 exact W4.mpr ⟨j,R0.mpr (by lia),by rw[e];rfl⟩
theorem zB{ow:Ow}(hs:ow.size=mask+1) (few:(lv mask ow).length<=mask):∃j,j<=mask/\ow.getD j none=none:=by
 refine V8 fun c=>?_;have all:∀j∈P0 (mask+1),∃i,ow.getD j none=some i:=fun j hj=>by
  cases q:ow.getD j none with
  |none=>exact absurd ⟨j,by have:=R0.mp hj;lia,q⟩ c
  |some i=>exact⟨i,rfl⟩
 have:∀l:List Nat,(∀j∈l,∃i,ow.getD j none=some i)->(l.filterMap fun j=>(ow.getD j none).map (j,·)).length=l.length:=fun l=>by
  induction l with
  |nil=>exact fun _=>rfl
  |cons j l ih =>
   intro hl;obtain⟨i,e⟩:=hl j (.head _);rw[R8,e];simp only[ao3,T0];rw[ih fun x hx=>hl x (.tail _ hx)]
 have q:=this _ all;rw[aa8]at q;unfold lv at few
 lia
abbrev lcF(mask:Nat) (acc:Option (Ow×Nat)) (h:Int):Option (Ow×Nat):=do
 let(owner,k) <-acc
 let j <-layClean.free mask owner (turns mask) (bits h % (mask+1)) (bits h)
 af5 (owner.setIfInBounds j (some k),k+1)
theorem Bq{e:Nat}(hk:mask+1=2 ^ e) {hs:List Int}(few:hs.length<=mask):∀(todo done:List Int) (ow:Ow),hs=done++todo->LC mask hs ow done.length->∃ow',todo.foldl (lcF mask) (some (ow,done.length))=some (ow',hs.length)/\LC mask hs ow' hs.length
 |[],done,ow,h0,L=>⟨ow,by rw[h0];simp,by rw[h0];simpa[h0]using L⟩
 |h::todo,done,ow,h0,L=>by
  have ll:(lv mask ow).length=done.length:=by have:=L.perm.length_eq;simpa using this
  have lt:done.length<hs.length:=by rw[h0];simp
  obtain⟨j,hj,nj⟩:=zB L.sz (by lia);obtain⟨m,_,hm,_,em,_⟩:=uA (mask:=mask) (h:=h) hk hj;obtain⟨n',f1,f2,f3⟩:=uY (mask:=mask) (h:=h) (ow:=ow) L.sz (M:=m) (by rw[em,sT (by rw[L.sz];lia) (some 0) none];exact nj) (turns mask) 0 0 (Q5 _) (by unfold turns;lia) rfl (fun l hl=>by lia);have sl:=so (mask:=mask) (h:=h) n';have st:lcF mask (some (ow,done.length)) h=some (ow.setIfInBounds (pth mask h n').j (some done.length),done.length+1):=by
   show(layClean.free mask ow (turns mask) (bits h % (mask+1)) (bits h) >>= fun j=>af5 (ow.setIfInBounds j (some done.length),done.length+1))=_;have:layClean.free mask ow (turns mask) (bits h % (mask+1)) (bits h)=some (pth mask h n').j:=f1;rw[this];rfl
  rw[W5,st];generalize hsl:(pth mask h n').j=sl' at *
  have f2':ow.getD sl' none=none:=by rw[<-f2];exact sT (by rw[L.sz];lia) _ _
  have oc':∀j,ocO ow j->ocO (ow.setIfInBounds sl' (some done.length)) j:=fun j hj z=>by
   unfold ocO at hj;simp only[S7,aa3]at z hj
   split at z
   ·split at z<;>simp at z
   ·exact hj z
  have:=Bq hk few todo (done++[h]) (ow.setIfInBounds sl' (some done.length)) (by rw[h0];simp) ⟨by rw[Array.size_setIfInBounds];exact L.sz,?_,?_⟩
  ·rw[J1,Z7]at this;exact this
  ·rw[J1,Z7,ad6];refine((BL L.sz sl f2').map _).trans ?_;rw[N8];exact(ap7.cons _ L.perm).trans (List.perm_append_singleton _ _).symm
  ·intro j i g hg hi
   by_cases c:sl'=j
   ·have:i=done.length:=by
     simp only[S7,aa3,if_pos c]at hg
     split at hg
     ·simpa using hg.symm
     ·simp at hg
    subst this;have:g=h:=by rw[h0,X3 (F7 _),ar2,af2]at hi;exact(P9 hi).symm
    subst this;exact⟨n',by rw[hsl];exact c,fun m hm=>oc' _ (f3 m hm)⟩
   ·have hg':ow.getD j none=some i:=by
     simp only[S7,aa3,if_neg c]at hg ⊢;exact hg
    obtain⟨n,a,b⟩:=L.pr j i g hg' hi;exact⟨n,a,fun m hm=>oc' _ (b m hm)⟩
theorem sg(n:Nat):∀F k,n<2 ^ (k+F)->∃e,k<=e/\sizeAbove.go n F (2 ^ k)=2 ^ e/\n<2 ^ e/\(e=k∨2 ^ e<=2*n)
 |0,k,h=>⟨k,F7 _,rfl,h,.inl rfl⟩
 |F+1,k,h=>by
  unfold sizeAbove.go
  by_cases c:2 ^ k<=n
  ·rw[if_pos c,show 2 ^ k*2=2 ^ (k+1)from(am3 ..).symm];obtain⟨e,h1,h2,h3,h4⟩:=sg n F (k+1) (by rw[show k+1+F=k+(F+1)by lia];exact h);refine⟨e,by lia,h2,h3,.inr ?_⟩;rcases h4 with h4|h4
   ·rw[h4,am3];lia
   ·exact h4
  ·rw[if_neg c];exact⟨k,F7 _,rfl,by lia,.inl rfl⟩
theorem rX{n:Nat}(h:n<2 ^ 60):∃e,3<=e/\sizeAbove n=2 ^ e/\n<2 ^ e/\(2 ^ e<=8∨2 ^ e<=2*n):=by
 obtain⟨e,h1,h2,h3,h4⟩:=sg n 64 3 (Nat.lt_trans h (by decide));exact⟨e,h1,h2,h3,h4.imp (fun z=>by rw[z];decide) id⟩
variable{mask:Nat}
theorem ED(ow:Ow):((lv mask ow).map (·.1)).Pairwise (·<·):=by
 unfold lv;rw[List.map_filterMap,List.pairwise_filterMap];refine List.pairwise_lt_range.imp fun {a b} hab x hx y hy=>?_;cases qa:ow.getD a none with
 |none=>rw[qa]at hx;cases hx
 |some i =>
  cases qb:ow.getD b none with
  |none=>rw[qb]at hy;cases hy
  |some k =>
   rw[qa]at hx;rw[qb]at hy;cases hx;cases hy;exact hab
theorem A7{ow:Ow}{j i:Nat}(h:(j,i)∈lv mask ow):j<=mask/\ow.getD j none=some i:=by
 obtain⟨a,ha,e⟩:=W4.mp h;have:=R0.mp ha;cases q:ow.getD a none with
 |none=>rw[q]at e;cases e
 |some k=>rw[q]at e;cases e;exact⟨by lia,q⟩
theorem AD{t:K8}{hs:List Int}{wanted:Nat}(h1:hs.length<=wanted) (h2:wanted<2 ^ 60) (h3:0<wanted):∃t' order,t.relaid hs.toArray wanted=some (t',order)/\t'.led=t.led/\t'.plain=t.plain/\t'.mask+1=sizeAbove wanted/\order.toList.Perm (P0 hs.length)/\t'.place.size=hs.length/\TB t' (order.toList.map fun k=>hs.getD k 0):=by
 obtain⟨e,e3,es,el,_⟩:=rX h2;have pos:0<2 ^ e:=Nat.two_pow_pos e;generalize hm:sizeAbove wanted-1=mask;have hk:mask+1=2 ^ e:=by lia
 have L0:LC mask hs (ao4 (mask+1) none) 0:=by
  have z:∀j,(ao4 (mask+1) (none:Option Nat)).getD j none=none:=fun j=>by
   rw[S7,Array.getElem?_replicate];split<;>rfl
  refine⟨by simp,?_,fun j i h q _=>by rw[z]at q;cases q⟩;have:lv mask (ao4 (mask+1) none)=[]:=by
   unfold lv;rw[List.filterMap_eq_nil_iff];intro j _;rw[z];rfl
  rw[this];exact .refl _
 obtain⟨ow,f,L⟩:=Bq hk (hs:=hs) (by lia) hs [] _ rfl L0;have hl:layClean mask hs.toArray=some ow:=by
  unfold layClean;rw[<-Array.foldl_toList];show(hs.foldl (lcF mask) (some (ao4 (mask+1) none,0))).map (·.1)=_;rw[show(0:Nat)=([]:List Int).length from rfl,f];rfl
 have hr:t.relaid hs.toArray wanted=some ({ mask,place:=((lv mask ow).map (·.1)).toArray,dummies:=#[],finger:=t.finger,led:=t.led,moves:=t.movedTo mask,plain:=t.plain },((lv mask ow).map (·.2)).toArray):=by
  unfold relaid laid;rw[hm,hl];rfl
 have ll:(lv mask ow).length=hs.length:=by have:=L.perm.length_eq;simpa using this
 have gl:∀i,((lv mask ow).map (·.1)).toArray.getD i 0=((lv mask ow)[i]?.map (·.1)).getD 0:=fun i=>by rw[iN];simp
 have psz:((lv mask ow).map (·.1)).toArray.size=hs.length:=by simp[ll]
 have occ:∀j,j<=mask->ocO ow j->Occ ((lv mask ow).map (·.1)).toArray j:=fun j hj q=>by
  cases c:ow.getD j none with
  |none=>exact absurd (by rw[sT (by rw[L.sz];lia) (some 0) none];exact c) q
  |some i =>
   obtain⟨l,hl⟩:=ac5.mp (CC L.sz c);exact⟨l,by rw[psz,<-ll];exact(N1.mp hl).1,by rw[gl,hl];rfl⟩
 refine⟨_,_,hr,rfl,rfl,by show mask+1=_;lia,by simpa using L.perm,psz,⟨by simp,?_,?_,rfl,⟨e,e3,hk⟩,by show((lv mask ow).map (·.1)).toArray.size<=mask;lia,?_⟩⟩
 ·intro i j hij hj;rw[psz]at hj;have:=List.pairwise_iff_getElem.mp (ED (mask:=mask) ow) i j (by simp;lia) (by simp;lia) hij;show((lv mask ow).map (·.1)).toArray.getD i 0<((lv mask ow).map (·.1)).toArray.getD j 0;rw[gl,gl,F4 (by lia),F4 (by lia)];simpa using this
 ·intro i hi;rw[psz]at hi;show((lv mask ow).map (·.1)).toArray.getD i 0<=mask;rw[gl,F4 (by lia)];exact(A7 (R6 (by lia))).1
 ·intro i h hi;show ∃n,(pth mask h n).j=((lv mask ow).map (·.1)).toArray.getD i 0/\∀m,m<n->Occ ((lv mask ow).map (·.1)).toArray (pth mask h m).j;simp only[N0]at hi;cases c:(lv mask ow)[i]? with
  |none=>rw[c]at hi;cases hi
  |some jk =>
   obtain⟨j,k⟩:=jk;rw[c]at hi;have mem:=R4 c;have hk':k<hs.length:=R0.mp (L.perm.mem_iff.mp (O2.mpr ⟨_,mem,rfl⟩));have hh:hs[k]?=some h:=by
    have:hs.getD k 0=h:=by simpa using hi
    rw[F4 hk',<-this];simp[hk']
   obtain⟨n,a,b⟩:=L.pr j k h (A7 mem).2 hh;exact⟨n,by rw[gl,c];exact a,fun m hm=>occ _ (so m) (b m hm)⟩
end L2
namespace L2
open PySem PySem.SetTable PySem.SeqAt
structure TK(prog:K6) (w:Q7) (τ:Type) where
 is:K5->τ->s0->Prop
 hash:τ->Int
 room:N6->Prop
 pyHash:∀{A:N6} {E:s0->F2->Prop} {s:F2} {x:τ} {v:s0} {Q:Int->F2->Prop},room A->is s.heap x v->(∀t,s.toks<=t->Q (hash x) { s with toks:=t })->J4 (M0 prog w) A (PySem.pyHash v) Q E s
 eqB:∀{A:N6} {s:F2} {x y:τ} {v u:s0},room A->is s.heap x v->is s.heap y u->∃b:Bool,(b=true↔x=y)/\EqAt A s v u b
 quiet:∀{A:N6} {E:s0->F2->Prop} {s:F2} {x:τ} {v:s0} {Q:Bool->F2->Prop},room A->is s.heap x v->Q true s->J4 (M0 prog w) A (eqIsQuiet 8 v) Q E s
 noCls:∀{A:N6} {E:s0->F2->Prop} {s:F2} {x:τ} {v:s0} {Q:Bool->F2->Prop},room A->is s.heap x v->Q false s->J4 (M0 prog w) A (ofAClassStatement 8 v) Q E s
 byV:∀{A:N6} {E:s0->F2->Prop} {s:F2} {x:τ} {v:s0} {Q:Bool->F2->Prop},room A->is s.heap x v->(∀b,Q b s)->J4 (M0 prog w) A (hashByValue 8 v) Q E s
 ref:∀{h:K5} {x:τ} {v:s0},is h x v->∃a,v=.ref a
variable{prog:K6}{w:Q7}{τ:Type}{κ:TK prog w τ}{A:N6}{E:s0->F2->Prop}{s:F2}
structure Els(κ:TK prog w τ) (h:K5) (es:Array (Int×s0)) (zs:List τ):Prop where
 len:es.size=zs.length
 at_:∀(i:Nat) z,zs[i]?=some z->∃v,es[i]?=some (κ.hash z,v)/\κ.is h z v
def dZ(es:Array (Int×s0)):List Int:=es.toList.map (·.1)
theorem Els.of{h:K5}{es:Array (Int×s0)}{zs:List τ}(L:Els κ h es zs) {i:Nat}{e:Int×s0}(g:es[i]?=some e):∃z,zs[i]?=some z/\e.1=κ.hash z/\κ.is h z e.2:=by
 have hi:i<zs.length:=by rw[<-L.len];exact(R1.mp g).1
 obtain⟨v,g',q⟩:=L.at_ i zs[i] (F4 hi);rw[g]at g';cases g';exact⟨_,F4 hi,rfl,q⟩
theorem El{x:τ}{v:s0}(hr:κ.room A) (hx:κ.is s.heap x v) {Q:Bool->F2->Prop}(h:Q false s):∀(l:List s0),(∀u∈l,∃y,κ.is s.heap y u)->J4 (M0 prog w) A (searchCouldBeSeen v l) Q E s:=by
 intro l hl;unfold searchCouldBeSeen;refine o0 ?_;refine ai2 _ (fun rest b s'=>s'=s/\b=(none,())/\∀u∈rest,∃y,κ.is s.heap y u) _ ?_ ?_ _ _ ⟨rfl,rfl,hl⟩
 ·rintro u rest b s' ⟨rfl,rfl,hr'⟩;obtain⟨y,hy⟩:=hr' u (.head _);obtain⟨a,rfl⟩:=κ.ref hx;obtain⟨c,rfl⟩:=κ.ref hy;have rest':∀u∈rest,∃y,κ.is s'.heap y u:=fun u hu=>hr' u (.tail _ hu);dsimp only
  split
  ·exact u8 ⟨rfl,rfl,rest'⟩
  ·refine o0 (κ.quiet hr hx ?_);simp only[ac7,F6,if_false];refine o0 (κ.quiet hr hy ?_);simp only[ac7,F6,if_false];refine o0 (κ.noCls hr hx ?_);simp only[F6,if_false];refine o0 (κ.noCls hr hy ?_);simp only[F6,if_false];exact u8 ⟨rfl,rfl,rest'⟩
 ·rintro b s' ⟨rfl,rfl,_⟩;exact u8 h
theorem B2{a:F9}{o:Obj}{es:Array (Int×s0)}{ep:Nat}{t:K8}{zs:List τ}{x:τ}{v:s0}{n0:Nat}(hr:κ.room A) (hx:κ.is s.heap x v) (ho:s.heap.get? a=some o) (hd:o.data=.set es ep t) (L:Els κ s.heap es zs) (T:TB t (dZ es))
  (f0:¬ Occ t.place (pth t.mask (κ.hash x) n0).j) (f1:∀m,m<n0->Occ t.place (pth t.mask (κ.hash x) m).j) {Q:SetFound->F2->Prop} (hy:x∈zs->∀i,Q (.there i) s) (hn:x∉zs->Q (.free (pth t.mask (κ.hash x) n0).j false) s) :
  ∀F n stand,stand.getD (t.probeStart (κ.hash x))=pth t.mask (κ.hash x) n->n<=n0->n0-n<F->n0<10*turns t.mask->(∀l,l<n->∀i,i<t.place.size->t.place.getD i 0=(pth t.mask (κ.hash x) l).j->zs[i]?≠some x)->J4 (M0 prog w) A (aq3 a v (κ.hash x) true F stand) Q E s:=by
 have lens:(dZ es).length=es.size:=by simp[dZ]
 have fit:t.fits es.size=true:=by
  unfold K8.fits fill;rw[T.dm,T.sz,lens];have:=T.few;rw[T.sz,lens]at this;simpa using this
 have gw:t.gaveWay=false:=by
  obtain⟨k,k3,hk⟩:=T.pw;unfold gaveWay;obtain⟨m,rfl⟩:∃m,k=m+1:=⟨k-1,by lia⟩;rw[am3]at hk;have:t.mask % 2=1:=by lia
  rw[this];rfl
 have uniq:∀{i k},i<t.place.size->k<t.place.size->t.place.getD i 0=t.place.getD k 0->i=k:=fun {i k} hi hk e=>by
  rcases al0 i k with q|q|q
  ·have:=T.up i k q hk;lia
  ·exact q
  ·have:=T.up k i q hi;lia
 intro F
 induction F with
 |zero=>intro n stand _ _ h3;lia
 |succ F ih =>
  intro n stand e h2 h3 h4 h5;unfold aq3;refine o0 (aa7 ho hd fit ?_);dsimp only;rw[gw];simp only[F6,if_false];unfold K8.probe;rw[e];obtain⟨ha,hha⟩:∃ha:Nat->Int,ha=fun i=>(es[i]?.map (·.1)).getD 0:=⟨_,rfl⟩;obtain⟨m,m1,m2,m3,m4⟩:=qO T f0 f1 (ha:=ha) (10*turns t.mask) n h2 (by lia);have hat:∀(i:Nat) z,zs[i]?=some z->ha i=κ.hash z:=fun i z hz=>by
   obtain⟨u,g,_⟩:=L.at_ i z hz;rw[hha];simp[g]
  have skip:∀l,l<m->∀i,i<t.place.size->t.place.getD i 0=(pth t.mask (κ.hash x) l).j->zs[i]?≠some x:=fun l hl i hi he hz=>by
   rcases R3 l n with q|q
   ·exact h5 l q i hi he hz
   ·obtain⟨k,k1,k2,k3⟩:=m3 l q hl;obtain rfl:=uniq hi k1 (he.trans k2.symm);exact k3 (hat _ _ hz)
  rcases m4 with⟨rfl,em⟩|⟨mlt,i,i1,i2,i3,em⟩
  ·have em2:∀f:Nat->Int,f=ha->probe.go t f (κ.hash x) (10*turns t.mask) (pth t.mask (κ.hash x) n)=probe.go t ha (κ.hash x) (10*turns t.mask) (pth t.mask (κ.hash x) n):=fun f hf=>by rw[hf]
   rw[em2 _ ?_,em]
   rotate_left
   ·rw[hha];rfl
   dsimp only;refine u8 (hn fun hz=>?_);obtain⟨i,hi⟩:=ac5.mp hz;have hi':i<t.place.size:=by rw[T.sz,lens,L.len];exact(N1.mp hi).1
   obtain⟨u,g,_⟩:=L.at_ i x hi;obtain⟨nn,a1,a2⟩:=T.pr i (κ.hash x) (by rw[dZ,N0,S3,g];rfl);have lt:nn<m:=by
    rcases al0 nn m with q|q|q
    ·exact q
    ·subst q;exact absurd ⟨i,hi',a1.symm⟩ f0
    ·exact absurd (a2 m q) f0
   exact skip nn lt i hi' a1.symm hi
  ·have em2:∀f:Nat->Int,f=ha->probe.go t f (κ.hash x) (10*turns t.mask) (pth t.mask (κ.hash x) n)=probe.go t ha (κ.hash x) (10*turns t.mask) (pth t.mask (κ.hash x) n):=fun f hf=>by rw[hf]
   rw[em2 _ ?_,em]
   rotate_left
   ·rw[hha];rfl
   dsimp only;have iz:i<zs.length:=by rw[<-L.len,<-lens,<-T.sz];exact i1
   obtain⟨u,gu,hu⟩:=L.at_ i zs[i] (F4 iz);have main:J4 (M0 prog w) A (do
     let some (_,y):=es[i]?|ap9 "internal:set-entry"
     let equal <-ak1 [y] (eqBool y v)
     let(es',_,t') <-setState a
     if true&&equal then return .there none
     let some same:=t'.sameMemory t.moves t.mask|ap9 "set.changed-during-lookup:is-the-new-block-at-the-old-address"
     let still <-match (if same then t'.slot (pth t.mask (κ.hash x) m).j else .empty)with
      |.live i'=>match es'[i']? with
       |some (_,y')=>do af5 (if <-isSame y' y then some i' else none)
       |none=>af5 none
      |_=>af5 none
     match still with
     |none=>rule "set.search.anew";aq3 a v (κ.hash x) true F none
     |some i'=>if equal then return .there (some i')else aq3 a v (κ.hash x) true F (some (pth t.mask (κ.hash x) (m+1)))) Q E s:=by
    rw[gu];dsimp only;obtain⟨b,hb,eq⟩:=κ.eqB hr hu hx;refine o0 (O9 (eq prog w _ _ ?_));refine o0 (aa7 ho hd fit ?_);dsimp only;cases b with
    |true =>
     have:zs[i]=x:=hb.mp rfl;exact u8 (hy (this▸R6 iz) _)
    |false =>
     have ne:zs[i]≠x:=fun z=>by have:=hb.mpr z;cases this
     simp only[P7,F6,if_false];rw[show t.sameMemory t.moves t.mask=some true by simp[sameMemory]];dsimp only;rw[nU T.up i1 i2];simp only[if_true];rw[gu];dsimp only;obtain⟨c,rfl⟩:=κ.ref hu;refine o0 (wpAny_isSame_ref_self (o0 (u8 ?_)));simp only[if_true];refine ih (m+1) _ rfl mlt (by lia) h4 fun l hl k k1 k2=>?_;rcases R3 l m with q|q
     ·exact skip l q k k1 k2
     ·obtain rfl:l=m:=by lia
      obtain rfl:=uniq k1 i1 (k2.trans i2.symm);rw[F4 iz];intro z;exact ne (P9 z)
   by_cases led:t.led=true
   ·rw[led];simp only[ac7,F6,if_false];exact main
   ·rw[show t.led=false by simpa using led];simp only[al5,if_true];refine o0 (El hr hx ?_ _ fun u hu=>?_)
    ·simp only[F6,if_false];exact main
    ·obtain⟨e,he,rfl⟩:=O2.mp hu;have he':e∈es:=(Array.mem_filter.mp (Array.mem_def.mpr he)).1;obtain⟨k,hk,ek⟩:=Array.mem_iff_getElem.mp he';obtain⟨z,_,_,q⟩:=L.of (i:=k) (e:=e) (by rw[K9 hk,ek]);exact⟨z,q⟩
variable{prog:K6}{w:Q7}{τ:Type}{κ:TK prog w τ}{A:N6}{E:s0->F2->Prop}{s:F2}
structure FJ(κ:TK prog w τ) (h:K5) (a:F9) (o:Obj) (es:Array (Int×s0)) (ep:Nat) (t:K8) (zs:List τ):Prop where
 get:h.get? a=some o
 ex:o.ExactSet
 data:o.data=.set es ep t
 el:Els κ h es zs
 nd:zs.Nodup
 tb:TB t (dZ es)
 led:t.led=!w.params.followText "set-order"
 roomy:es.size*5<t.mask*3
 small:t.mask<=7∨t.mask<=8*es.size
def kG(κ:TK prog w τ) (h:K5) (a:F9) (xs:List τ):Prop:=∃o es ep t zs,FJ κ h a o es ep t zs/\zs.Perm xs
theorem Els.keep{h h':K5}{es:Array (Int×s0)}{zs:List τ}(L:Els κ h es zs) (k:∀z v,κ.is h z v->κ.is h' z v):Els κ h' es zs:=⟨L.len,fun i z hz=>by obtain⟨v,g,q⟩:=L.at_ i z hz;exact⟨v,g,k z v q⟩⟩
theorem kG.mono{h h':K5}{a:F9}{xs:List τ}(S:kG κ h a xs) (k:∀o,h.get? a=some o->h'.get? a=some o) (k2:∀z v,κ.is h z v->κ.is h' z v):kG κ h' a xs:=by
 obtain⟨o,es,ep,t,zs,q,p⟩:=S;exact⟨o,es,ep,t,zs,⟨k _ q.get,q.ex,q.data,q.el.keep k2,q.nd,q.tb,q.led,q.roomy,q.small⟩,p⟩
theorem uw{h:K5}{es:Array (Int×s0)}{zs:List τ}{x:τ}{v:s0}{p:Nat}(L:Els κ h es zs) (hx:κ.is h x v) (hp:p<=zs.length):Els κ h (insertAt es p (κ.hash x,v)) (zs.take p++x::zs.drop p):=by
 have lt:(es.toList.take p).length=p:=by rw[P4,K3,L.len];lia
 have lz:(zs.take p).length=p:=by rw[P4];lia
 refine⟨by rw[ip _ _ _ (by rw[L.len];exact hp),J1,T0,lz,af3,L.len];lia,fun i z hz=>?_⟩;have gi:(insertAt es p (κ.hash x,v))[i]?=(es.toList.take p++(κ.hash x,v)::es.toList.drop p)[i]?:=by rw[<-j8,S3]
 rw[gi];rw[ah7,lz]at hz;rw[ah7,lt]
 by_cases c1:i<p
 ·rw[if_pos c1,Z9 c1]at hz;rw[if_pos c1,Z9 c1,S3];exact L.at_ i z hz
 ·rw[if_neg c1]at hz ⊢
  by_cases c2:i=p
  ·rw[c2,ar2,af2]at hz ⊢;cases hz;exact⟨v,rfl,hx⟩
  ·obtain⟨m,hm⟩:∃m,i-p=m+1:=⟨i-p-1,by lia⟩;rw[hm,aa2,List.getElem?_drop]at hz ⊢;rw[S3];exact L.at_ _ z hz
theorem TB.plain{t:K8}{hs:List Int}(T:TB t hs) (b:Bool):TB { t with plain:=b } hs:=⟨T.sz,T.up,T.le,T.dm,T.pw,T.few,T.pr⟩
theorem TB.fit{t:K8}{es:Array (Int×s0)}(T:TB t (dZ es)):t.fits es.size=true:=by
 have lens:(dZ es).length=es.size:=by simp[dZ]
 unfold K8.fits fill;rw[T.dm,T.sz,lens];have:=T.few;rw[T.sz,lens]at this;simpa using this
theorem u6{h:K5}{a:F9}{o:Obj}{es:Array (Int×s0)}{ep:Nat}{t:K8}(ho:h.get? a=some o) (hd:o.data=.set es ep t) (es':Array (Int×s0)) (t':K8) :
  (h.update a (ai9 es' t')).get? a=some { o with data:=.set es' (ep+1) t' }:=by
 have:=O1 (ai9 es' t') ho (by rw[au1 es' t' hd];rfl);rw[au1 es' t' hd]at this;exact this
theorem qR{es:Array (Int×s0)}:∀{l:List Nat},(∀k∈l,k<es.size)->(l.filterMap fun k=>es[k]?)=l.map fun k=>es.getD k (0,.none)
 |[],_=>rfl
 |k::l,h=>by
  have hk:=h k (.head _);rw[R8,K9 hk,N8,qR fun j hj=>h j (.tail _ hj)];simp[X8,hk]
theorem pI{l:List τ}{k:Nat}(h:k<l.length) (d:τ):l[k]?=some (l.getD k d):=by rw[List.getD_eq_getElem?_getD,F4 h];rfl
theorem m8(l:List τ) (d:τ):(P0 l.length).map (fun k=>l.getD k d)=l:=by
 refine ad7 fun i=>?_;rw[N0];rcases R3 i l.length with q|q
 ·rw[List.getElem?_range q,pI q d];rfl
 ·rw[P5 (by rw[aa8];exact q),P5 q];rfl
theorem Fm{a:F9}{xs:List τ}{x:τ}{v:s0}{Q:Bool->F2->Prop}(hr:κ.room A) (hx:κ.is s.heap x v) (hS:kG κ s.heap a xs) (few:xs.length<1000) (kp:∀h' z v,P2 a s.heap h'->κ.is s.heap z v->κ.is h' z v)
  (h:∀b h',P2 a s.heap h'->(x∈xs->kG κ h' a xs)->(x∉xs->kG κ h' a (xs++[x]))->Q b { s with heap:=h' }):J4 (M0 prog w) A (ar0 a v (κ.hash x)) Q E s:=by
 obtain⟨o,es,ep,t,zs,q,pm⟩:=hS;have lens:(dZ es).length=es.size:=by simp[dZ]
 have lz:es.size=xs.length:=by rw[q.el.len,pm.length_eq]
 obtain⟨n0,n1,f0,f1⟩:=q.tb.free (κ.hash x);have hm:t.mask<=8000:=by have:=q.small;lia
 obtain⟨r,rfl⟩:=κ.ref hx;have es0:s={ s with heap:=s.heap }:=by cases s;rfl
 unfold ar0 setAddHashedIn;refine O9 (o0 (aa7 q.get q.data q.tb.fit ?_));dsimp only;rw[show byScan (.ref r) es=false by unfold byScan;rfl];simp only[F6,if_false];unfold setSearch;refine o0 (B2 hr hx q.get q.data q.el q.tb f0 f1 (fun hz i=>?_) (fun hz=>?_) 100000 0 none rfl (Q5 _) (by lia) (by unfold turns;lia) (fun l hl=>by lia))
 ·refine u8 ?_;rw[es0];exact h _ s.heap (P2.refl a s.heap) (fun _=>⟨o,es,ep,t,zs,q,pm⟩) fun hn=>absurd (pm.mem_iff.mp hz) hn
 ·have hn:x∉xs:=fun z=>hz (pm.mem_iff.mpr z);have fl:t.place.size+1<=t.mask:=by
   have:=q.roomy;have:=q.tb.sz;obtain⟨k,k3,hk⟩:=q.tb.pw;have:2 ^ 3<=2 ^ k:=Nat.pow_le_pow_right (by decide) k3
   lia
  obtain⟨p,hp,e2,T1,l1,_,m1,z1⟩:=q.tb.put f0 f1 fl;rw[lens]at hp;dsimp only;refine o0 (aa7 q.get q.data q.tb.fit ?_);dsimp only;generalize ht:t.put (pth t.mask (κ.hash x) n0).j=tp at *
  obtain⟨t1,p'⟩:=tp;dsimp only at e2 T1 l1 m1 z1 ⊢;subst e2;have pz:p'<=zs.length:=by rw[<-q.el.len];exact hp
  have hso:dZ (insertAt es p' (κ.hash x,.ref r))=(dZ es).take p'++κ.hash x::(dZ es).drop p':=by unfold dZ;rw[j8];simp[aq4,List.map_drop]
  have iz:(insertAt es p' (κ.hash x,.ref r)).size=es.size+1:=ip _ _ _ hp;have nd1:(zs.take p'++x::zs.drop p').Nodup:=by
   rw[ai1.nodup_iff,ag7,ad3];exact⟨hz,q.nd⟩
  have pm1:(zs.take p'++x::zs.drop p').Perm (xs++[x]):=by
   refine ai1.trans ?_;rw[ag7];exact(ap7.cons _ pm).trans (List.perm_append_singleton _ _).symm
  have go:∀t2:K8,TB t2 (dZ (insertAt es p' (κ.hash x,.ref r)))->t2.led=t.led->t2.mask=t.mask->t2.place.size=t.place.size+1->J4 (M0 prog w) A (do
     storeSet a (insertAt es p' (κ.hash x,.ref r)) t2
     if !false&&t2.tooFull then setRelay a (grown (es.size+1))
     return true) Q E s:=by
   intro t2 T2 ld mk sz2;refine o0 (ak8 q.get q.data ?_ (ad9 (by unfold ac6;lia)));have ho1:=u6 q.get q.data (insertAt es p' (κ.hash x,.ref r)) t2;have sb1:=S1 s.heap a (ai9 (insertAt es p' (κ.hash x,.ref r)) t2);generalize hh1:s.heap.update a (ai9 (insertAt es p' (κ.hash x,.ref r)) t2)=h1 at *
   have el1:Els κ h1 (insertAt es p' (κ.hash x,.ref r)) (zs.take p'++x::zs.drop p'):=(uw q.el hx pz).keep fun z v hz=>kp _ z v sb1 hz;have tf:t2.tooFull=decide ((es.size+1)*5>=t.mask*3):=by
    unfold tooFull fill;rw[T2.dm,sz2,q.tb.sz,lens,mk];simp
   by_cases c:(es.size+1)*5>=t.mask*3
   ·rw[tf,decide_eq_true c];simp only[al5,Bool.and_true,if_true];refine o0 ?_;unfold setRelay;refine o0 (aa7 (s:={ s with heap:=h1 }) ho1 rfl T2.fit ?_);dsimp only;have gr:grown (es.size+1)=(es.size+1)*4:=by unfold grown;rw[if_neg (by lia)]
    rw[gr];obtain⟨e,e3,ee,el,eb⟩:=rX (n:=(es.size+1)*4) (by lia);obtain⟨t3,order,er,ld3,_,mk3,po,sz3,T3⟩:=AD (t:=t2) (hs:=dZ (insertAt es p' (κ.hash x,.ref r))) (wanted:=(es.size+1)*4) (by simp only[dZ,F3,K3];rw[iz];lia) (by lia) (by lia);have ls:(dZ (insertAt es p' (κ.hash x,.ref r))).length=es.size+1:=by simp[dZ,iz]
    rw[ls]at po sz3;rw[if_neg (by rw[ee,ab0];lia)];have ea:(insertAt es p' (κ.hash x,.ref r)).map (·.1)=(dZ (insertAt es p' (κ.hash x,.ref r))).toArray:=by apply Array.toList_inj.mp;simp[dZ]
    rw[ea,er];have inr:∀k∈order.toList,k<(insertAt es p' (κ.hash x,.ref r)).size:=fun k hk=>by rw[iz];exact R0.mp (po.mem_iff.mp hk)
    have eo:(order.filterMap fun k=>(insertAt es p' (κ.hash x,.ref r))[k]?).toList=order.toList.map fun k=>(insertAt es p' (κ.hash x,.ref r)).getD k (0,.none):=by
     rw[Array.toList_filterMap,qR inr]
    generalize he2:(order.filterMap fun k=>(insertAt es p' (κ.hash x,.ref r))[k]?)=es2 at *
    have z2:es2.size=es.size+1:=by rw[<-K3,eo,F3,po.length_eq,aa8]
    refine o0 ?_;show J4 _ _ (do
     let es':=order.filterMap fun k=>(insertAt es p' (κ.hash x,.ref r))[k]?
     if es'.size != (insertAt es p' (κ.hash x,.ref r)).size then ap9 "internal:set-table-lost-an-element"
     af5 (es',t3)) _ _ _
    dsimp only;rw[he2,if_neg (by rw[z2,iz];simp)];refine u8 ?_;dsimp only;refine ak8 ho1 rfl ?_ (ad9 (by unfold ac6;lia));have ho2:=u6 (h:=h1) ho1 rfl es2 t3;refine u8 (h _ _ (sb1.trans (S1 _ a _)) (fun z=>absurd z hn) fun _=>⟨_,es2,_,t3,order.toList.map fun k=>(zs.take p'++x::zs.drop p').getD k x,⟨ho2,q.ex,rfl,?_,?_,?_,?_,?_,?_⟩,?_⟩)
    ·refine⟨by rw[z2,F3,po.length_eq,aa8],fun i z hz'=>?_⟩;rw[N0]at hz';cases c2:order.toList[i]? with
     |none=>rw[c2]at hz';cases hz'
     |some k =>
      rw[c2]at hz';have hk:=inr k (R4 c2);have hk':k<(zs.take p'++x::zs.drop p').length:=by rw[<-el1.len];exact hk
      obtain⟨v2,g2,q2⟩:=el1.at_ k z (by rw[pI hk' x];exact hz');refine⟨v2,?_,kp _ z v2 (sb1.trans (S1 _ a _)) ?_⟩
      ·rw[<-S3,eo,N0,c2];simp[S7,g2]
      ·obtain⟨v3,g3,q3⟩:=(uw q.el hx pz).at_ k z (by rw[pI hk' x];exact hz');rw[g2]at g3;cases g3;exact q3
    ·refine((po.map fun k=>(zs.take p'++x::zs.drop p').getD k x).nodup_iff).mpr ?_;rw[<-iz,el1.len,m8];exact nd1
    ·have:dZ es2=order.toList.map fun k=>(dZ (insertAt es p' (κ.hash x,.ref r))).getD k 0:=by
      unfold dZ;rw[eo,S5];refine ai5 fun k hk=>?_;have hk:=inr k hk;simp[X8,hk,List.getD]
     rw[this];exact T3
    ·rw[ld3,ld];exact q.led
    ·have:=mk3;rw[ee]at this;rw[z2];lia
    ·right;have:=mk3;rw[ee]at this;rw[z2];rcases eb with eb|eb<;>lia
    ·refine(po.map _).trans ?_;rw[<-iz,el1.len,m8];exact pm1
   ·rw[tf,decide_eq_false c];simp only[al5,P7,F6,if_false];refine u8 (h _ _ sb1 (fun z=>absurd z hn) fun _=>⟨_,_,_,t2,_,⟨ho1,q.ex,rfl,el1,nd1,T2,by rw[ld];exact q.led,by rw[iz,mk];lia,?_⟩,pm1⟩);rw[mk,iz];have:=q.small;lia
  rw[<-hso]at T1
  by_cases pl:t1.plain=true
  ·rw[if_pos pl];refine o0 (κ.byV hr hx fun b=>?_);cases b with
   |true=>simp only[if_true];exact go t1 T1 l1 m1 z1
   |false=>simp only[F6,if_false];exact go _ (T1.plain false) l1 m1 z1
  ·rw[if_neg pl];refine o0 (u8 ?_);simp only[if_true];exact go t1 T1 l1 m1 z1
end L2
namespace L2
open PySem PySem.Spec PyProof.Rows PySem.SeqAt
inductive KD where
 |int (i:Int)|str (x:Str)|tup (ks:List KD)
 deriving Inhabited
def KAt(h:K5):Nat->KD->s0->Prop
 |_,.int i,v=>∃t,v=.int i t
 |_,.str x,v=>∃t,v=.str x t
 |0,.tup _,_=>False
 |n+1,.tup ds,v=>∃(a:F9) (its:Array s0),v=.ref a/\ap8 h a its/\its.size=ds.length/\∀(i:Nat) d u,ds[i]?=some d->its[i]?=some u->KAt h n d u
def hK(w:Q7):Nat->KD->Int
 |_,.int i=>hashInt i
 |_,.str x=>hashStr w x
 |0,.tup _=>0
 |n+1,.tup ds=>as9 (T7 (ds.map (hK w n)))
theorem tZ{h:K5}{n:Nat}{i:Int}{v:s0}:KAt h n (.int i) v↔∃t,v=.int i t:=by cases n<;>exact .rfl
theorem uE{h:K5}{n:Nat}{i:Str}{v:s0}:KAt h n (.str i) v↔∃t,v=.str i t:=by cases n<;>exact .rfl
theorem zc{h h':K5}{a:F9}{its:Array s0}(t:ap8 h a its) (k:∀o,o.cls=.type "tuple"->h.get? a=some o->h'.get? a=some o):ap8 h' a its :=
 let⟨o,ho,hc,hd⟩:=t
 ⟨o,k _ hc ho,hc,hd⟩
theorem KAt.upT{h h':K5}(k:∀b xs,ap8 h b xs->ap8 h' b xs):∀{n:Nat}{d:KD}{v:s0},KAt h n d v->KAt h' n d v:=by
 intro n
 induction n with
 |zero=>intro d v q;cases d<;>exact q
 |succ n ih =>
  intro d v q;cases d with
  |int _=>exact q
  |str _=>exact q
  |tup ds =>
   obtain⟨a,its,e,t,z,r⟩:=q;exact⟨a,its,e,k a _ t,z,fun i d u h1 h2=>ih (r i d u h1 h2)⟩
theorem KAt.up{h h':K5}(k:∀b o,o.cls=.type "tuple"->h.get? b=some o->h'.get? b=some o) {n:Nat} {d:KD} {v:s0} (q:KAt h n d v):KAt h' n d v:=q.upT fun b xs t=>zc t (k b)
theorem KAt.same{h:K5}:∀(n:Nat) {d e:KD}{v:s0},KAt h n d v->KAt h n e v->d=e:=by
 intro n
 induction n with
 |zero =>
  intro d e v h1 h2;cases d with
  |int i=>cases e with
   |int j=>obtain⟨_,rfl⟩:=h1;obtain⟨_,z⟩:=h2;cases z;rfl
   |str j=>obtain⟨_,rfl⟩:=h1;obtain⟨_,z⟩:=h2;cases z
   |tup _=>exact h2.elim
  |str i=>cases e with
   |int j=>obtain⟨_,rfl⟩:=h1;obtain⟨_,z⟩:=h2;cases z
   |str j=>obtain⟨_,rfl⟩:=h1;obtain⟨_,z⟩:=h2;cases z;rfl
   |tup _=>exact h2.elim
  |tup _=>exact h1.elim
 |succ n ih =>
  intro d e v h1 h2;cases d with
  |int i=>cases e with
   |int j=>obtain⟨_,rfl⟩:=h1;obtain⟨_,z⟩:=h2;cases z;rfl
   |str j=>obtain⟨_,rfl⟩:=h1;obtain⟨_,z⟩:=h2;cases z
   |tup _=>obtain⟨_,rfl⟩:=h1;obtain⟨_,_,z,_⟩:=h2;cases z
  |str i=>cases e with
   |int j=>obtain⟨_,rfl⟩:=h1;obtain⟨_,z⟩:=h2;cases z
   |str j=>obtain⟨_,rfl⟩:=h1;obtain⟨_,z⟩:=h2;cases z;rfl
   |tup _=>obtain⟨_,rfl⟩:=h1;obtain⟨_,_,z,_⟩:=h2;cases z
  |tup ds=>cases e with
   |int j=>obtain⟨_,rfl⟩:=h2;obtain⟨_,_,z,_⟩:=h1;cases z
   |str j=>obtain⟨_,rfl⟩:=h2;obtain⟨_,_,z,_⟩:=h1;cases z
   |tup es =>
    obtain⟨a1,its,e1,⟨o,ho,hc,c,hd⟩,z,r⟩:=h1;obtain⟨a2,its2,e2,⟨o2,ho2,hc2,c2,hd2⟩,z2,r2⟩:=h2;subst e1;cases e2;rw[ho]at ho2;cases ho2;rw[hd]at hd2;cases hd2;congr 1;refine ad7 fun i=>?_;rcases R3 i ds.length with q|q
    ·have q2:i<es.length:=by lia
     rw[F4 q,F4 q2];have q3:i<its.size:=by lia
     exact congrArg some (ih (r i _ _ (F4 q) (K9 q3)) (r2 i _ _ (F4 q2) (K9 q3)))
    ·rw[P5 q,P5 (by lia)]
def drK:Nat->KD->Nat
 |_,.int _=>1
 |_,.str _=>1
 |0,.tup _=>0
 |n+1,.tup ds=>(ds.map (drK n)).sum+1
section
variable{prog:K6}{w:Q7}{A:N6}{E:s0->F2->Prop}{s:F2}
theorem KAt.eq:∀(n:Nat) {A:N6}{d e:KD}{v u:s0},A.units+n<am0->KAt s.heap n d v->KAt s.heap n e u->∃b:Bool,(b=true↔d=e)/\EqAt A s v u b:=by
 intro n
 induction n with
 |zero =>
  intro A d e v u hu q1 q2;cases d with
  |tup _=>exact q1.elim
  |int i=>obtain⟨t,rfl⟩:=q1;cases e with
   |tup _=>exact q2.elim
   |int j=>obtain⟨t',rfl⟩:=q2;exact⟨i==j,by simp,EqAt.int_int _ _ _ _⟩
   |str j=>obtain⟨t',rfl⟩:=q2;exact⟨false,by simp,EqAt.int_str _ _ _ _⟩
  |str i=>obtain⟨t,rfl⟩:=q1;cases e with
   |tup _=>exact q2.elim
   |int j=>obtain⟨t',rfl⟩:=q2;exact⟨false,by simp,EqAt.str_int _ _ _ _⟩
   |str j=>obtain⟨t',rfl⟩:=q2;exact⟨i==j,by simp,EqAt.str_str _ _ _ _⟩
 |succ n ih =>
  intro A d e v u hu q1 q2;cases d with
  |int i=>obtain⟨t,rfl⟩:=q1;cases e with
   |int j=>obtain⟨t',rfl⟩:=q2;exact⟨i==j,by simp,EqAt.int_int _ _ _ _⟩
   |str j=>obtain⟨t',rfl⟩:=q2;exact⟨false,by simp,EqAt.int_str _ _ _ _⟩
   |tup _=>obtain⟨a,its,rfl,t,_⟩:=q2;exact⟨false,by simp,EqAt.int_tuple _ _ t (by lia)⟩
  |str i=>obtain⟨t,rfl⟩:=q1;cases e with
   |int j=>obtain⟨t',rfl⟩:=q2;exact⟨false,by simp,EqAt.str_int _ _ _ _⟩
   |str j=>obtain⟨t',rfl⟩:=q2;exact⟨i==j,by simp,EqAt.str_str _ _ _ _⟩
   |tup _=>obtain⟨a,its,rfl,t,_⟩:=q2;exact⟨false,by simp,EqAt.str_tuple _ _ t (by lia)⟩
  |tup ds =>
   obtain⟨a,its,rfl,t1,z1,r1⟩:=id q1;cases e with
   |int j=>obtain⟨t',rfl⟩:=q2;exact⟨false,by simp,EqAt.tuple_int _ _ t1 (by lia)⟩
   |str j=>obtain⟨t',rfl⟩:=q2;exact⟨false,by simp,EqAt.tuple_str _ _ t1 (by lia)⟩
   |tup es =>
    obtain⟨b,its2,rfl,t2,z2,r2⟩:=id q2
    by_cases ab:a=b
    ·subst ab;exact⟨true,by simp[KAt.same (n+1) q1 q2],EqAt.same _⟩
    ·have item:∀j,∃b:Bool,∀(h1:j<its.size) (h2:j<its2.size),(b=true↔ds[j]?=es[j]?)/\EqAt A.in1 s its[j] its2[j] b:=fun j=>by
      by_cases h1:j<its.size
      ·by_cases h2:j<its2.size
       ·obtain⟨b,b1,b2⟩:=ih (A:=A.in1) (show A.units+1+n<am0 by lia) (r1 j _ _ (F4 (by lia)) (K9 h1)) (r2 j _ _ (F4 (by lia)) (K9 h2));exact⟨b,fun _ _=>⟨by rw[F4 (by lia),F4 (by lia),b1];simp,b2⟩⟩
       ·exact⟨true,fun _ h=>absurd h h2⟩
      ·exact⟨true,fun h=>absurd h h1⟩
     have rc:=RcAt.tuples (A:=A) (s:=s) (e:=fun j=>(item j).choose) t1 t2 (by lia) fun j h1 h2=>((item j).choose_spec h1 h2).2;refine⟨_,?_,EqAt.of_refs ab rc⟩;rw[K1,N5,beq_iff_eq];constructor
     ·rintro⟨h1,h2⟩;congr 1;refine ad7 fun i=>?_;rcases R3 i ds.length with q|q
      ·exact((item i).choose_spec (by lia) (by lia)).1.mp (h1 i (R0.mpr (by lia)))
      ·rw[P5 q,P5 (by lia)]
     ·intro z;cases z;refine⟨fun i hi=>?_,by lia⟩;have hi:=R0.mp hi;exact((item i).choose_spec (by lia) (by lia)).1.mpr rfl
theorem KAt.hash:∀(n:Nat) {A:N6}{s:F2}{E:s0->F2->Prop}{d:KD}{v:s0}{Q:Int->F2->Prop},A.units+n<am0->KAt s.heap n d v->Q (hK w n d) { s with toks:=s.toks+drK n d }->J4 (M0 prog w) A (pyHash v) Q E s:=by
 intro n
 induction n with
 |zero =>
  intro A s E d v Q hu q h;cases d with
  |int i=>obtain⟨t,rfl⟩:=q;exact wpAny_pyHash_int h
  |str i=>obtain⟨t,rfl⟩:=q;exact wpAny_pyHash_str h
  |tup _=>exact q.elim
 |succ n ih =>
  intro A s E d v Q hu q h;cases d with
  |int i=>obtain⟨t,rfl⟩:=q;exact wpAny_pyHash_int h
  |str i=>obtain⟨t,rfl⟩:=q;exact wpAny_pyHash_str h
  |tup ks =>
   obtain⟨a,its,rfl,tp,z,r⟩:=q;obtain⟨o,ho,hc,c,hd⟩:=tp;have hT:s.TypeIs (.ref a) "tuple":=⟨o,ho,hc⟩;have hu0:A.units<am0:=by lia
   unfold pyHash pyHashByItsType;refine o0 (wpAny_cRoomFor_or (.inr hu0) ?_);refine o0 (ag6 hT ah4.lookup ?_);show J4 _ _ (if(some (ah1 "tuple.__hash__")==some L8)=true then _ else _) Q E s;rw[if_neg (by rw[beq_builtin_none];exact V7)];refine o0 (ag6 hT ah4.lookup ?_);show J4 _ _ (callSpecialIfBoundUnlessNone? (.ref a) "__hash__" _ >>= _) Q E s;refine o0 (wpAny_callSpecialIfBoundUnlessNone?_slot hT ah4 (U7 ah4 hT F.entry_tuple_hash ?_ (F.args_tuple_hash_1 _)));show J4 _ _ (X4 (.ref a) >>= _) _ _ s;refine o0 (wpAny_tupleItemsOf ho hd ?_);refine o0 ?_;rw[<-aj8];refine ai2 _ (fun rest (b:Array Int) s'=>∃m,m<=ks.length/\rest=its.toList.drop m/\b.toList=(ks.take m).map (hK w n)/\s'={ s with toks:=s.toks+((ks.take m).map (drK n)).sum }) _ ?_ ?_ _ _ ⟨0,Q5 _,rfl,rfl,rfl⟩
   ·rintro x rest b s' ⟨m,hm,hr,hb,rfl⟩;have lt:m<its.size:=by
     rcases R3 m its.size with q|q
     ·exact q
     ·rw[af6 (by rw[K3];exact q)]at hr;cases hr
    rw[Z5 (by rw[K3];exact lt)]at hr;obtain⟨rfl,rfl⟩:=am2.inj hr;have km:ks[m]?=some (ks[m]'(by lia)):=F4 _;refine o0 (ih (show A.in1.units+n<am0 by show A.units+1+n<am0;lia) (r m _ _ km (by rw[K9 lt];simp)) ?_);refine u8 ⟨m+1,by lia,rfl,?_,?_⟩
    ·rw[ak9,hb,V2,km,U5];rfl
    ·rw[V2,km,U5,List.sum_append,<-aq2];simp
   ·rintro b s' ⟨m,hm,hr,hb,rfl⟩;have:m=ks.length:=by
     rcases R3 m its.size with q|q
     ·rw[Z5 (by rw[K3];exact q)]at hr;cases hr
     ·lia
    subst this;rw[aa0]at hb ⊢;show J4 _ _ (retInt (T7 b.toList)) _ _ _;rw[hb];refine wpAny_ret_mkInt ?_;show J4 _ _ (if(decide (-(2:Int) ^ 63<=T7 (ks.map (hK w n)))&&decide (T7 (ks.map (hK w n))<2 ^ 63))=true then _ else _) Q E _;have h':Q (as9 (T7 (ks.map (hK w n)))) { s with toks:=s.toks+((ks.map (drK n)).sum+1) }:=h;rw[<-aq2]at h';unfold as9 at h'
    by_cases hr2:(decide (-(2:Int) ^ 63<=T7 (ks.map (hK w n)))&&decide (T7 (ks.map (hK w n))<2 ^ 63))=true
    ·rw[if_pos hr2];rw[if_pos hr2]at h';exact u8 h'
    ·rw[if_neg hr2];rw[if_neg hr2]at h';exact o0 (ak6 (u8 h'))
end
section
variable{prog:K6}{w:Q7}{A:N6}{E:s0->F2->Prop}{s:F2}
theorem tR{a:F9}{its:Array s0}{Q:Option (Array s0)->F2->Prop}(t:ap8 s.heap a its) (h:Q (some its) s):J4 (M0 prog w) A (au3 (.ref a)) Q E s:=by
 obtain⟨o,ho,hc,c,hd⟩:=t;unfold au3;refine o0 (as5 ho ?_);rw[hd];exact u8 h
theorem KAt.item{h:K5}{n:Nat}{ks:List KD}{its:Array s0}(z:its.size=ks.length) (r:∀(i:Nat) d u,ks[i]?=some d->its[i]?=some u->KAt h n d u) {x:s0}(hx:x∈its.toList):∃k,KAt h n k x:=by
 obtain⟨i,hi⟩:=ac5.mp hx;rw[S3]at hi;have lt:=(R1.mp hi).1;exact⟨_,r i _ _ (F4 (by lia)) hi⟩
theorem KAt.quiet:∀(f n:Nat) {k:KD}{v:s0}{Q:Bool->F2->Prop},n<=f->KAt s.heap n k v->Q true s->J4 (M0 prog w) A (eqIsQuiet f v) Q E s:=by
 intro f
 induction f with
 |zero =>
  intro n k v Q hn q h;obtain rfl:n=0:=by lia
  cases k with
  |int i=>obtain⟨t,rfl⟩:=q;exact u8 h
  |str i=>obtain⟨t,rfl⟩:=q;exact u8 h
  |tup _=>exact q.elim
 |succ f ih =>
  intro n k v Q hn q h;cases k with
  |int i=>obtain⟨t,rfl⟩:=tZ.mp q;exact u8 h
  |str i=>obtain⟨t,rfl⟩:=uE.mp q;exact u8 h
  |tup ks =>
   cases n with
   |zero=>exact q.elim
   |succ n =>
    obtain⟨a,its,rfl,tp,z,r⟩:=q;have hT:s.TypeIs (.ref a) "tuple":=by obtain⟨o,ho,hc,_⟩:=tp;exact⟨o,ho,hc⟩
    unfold eqIsQuiet;refine o0 (ag6 hT F.slot_tuple_eq.lookup ?_);show J4 _ _ (at0 (.ref a) (.type "tuple") >>= _) _ _ s;refine o0 (am8 hT isSubtype_tuple_tuple ?_);simp only[ac7,F6,if_false];refine o0 (tR tp ?_);refine o0 ?_;show J4 _ _ (forIn its _ _) _ _ s;rw[<-aj8];refine ai2 _ (fun rest b s'=>s'=s/\b=(none,())/\∀x∈rest,x∈its.toList) _ ?_ ?_ _ _ ⟨rfl,rfl,fun _ z=>z⟩
    ·rintro x rest b s' ⟨rfl,rfl,hr⟩;obtain⟨k,hk⟩:=KAt.item z r (hr x (.head _));refine o0 (ih n (by lia) hk ?_);simp only[ac7,F6,if_false];exact u8 ⟨rfl,rfl,fun y hy=>hr y (.tail _ hy)⟩
    ·rintro b s' ⟨rfl,rfl,_⟩;exact u8 h
theorem KAt.noCls:∀(f n:Nat) {k:KD}{v:s0}{Q:Bool->F2->Prop},n<=f->KAt s.heap n k v->Q false s->J4 (M0 prog w) A (ofAClassStatement f v) Q E s:=by
 intro f
 induction f with
 |zero =>
  intro n k v Q hn q h;obtain rfl:n=0:=by lia
  cases k with
  |int i=>obtain⟨t,rfl⟩:=q;exact u8 h
  |str i=>obtain⟨t,rfl⟩:=q;exact u8 h
  |tup _=>exact q.elim
 |succ f ih =>
  intro n k v Q hn q h;cases k with
  |int i=>obtain⟨t,rfl⟩:=tZ.mp q;exact u8 h
  |str i=>obtain⟨t,rfl⟩:=uE.mp q;exact u8 h
  |tup ks =>
   cases n with
   |zero=>exact q.elim
   |succ n =>
    obtain⟨a,its,rfl,tp,z,r⟩:=q;have hT:s.TypeIs (.ref a) "tuple":=by obtain⟨o,ho,hc,_⟩:=tp;exact⟨o,ho,hc⟩
    unfold ofAClassStatement;refine o0 (ag2 hT ?_);dsimp only;rw[if_pos (by rfl)];refine o0 (u8 ?_);simp only[ac7,F6,if_false];refine o0 (tR tp ?_);dsimp only;refine o0 ?_;rw[<-aj8];refine ai2 _ (fun rest b s'=>s'=s/\b=(none,())/\∀x∈rest,x∈its.toList) _ ?_ ?_ _ _ ⟨rfl,rfl,fun _ z=>z⟩
    ·rintro x rest b s' ⟨rfl,rfl,hr⟩;obtain⟨k,hk⟩:=KAt.item z r (hr x (.head _));refine o0 (ih n (by lia) hk ?_);simp only[F6,if_false];exact u8 ⟨rfl,rfl,fun y hy=>hr y (.tail _ hy)⟩
    ·rintro b s' ⟨rfl,rfl,_⟩;exact u8 h
theorem KAt.byV:∀(f n:Nat) {k:KD}{v:s0}{Q:Bool->F2->Prop},KAt s.heap n k v->(∀b,Q b s)->J4 (M0 prog w) A (hashByValue f v) Q E s:=by
 intro f
 induction f with
 |zero =>
  intro n k v Q q h;cases k with
  |int i=>obtain⟨t,rfl⟩:=tZ.mp q;exact u8 (h _)
  |str i=>obtain⟨t,rfl⟩:=uE.mp q;exact u8 (h _)
  |tup _=>cases n with
   |zero=>exact q.elim
   |succ n=>obtain⟨a,its,rfl,_⟩:=q;exact u8 (h _)
 |succ f ih =>
  intro n k v Q q h;cases k with
  |int i=>obtain⟨t,rfl⟩:=tZ.mp q;exact u8 (h _)
  |str i=>obtain⟨t,rfl⟩:=uE.mp q;exact u8 (h _)
  |tup ks =>
   cases n with
   |zero=>exact q.elim
   |succ n =>
    obtain⟨a,its,rfl,tp,z,r⟩:=q;have hT:s.TypeIs (.ref a) "tuple":=by obtain⟨o,ho,hc,_⟩:=tp;exact⟨o,ho,hc⟩
    unfold hashByValue;refine o0 (ag6 hT ah4.lookup ?_);dsimp only;refine o0 (tR tp ?_);refine o0 ?_;show J4 _ _ (forIn its _ _) _ _ s;rw[<-aj8];refine ai2 _ (fun rest b s'=>s'=s/\b=(none,())/\∀x∈rest,x∈its.toList) _ ?_ ?_ _ _ ⟨rfl,rfl,fun _ z=>z⟩
    ·rintro x rest b s' ⟨rfl,rfl,hr⟩;obtain⟨k,hk⟩:=KAt.item z r (hr x (.head _));refine o0 (ih n hk fun b=>?_);cases b with
     |true =>
      simp only[ac7,F6,if_false];exact u8 ⟨rfl,rfl,fun y hy=>hr y (.tail _ hy)⟩
     |false =>
      simp only[al5,if_true];exact u8 (u8 (h _))
    ·rintro b s' ⟨rfl,rfl,_⟩;exact u8 (h _)
end
def pL(h0 h:K5):Prop:=∀b o,h0.get? b=some o->h.get? b=some o
theorem KAt.kept{h0 h:K5}{n:Nat}{d:KD}{v:s0}(q:KAt h0 n d v) (k:pL h0 h):KAt h n d v:=q.up fun b o _ e=>k b o e
def tK(prog:K6) (w:Q7) (n:Nat) (hn:n<=8) (h0:K5) (V:s0->Prop):TK prog w (List KD) where
 is h ks v:=pL h0 h/\KAt h0 n (.tup ks) v/\V v
 hash ks:=hK w n (.tup ks)
 room A:=A.units+n<am0
 pyHash hr hx h:=KAt.hash n hr (hx.2.1.kept hx.1) (h _ (Nat.le_add_right _ _))
 eqB hr hx hy:=by
  obtain⟨b,h1,h2⟩:=KAt.eq n hr (hx.2.1.kept hx.1) (hy.2.1.kept hy.1);exact⟨b,by rw[h1];simp,h2⟩
 quiet _ hx h:=KAt.quiet 8 n hn (hx.2.1.kept hx.1) h
 noCls _ hx h:=KAt.noCls 8 n hn (hx.2.1.kept hx.1) h
 byV _ hx h:=KAt.byV 8 n (hx.2.1.kept hx.1) h
 ref {h x v} hx:=by
  obtain⟨_,hx,_⟩:=hx;cases n with
  |zero=>exact hx.elim
  |succ n=>obtain⟨a,_,e,_⟩:=hx;exact⟨a,e⟩
end L2
namespace L2
open PySem PySem.Spec PyProof.Rows
open Classical in
def fM{τ:Type}(xs:List τ) (x:τ):List τ:=if x∈xs then xs else xs++[x]
def iA{τ:Type}(xs:List τ):List τ:=xs.foldl fM []
section
variable{τ:Type}
theorem vQ(xs:List τ) (x:τ):(fM xs x).length<=xs.length+1:=by unfold fM;split<;>simp
theorem oP:∀(xs zs:List τ),(xs.foldl fM zs).length<=zs.length+xs.length
 |[],_=>F7 _
 |x::xs,zs=>by
  have:=oP xs (fM zs x);have:=vQ zs x;simp only[W5,T0];lia
theorem rB(xs:List τ):(iA xs).length<=xs.length:=by have:=oP xs [];simpa[iA]using this
theorem vZ(xs:List τ) (i:Nat) (h:i<xs.length):iA (xs.take (i+1))=fM (iA (xs.take i)) xs[i]:=by
 rw[List.take_succ_eq_append_getElem h,iA,List.foldl_append];rfl
end
section
variable{prog:K6}{w:Q7}{A:N6}{R:at1->F2->Prop}{I:F9}{fp wr:List F9}{G:Array am9->Array am9->Prop}{P:Nat->s0->Prop}{St:Nat->F2->Prop}
theorem Fn{V:s0->Prop}{n:Nat}{hn:n<=8}{h0:K5}{xs:List (List KD)}(W:WalksS prog w A.in1 I fp wr G xs.length P St) (S:F9) (hSf:S∉fp)
  (hfr:∀b∈S::wr,h0.get? b=none) (hu:A.in1.units+n<am0) (hval:∀i v (h:i<xs.length),P i v->KAt h0 n (.tup xs[i]) v/\V v) (hb:xs.length<1000) :
  ∀(k i:Nat) (s:F2),xs.length-i=k->i<=xs.length->St i s->pL h0 s.heap->kG (tK prog w n hn h0 V) s.heap S (iA (xs.take i)) ->
   (∀s',Moved (S::wr) G s s'->pL h0 s'.heap->kG (tK prog w n hn h0 V) s'.heap S (iA xs)->R (.ok (.ret .none)) s') ->
   ah6 (M0 prog w) A (.builtin "set.update.loop" ⟨[.ref S,.ref I],[]⟩) R s:=by
 have hSw:S∉wr:=fun h=>hSf (W.sub _ h);have hsub:∀b∈wr,b∈S::wr:=fun b hb=>O0 _ hb;intro k
 induction k with
 |zero =>
  intro i s hk hi hst hK hS hR;have hin:i=xs.length:=by lia
  subst hin;refine U4 af0 ?_;rw[T8 W8 _];show J4 _ A.in1 (an7 (.ref I) >>= _) _ _ s;refine o0 (W.done s _ _ hst fun s' hm=>?_);show J4 _ A.in1 (ret L8) _ _ s';rw[aa0]at hS;have hK':pL h0 s'.heap:=fun b o e=>hm.heap b o (fun q=>by rw[hfr b (hsub b q)]at e;cases e) (hK b o e);exact u8 (hR s' (hm.mono hsub) hK' (hS.mono (fun o e=>hm.heap S _ hSw e) fun z v q=>⟨hK',q.2⟩))
 |succ k ih =>
  intro i s hk hi hst hK hS hR;have hlt:i<xs.length:=by lia
  refine U4 af0 ?_;rw[T8 W8 _];show J4 _ A.in1 (an7 (.ref I) >>= _) _ _ s;refine o0 (W.item i s _ _ hlt hst fun v s' hP hst' hm=>?_);have hx:=hval i v hlt hP;have hK':pL h0 s'.heap:=fun b o e=>hm.heap b o (fun q=>by rw[hfr b (hsub b q)]at e;cases e) (hK b o e);have hS':kG (tK prog w n hn h0 V) s'.heap S (iA (xs.take i)):=hS.mono (fun o e=>hm.heap S _ hSw e) fun z v q=>⟨hK',q.2⟩;show J4 _ A.in1 (ak1 [v] (setAdd S v) >>= _) _ _ s';refine o0 (O9 ?_);unfold setAdd;refine O9 ?_;refine o0 ((tK prog w n hn h0 V).pyHash (x:=xs[i]) hu ⟨hK',hx⟩ fun tk htk=>?_);have hroom:(iA (xs.take i)).length<1000:=by have:=rB (xs.take i);rw[P4]at this;lia
  have kpt:∀h',P2 S s'.heap h'->pL h0 h':=fun h' sb b o e=>by
   rw[sb.2 b fun z=>by rw[z,hfr S (.head _)]at e;cases e];exact hK' b o e
  refine Fm (s:={ s' with toks:=tk }) (κ:=tK prog w n hn h0 V) hu ⟨hK',hx⟩ hS' hroom (fun h' z v sb q=>⟨kpt h' sb,q.2⟩) fun b h' hsb y1 y2=>?_;have hSi:kG (tK prog w n hn h0 V) h' S (iA (xs.take (i+1))):=by
   rw[vZ xs i hlt];unfold fM
   split
   ·rename_i c;exact y1 c
   ·rename_i c;exact y2 c
  refine u8 ⟨ae9 W8 _,ih (i+1) _ (by lia) hlt (W.frame _ s' _ _ hst' htk fun b hb o e=>?_) (kpt h' hsb) hSi fun s'' hm'' hK'' hS''=>?_⟩
  ·rw[hsb.2 b (fun h:b=S=>hSf (by rw[<-h];exact hb))];exact e
  ·refine hR s'' (Moved.trans W.gtrans ((hm.mono hsub).then_heap htk fun b o hb e=>?_) hm'') hK'' hS'';rw[hsb.2 b (fun h:b=S=>hb (by rw[h];exact R5))];exact e
end
section
variable{prog:K6}{w:Q7}{A:N6}{E:s0->F2->Prop}{s:F2}
theorem Cu{V:s0->Prop}{n:Nat}{hn:n<=8}{h0 h:K5}{a:F9}(g:h.get? a=some (fO w)):kG (tK prog w n hn h0 V) h a [] :=
 ⟨_,#[],0,_,[],⟨g,⟨rfl,rfl,rfl⟩,rfl,⟨rfl,fun i z hz=>by simp at hz⟩,.nil,⟨rfl,fun i j _ hj=>by simp[al6]at hj,fun i hi=>by simp[al6]at hi,rfl,⟨3,by lia,rfl⟩,by simp[al6],fun i h q=>by simp[dZ]at q⟩,rfl,by simp[al6],.inl (by simp[al6])⟩,.refl _⟩
end
end L2
namespace L2
open PySem PySem.Spec PyProof.Rows PySem.SeqAt
mutual
def Cm:KD->KD->Prop
 |.int _,.int _=>True
 |.str _,.str _=>True
 |.tup a,.tup b=>Cms a b
 |_,_=>False
def Cms:List KD->List KD->Prop
 |a::as,b::bs=>Cm a b/\Cms as bs
 |_,_=>True
end
end L2
namespace L2
open PySem PySem.W PySem.Calls PyProof.Rows PySem.SeqAt
end L2
namespace L2
open PySem PySem.Spec PyProof.Rows PySem.Calls PySem.SeqAt
mutual
def kd:KD->D
 |.int i=>.int i
 |.str x=>.str x
 |.tup ks=>.tup (kds ks)
def kds:List KD->List D
 |[]=>[]
 |k::ks=>kd k::kds ks
end
theorem qm:∀ks,kds ks=ks.map kd
 |[]=>by simp[kds]
 |k::ks=>by simp[kds,qm ks]
mutual
theorem CU:∀{a b:KD},kd a=kd b->a=b
 |.int _,.int _,h=>by simp[kd]at h;rw[h]
 |.int _,.str _,h=>by simp[kd]at h
 |.int _,.tup _,h=>by simp[kd]at h
 |.str _,.int _,h=>by simp[kd]at h
 |.str _,.str _,h=>by simp[kd]at h;rw[h]
 |.str _,.tup _,h=>by simp[kd]at h
 |.tup _,.int _,h=>by simp[kd]at h
 |.tup _,.str _,h=>by simp[kd]at h
 |.tup a,.tup b,h=>by simp only[kd,D.tup.injEq]at h;rw[pq h]
theorem pq:∀{a b:List KD},kds a=kds b->a=b
 |[],[],_=>rfl
 |[],_::_,h=>by simp[kds]at h
 |_::_,[],h=>by simp[kds]at h
 |a::as,b::bs,h=>by
  simp only[kds,ab5]at h;rw[CU h.1,pq h.2]
end
def pD(ks:List KD):D:=.tup (kds ks)
theorem xx{a b:List KD}(h:pD a=pD b):a=b:=pq (by simpa[pD]using h)
def dpK:Nat->KD->Prop
 |_,.int _=>True
 |_,.str _=>True
 |0,.tup _=>False
 |n+1,.tup ks=>∀k∈ks,dpK n k
section
variable{X:Cx}{af:List (F9×Obj)}{s:F2}{σ:St}{H:Hp}{M:DH}{K:F0}
theorem AK(I:Inv X af σ H s):∀(n:Nat) {k:KD}{v:V}{u:s0},dpK n k->Rep X.K M H (kd k) v->aX v u->KAt s.heap n k u:=by
 intro n
 induction n with
 |zero =>
  intro k v u hd r q;cases k with
  |int i=>simp only[kd,Rep]at r;subst r;exact q
  |str i=>simp only[kd,Rep]at r;subst r;exact q
  |tup _=>exact hd.elim
 |succ n ih =>
  intro k v u hd r q;cases k with
  |int i=>simp only[kd,Rep]at r;subst r;exact q
  |str i=>simp only[kd,Rep]at r;subst r;exact q
  |tup ks =>
   simp only[kd,Rep]at r;obtain⟨a,vs,rfl,t,rl⟩:=r;cases q;obtain⟨its,rv,tp,hz⟩:=I.tuple t.sq;refine⟨a,its.toArray,rfl,tp,?_,fun i d u h1 h2=>?_⟩
   ·rw[J0,<-rv.length,<-rl.length,qm,F3]
   ·obtain⟨v,g,r⟩:=rl.get (i:=i) (d:=kd d) (by rw[qm,N0,h1];rfl);obtain⟨u',g',r'⟩:=rv.get g;rw[List.getElem?_toArray,g']at h2;cases h2;exact ih (hd d (R4 h1)) r r'
theorem xS(I:Inv X af σ H s) {n:Nat}{ks:List (List KD)}{vs:List V}{its:List s0}(hd:∀k∈ks,dpK n (.tup k)) (rl:ar X.K M H (ks.map pD) vs) (rv:aE vs its) {i:Nat}{k:List KD}{u:s0}(h1:ks[i]?=some k) (h2:its[i]?=some u):KAt s.heap n (.tup k) u:=by
 obtain⟨v,g,r⟩:=rl.get (i:=i) (d:=pD k) (by rw[N0,h1];rfl);obtain⟨u',g',r'⟩:=rv.get g;rw[g']at h2;cases h2;exact AK I n (k:=.tup k) (hd k (R4 h1)) (by simp only[kd];exact r) r'
theorem evD{a:O3}{ta:TEd}{Δ:DE}{R:D->DH->Prop}{Q:s0->F2->Prop}(ha:PEd X a ta) (I:Inv X af σ H s) (sr:SR X.K M H σ Δ) (hr:HR X.K M H) (q:ta Δ M R)
  (k:∀u s1 v H1 x M1,Inv X af σ H1 s1->aX v u->R x M1->HR X.K M1 H1->Rep X.K M1 H1 x v->Ext M H M1 H1->Q u s1):J4 (M0 X.prog X.w) X.A (ab7 a X.env) Q X.xe s :=
 thn (ha af s σ H (fun v H1=>∃x M1,R x M1/\HR X.K M1 H1/\Rep X.K M1 H1 x v/\Ext M H M1 H1) I ⟨Δ,M,R,sr,hr,q,fun x M1 v H1 q1 e1 hr1 rv=>⟨x,M1,q1,hr1,rv,e1⟩⟩) fun u s1 ⟨v,H1,I1,r1,x,M1,q1,hr1,rv,e1⟩=>k u s1 v H1 x M1 I1 r1 q1 hr1 rv e1
end
end L2
namespace L2
open PySem PySem.Spec PyProof.Rows PySem.Calls PySem.SeqAt PySem.W
open Classical in
instance decKs:DecidableEq (List KD):=fun _ _=>propDecidable _
end L2
namespace L2
open PySem PySem.Spec PyProof.Rows PySem.Calls PySem.SeqAt
end L2
namespace L2
open PySem PySem.Spec PyProof.Rows
end L2
namespace L2
open PySem PySem.Spec PyProof.Rows PySem.Calls PySem.SeqAt
end L2
namespace L2
open PySem PySem.Spec PyProof.Rows
section
variable{prog:K6}{w:Q7}{A:N6}{E:s0->F2->Prop}{s:F2}
theorem tL{n:Nat}{hn8:n<=8}{l:F9}{items:Array s0}{xs:List (List KD)}{Q:s0->F2->Prop}
  (hh:A.handled=none) (hu:A.units+n+8<am0) (hl:s.heap.IsTuple l items) (hn:items.size=xs.length) (hi:∀(i:Nat) k u,xs[i]?=some k->items[i]?=some u->KAt s.heap n (.tup k) u) (hb:xs.length<1000)
  (h:∀(h':K5) (tk:Nat),kG (tK prog w n hn8 s.heap (·∈items)) h' s.heap.objs.size (iA xs)->pL s.heap h'->Q (.ref s.heap.objs.size) { s with heap:=h',toks:=tk }) :
  J4 (M0 prog w) A (call (.type "set") [.ref l]) Q E s:=by
 obtain⟨c,tl,hmro⟩:=P3.mro;have hmade:=P3.made;have hsub:=P3.sub;refine af4 (aj7 ?_);show J4 _ _ (callAny (.type "set") _) _ _ _;refine u8 ⟨af7 _ (by decide +kernel),U4 PySem.F.entry_type_call ?_⟩;rw[N6.under_plain (weight_type_call_type "set" [.ref l] []) rfl];have h1:=P3.notType;have h2:=P3.canCreate;have hct:=PySem.F.typeCall_set_1 (.ref l)
 repeat (any_goals (first|assumption|wp_step))
 refine aa4 (qB (.ref l) (E:=E) (Q₁:=fun obj s₁=>obj=.ref s.heap.objs.size/\s₁={ s with heap:=s.heap.push (fO w) }) ⟨rfl,rfl⟩) fun r s₁ hr=>?_;cases r with
 |error e=>exact hr
 |ok fl =>
  cases fl with
  |ret obj =>
   obtain⟨rfl,rfl⟩:=hr;have hS:(s.heap.push (fO w)).get? s.heap.objs.size=some (fO w):=J6 _ rfl;have hT:aq1 { s with heap:=s.heap.push (fO w) } (.ref s.heap.objs.size) "set":=⟨_,hS,rfl⟩;have hli:=P3.init.lookup;have hbi:=P3.init.bind (.ref s.heap.objs.size)
   repeat (any_goals (first|assumption|wp_step))
   refine aa4 (X1 (R:=wants (fun r s₂=>r=.none/\∃h' tk,s₂={ s with heap:=h',toks:=tk } /\
     kG (tK prog w n hn8 s.heap (·∈items)) h' s.heap.objs.size (iA xs)/\pL s.heap h') E) P3.init.plain PySem.F.entry_set_init (check_set_init_1 hT ?_)) fun r₂ s₂ hr₂=>?_
   ·obtain⟨ol,hol,hcl,nl,hdl⟩:=hl;obtain⟨ocls,odict,odata,oslots⟩:=ol;simp only at hcl hdl;subst hcl;subst hdl;have hol':(s.heap.push (fO w)).get? l=some { cls:=.type "tuple",dict:=odict,data:=.seq items nl,slots:=oslots }:=F1 _ hol;have hsls:=PySem.F.sub_tuple_set;have hslf:=PySem.F.sub_tuple_frozenset;have hne:(O6 "tuple"==O6 "dict")=false:=by decide
    have hl1:(s.heap.push (fO w)).IsTuple l items:=⟨_,hol',rfl,nl,rfl⟩;unfold K7.«set.__init__» noKeywords K7.Frozenset.updateFrom;generalize hPI:aq6=PI
    wp_walk
    subst hPI;refine wpAny_pyIter_tuple hl1 ?_;refine o0 (wpAny_runValue ?_);have hlS:l<s.heap.objs.size:=J8 hol;have hh3:A.in1.in1.in1.handled=none:=by simp[hh]
    have hneI:l≠(s.heap.push (fO w)).objs.size:=by
     rw[U8];exact L6 (S6 hlS)
    have hSf:s.heap.objs.size∉[(s.heap.push (fO w)).objs.size,l]:=by
     rw[U8];simp only[J3,J5,L9,or_false,not_or];exact⟨L6 (ab8 _),af9 hlS⟩
    have W:=(at6.tuple (prog:=prog) (w:=w) hh3 _ l hneI items).toS;rw[hn]at W;have frs:∀b,s.heap.objs.size<=b->s.heap.get? b=none:=fun b hb=>V5 hb;refine Fn (V:=(·∈items)) (n:=n) (hn:=hn8) (h0:=s.heap) (xs:=xs) W s.heap.objs.size hSf (fun b hb=>?_) (show A.units+1+1+1+n<am0 by lia) (fun i v hlt hv=>⟨hi i _ _ (F4 hlt) hv,Array.mem_of_getElem? hv⟩) hb (xs.length-0) 0 _ (by lia) (Q5 _) ?St0 ?hK0 ?hS0 ?hR
    case St0=>exact⟨⟨_,J6 _ rfl,rfl,rfl⟩,(hl1.push _)⟩
    ·rcases J3.mp hb with rfl|hb
     ·exact frs _ (F7 _)
     ·rw[J5.mp hb,U8];exact frs _ (ai4 _)
    case hK0=>exact fun b o e=>F1 _ (F1 _ e)
    case hS0=>exact Cu (F1 _ hS)
    case hR =>
     intro s' hm hK' hS';obtain⟨h',g',d',tk',os'⟩:=s';have eg:g'=s.gens:=hm.gens;have ed:d'=s.drawn:=hm.drawn;have eo:os'=s.os:=hm.os;subst eg;subst ed;subst eo;show J4 _ _ _ _ _ _;refine u8 ?_;show J4 _ _ (ret L8) _ _ _;exact u8 ⟨rfl,h',tk',rfl,hS',hK'⟩
   ·cases r₂ with
    |error e=>exact hr₂
    |ok fl₂ =>
     cases fl₂ with
     |ret r =>
      obtain⟨rfl,h',tk,rfl,hS',hk'⟩:=hr₂
      repeat (any_goals (first|assumption|wp_step))
      exact h _ _ hS' hk'
     |_=>exact hr₂.elim
  |_=>exact hr.elim
end
section
open PySem.Calls PySem.SeqAt
variable{X:Cx}{af:List (F9×Obj)}{s:F2}{σ:St}{H:Hp}{M:DH}{K:F0}
end
end L2
namespace L2
open PySem PySem.Spec PyProof.Rows PySem.Calls PySem.SeqAt
section
variable{X:Cx}{af:List (F9×Obj)}{s:F2}{σ:St}{H:Hp}{M:DH}{K:F0}
def dLS(ta:TEd):TEd:=fun Δ M Q=>ta Δ M fun x M1=>(∃ks:List (List KD),rdM M1 x=.tup (ks.map pD)/\(∀k∈ks,dpK 8 (.tup k))/\ks.length<1000/\Q (.int ((iA ks).length:Nat)) M1)∨(∃xs:List Str,rdM M1 x=.lst (xs.map .str)/\xs.length<1000/\Q (.int ((cp xs).length:Nat)) M1)
theorem Fs{a:O3}{ta:TEd}{p0 p1 q0 q1:Pos}(hc:X.calm=true) (hu:X.A.units+64<am0) (hgS:Gl X "len") (hmS:X.mg "len"=none) (hg:Gl X "set") (hm:X.mg "set"=none) (ha:QEd X a ta)
  (he0:F8 [.Call (.Name "set" p1) [a] [] q1] X.env=(false,ab7 (.Call (.Name "set" p1) [a] [] q1) X.env)::F8 [] X.env:=by rfl)
  (he1:F8 [a] X.env=(false,ab7 a X.env)::F8 [] X.env:=by rfl)
  (hp0:(V4 q0 (F8 [] X.env)).any (·.1)=false:=by rfl) (hp1:(V4 q1 (F8 [] X.env)).any (·.1)=false:=by rfl) :
  QEd X (.Call (.Name "len" p0) [.Call (.Name "set" p1) [a] [] q1] [] q0) (dLS ta):=by
 simp only[QEd.eq]at *
 intro af s σ H Q I ⟨Δ,M,R,sr,hr,q,k⟩;refine U0 (gN I hgS hmS (u:=.builtin "len") (by kernel_rfl) ?_ (by decide) (by decide));refine V6 ?_ he0 hp0;rw[he0];show J4 _ _ (as4 ((false,ab7 _ X.env)::V4 q0 (F8 [] X.env))) _ _ s;refine ac2 ?_;refine U0 (gN I hg hm (u:=.type "set") (by kernel_rfl) ?_ (by decide) (by decide));refine aa9 ?_ he1 hp1;rw[he1];show J4 _ _ (as4 ((false,ab7 a X.env)::V4 q1 (F8 [] X.env))) _ _ s;refine ac2 (evD ha I sr hr q fun u s1 v H1 x M1 I1 r1 hx hr1 rv0 e1=>?_);have rv:=rv0.rd hr1;refine aa5 ?_;rcases hx with⟨ks,ex,hk8,hl,q2⟩|⟨xs,ex,hl,q2⟩
 ·rw[ex]at rv;obtain⟨l,vs,rfl,sq,rl⟩:=rv;cases r1;obtain⟨its,rvs,pl,hz⟩:=I1.tuple sq;have hn:ks.length=its.length:=by rw[<-rvs.length,<-rl.length,F3]
  have hat:∀(i:Nat) k u,ks[i]?=some k->its[i]?=some u->KAt s1.heap 8 (.tup k) u:=fun i k u h1 h2=>xS I1 hk8 rl rvs h1 h2;refine tL (n:=8) (hn8:=F7 _) (I1.ok.hd hc) (by lia) pl (by simp[hn]) (fun i k u h1 h2=>hat i k u h1 (by simpa using h2)) hl fun h' tk hS kp=>?_;refine aa5 ?_;obtain⟨o,es,ep,t,zs,qs,pm⟩:=hS;have hzs:es.size=(iA ks).length:=by rw[qs.el.len,pm.length_eq]
  have I2:Inv X af σ H1 { s1 with heap:=h',toks:=tk }:=I1.kept kp;have hml:=rB ks;refine call_len_set (s:={ s1 with heap:=h',toks:=tk }) qs.get qs.ex qs.data qs.tb.fit (by lia) ?_;rw[hzs];exact⟨.int _,H1,I2.tok _,⟨_,rfl⟩,k _ _ _ _ q2 e1 hr1 (by simp only[Rep])⟩
 ·rw[ex]at rv;obtain⟨l,vs,rfl,sq,rl⟩:=rv;cases r1;obtain⟨its,rvs,pl,hz⟩:=I1.list (SqL.of sq);have hn:xs.length=its.length:=by rw[<-rvs.length,<-rl.length,F3]
  refine nZ (xs:=xs) (I1.ok.hd hc) pl.isList (by simp[hn]) (fun i hi=>?_) (by unfold ac6;lia) fun h' tk hS kp=>?_
  ·obtain⟨v,g,r⟩:=rl.get (i:=i) (d:=.str xs[i]) (by rw[N0,F4 hi];rfl);obtain⟨u,g',r'⟩:=rvs.get g;simp only[Rep]at r;subst r;obtain⟨t,rfl⟩:=r';exact⟨t,by simpa using g'⟩
  refine aa5 ?_;obtain⟨o,es,ep,t,qs,pm⟩:=hS;have hzs:es.size=(cp xs).length:=by
   have:=pm.length_eq;rw[F3,K3]at this;exact this
  have I2:Inv X af σ H1 { s1 with heap:=h',toks:=tk }:=I1.kept kp;have hml:(cp xs).length<=xs.length:=by have:=kE xs [];simpa[cp]using this
  refine call_len_set (s:={ s1 with heap:=h',toks:=tk }) qs.get qs.ex qs.data qs.fit (by lia) ?_;rw[hzs];exact⟨.int _,H1,I2.tok _,⟨_,rfl⟩,k _ _ _ _ q2 e1 hr1 (by simp only[Rep])⟩
end
end L2
namespace L2
open PySem PySem.Spec PyProof.Rows PySem.Builtin PySem.Builtin.Str StrLaws
end L2
namespace L2
open PySem PySem.Spec PyProof.Rows
open AutoSeq1 (wpAny_loadPart')
def mZ(Φ:Obj->Prop):Prop:=∀o v,Φ o->Φ (o.mapFields (·.setIfInBounds 1 v))
def Do(h base:K5) (e:F9) (Φ:Obj->Prop) (fl:s0):Prop :=
 ∃oe vs T oT ts,h.get? e=some oe/\Φ oe/\oe.data=.fields vs/\vs[1]?=some (.ref T)/\base.get? T=none/\T≠e/\h.get? T=some oT/\oT.data=.fields ts/\ts[3]?=some fl
def GoX(base:K5) (l:List Env) (e:F9) (Φ:Obj->Prop) (fl:s0) (h h':K5):Prop:=base.StaysIn h'/\h'.FunFrames base l/\Do h' base e Φ fl/\h.UpToSlots h'
section
variable{M:at2}{A:N6}{E:s0->F2->Prop}{s:F2}{base:K5}{env:Env}{outer l:List Env}{L e:F9}{Φ:Obj->Prop}{Q:Unit->F2->Prop}
theorem y7{oe:Obj}{vs:Array s0}{head:s0}{hadNext:Bool}(st:mZ Φ)
  (hfr:A.frames=some (env::outer)) (hl:s.heap.FunFrames base (env::outer)) (hf:env.frame=some L)
  (he:s.heap.get? e=some oe) (hkb:base.StaysIn s.heap) (hen:base.get? e=none) (hd:oe.data=.fields vs) (hsz:1<vs.size) (h0:Φ oe)
  (h:∀h',GoX base (env::outer) e Φ (Z6 L) s.heap h'->Q () { s with heap:=h' }) :
  J4 M A (do let a <-frameOf env;let pl <-entryPlaceOf L hadNext;let b <-EntryCells.newEntry head a .none (Z6 L) .none pl;setField (.ref e) 1 b) Q E s:=by
 have hene:e∉(env::outer).filterMap (·.frame):=fun hm=>by
  obtain⟨_,o,ho,hnf⟩:=hl.mem hm;rw[he]at ho;cases ho;exact hnf vs hd
 refine o0 (wpAny_frameOf_fun hfr hl hf fun h1 hs1=>?_);refine o0 (wpAny_entryPlaceOf fun pl hpl=>?_);unfold EntryCells.newEntry newFields;refine o0 (O7 ?_ (hpl.sizeOk5 _ _ _ _ _));have he1:h1.get? e=some oe:=(hs1.2.1 e hene).trans he;have kb1:base.StaysIn h1:=fun b o hbo=>(hs1.2.1 b fun hm=>by rw[(hl.mem hm).1]at hbo;cases hbo).trans (hkb b o hbo);have ts3:([head,.ref L,.none,Z6 L,.none]++(if pl.isEmpty then J7 6 L8 else pl)).toArray[3]?=some (Z6 L):=by simp
 generalize ([head,.ref L,.none,Z6 L,.none]++(if pl.isEmpty then J7 6 L8 else pl)).toArray=ts at ts3 ⊢;have he2:=F1 (h:=h1) { cls:=.type "traceback",dict:=none,data:=.fields ts } he1;refine ac9 he2 hd hsz (h _ ?_);have hTe:h1.objs.size≠e:=af9 (J8 he1);have hd3:=aj9 hd (·.setIfInBounds 1 (L7 h1.objs.size));have he3:=O1 (V9 (·.setIfInBounds 1 (L7 h1.objs.size))) he2 (Obj.isFreed_of_fields hd3);have hT3:=(N3 (h1.push { cls:=.type "traceback",dict:=none,data:=.fields ts }) (V9 (·.setIfInBounds 1 (L7 h1.objs.size))) (V0 hTe)).trans (J6 h1 rfl);have keep:∀b o,b≠e->h1.get? b=some o->((h1.push { cls:=.type "traceback",dict:=none,data:=.fields ts }).update e (V9 (·.setIfInBounds 1 (L7 h1.objs.size)))).get? b=some o:=fun b o hbe hb=>by
  rw[N3 _ _ (V0 hbe)];exact F1 _ hb
 have noRec:∀b o,s.heap.get? b=some o->(∀vs,o.data≠.fields vs)->b≠e:=fun b o hb hnf q=>by
  rw[q,he]at hb;cases hb;exact hnf vs hd
 refine⟨fun b o hbo=>keep b o (fun q=>by rw[q,hen]at hbo;cases hbo) (kb1 b o hbo),hl.of_keeps fun b o hb hnf=>?_,?_,fun b o hb hnf=>?_⟩
 ·obtain⟨sl,hs⟩:=hs1.2.2 b o hb;exact⟨_,keep b _ (noRec b o hb hnf) hs,rfl⟩
 ·exact⟨_,_,h1.objs.size,_,_,he3,st _ _ h0,hd3,by simp[hsz],kb1.fresh,hTe,hT3,rfl,ts3⟩
 ·obtain⟨sl,hs⟩:=hs1.2.2 b o hb;exact⟨sl,keep b _ (noRec b o hb hnf) hs⟩
theorem uZ{fl:s0}(hkb:base.StaysIn s.heap) (hl:s.heap.FunFrames base l) (ht:Do s.heap base e Φ fl) (h:∀h',GoX base l e Φ .none s.heap h'->Q () { s with heap:=h' }):J4 M A (setFlight (.ref e) none) Q E s:=by
 obtain⟨oe,vs,T,oT,ts,he,h0,hd,h1,hnT,hTe,hT,hdT,h3⟩:=ht;have hsz3:3<ts.size:=(R1.mp h3).1;have other:∀b,b≠T->(s.heap.update T (V9 fun x=>x.setIfInBounds 3 L8)).get? b=s.heap.get? b:=fun b hb=>N3 _ _ (V0 hb);have noRec:∀b o,s.heap.get? b=some o->(∀vs,o.data≠.fields vs)->b≠T:=fun b o hb hnf q=>by
  rw[q,hT]at hb;cases hb;exact hnf ts hdT
 refine wpAny_setFlight_none he hd h1 hT hdT hsz3 (h _ ⟨fun b o hbo=>(other b fun q=>by rw[q,hnT]at hbo;cases hbo).trans (hkb b o hbo),hl.of_keeps fun b o hb hnf=>⟨o,(other b (noRec b o hb hnf)).trans hb,rfl⟩,?_,fun b o hb hnf=>⟨o.slots,(other b (noRec b o hb hnf)).trans hb⟩⟩);exact⟨oe,vs,T,_,_,(other e (V0 hTe)).trans he,h0,hd,h1,hnT,hTe,O1 _ hT (Obj.isFreed_of_fields (aj9 hdT _)),aj9 hdT _,by simp[hsz3]⟩
theorem rh{oe:Obj}{vs:Array s0}(st:mZ Φ) (hfr:A.frames=some (env::outer)) (hl:s.heap.FunFrames base (env::outer)) (hf:env.frame=some L)
  (he:s.heap.get? e=some oe) (hkb:base.StaysIn s.heap) (hen:base.get? e=none) (hd:oe.data=.fields vs) (h1:vs[1]?=some .none) (h0:Φ oe)
  (h:∀h',GoX base (env::outer) e Φ .none s.heap h'->Q () { s with heap:=h' }):J4 M A (leaving env (.ref e)) Q E s:=by
 unfold leaving aq9;simp only[hf];refine o0 (o0 (ag1 he hd h1 ?_));rw[if_neg (by decide)];exact y7 st hfr hl hf he hkb hen hd (R1.mp h1).1 h0 fun h2 ⟨g1,g2,g3,g4⟩=>uZ g1 g2 g3 fun h3 ⟨k1,k2,k3,k4⟩=>h h3 ⟨k1,k2,k3,g4.trans k4⟩
theorem Fe(st:mZ Φ) (hfr:A.frames=some (env::outer)) (hl:s.heap.FunFrames base (env::outer)) (hf:env.frame=some L) (ht:Do s.heap base e Φ .none) (hkb:base.StaysIn s.heap) (hen:base.get? e=none)
  (h:∀h',GoX base (env::outer) e Φ (Z6 L) s.heap h'->Q () { s with heap:=h' }):J4 M A (aq9 (.ref e) env) Q E s:=by
 obtain⟨oe,vs,T,oT,ts,he,h0,hd,h1,hnT,hTe,hT,hdT,h3⟩:=ht;unfold aq9;simp only[hf];refine o0 (ag1 he hd h1 ?_);rw[if_pos (show(L7 T != L8)=true from by simp)];refine o0 (ag1 hT hdT h3 ?_);rw[if_neg (show ¬ ((L8==Z6 L)=true)from by simp[Z6])];refine o0 (ac9 hT hdT (R1.mp h3).1 ?_);have other:∀b,b≠T->(s.heap.update T (V9 (·.setIfInBounds 3 L8))).get? b=s.heap.get? b:=fun b hb=>N3 _ _ (V0 hb);have noRec:∀b o,s.heap.get? b=some o->(∀vs,o.data≠.fields vs)->b≠T:=fun b o hb hnf q=>by
  rw[q,hT]at hb;cases hb;exact hnf ts hdT
 refine y7 st hfr (hl.of_keeps fun b o hb hnf=>⟨o,(other b (noRec b o hb hnf)).trans hb,rfl⟩) hf ((other e (V0 hTe)).trans he)
  (fun b o hbo=>(other b fun q=>by rw[q,hnT]at hbo;cases hbo).trans (hkb b o hbo)) hen hd (R1.mp h1).1 h0
  fun h' ⟨x1,x2,x3,x4⟩=>h h' ⟨x1,x2,x3,fun b o hb hnf=>x4 b o ((other b (noRec b o hb hnf)).trans hb) hnf⟩
end
theorem lD{prog:K6}{w:Q7}{A:N6}{E:s0->F2->Prop}{h:K5}{g:Array am9}{d:Drawn}{t:Nat}{os:OsState}{nm q:Str}{C N:F9}{bs bm bmB:List s0}{hdct:Bool}
  {sn:List Str} {sub:List s0} {ab:Bool} {col:Option Bool} {dd:Option F9} {k0 k1 k2 k3 k5:Option s0} {B newId initId:String} (F:ExcBaseFacts B newId initId bmB) (T:au4 h bmB bm)
  {K:F0} {rest:List s0} {fI:F9} {oI:Obj} {Q:PySem.Fin->F2->Prop} (hC:h.get? C=some (W0 nm q C N bs bm hdct sn sub ab col dd k0 k1 k2 k3 k5 newId)) (hn:K.In h)
  (hi:S9 K (.ref C) "__init__"=some (some (L7 fI))) (hfI:h.get? fI=some oI) (hfc:oI.cls=O6 "function")
  (hq:∀(h':K5) (e:F9),h.objs.size<=e->h.MadeExcOf h' e (L7 C) rest->J4 (M0 prog w) A (call (L7 fI) (L7 e::rest)) (fun r s'=>r=L8/\Q (Fin.done (Flow.ret (L7 e))) s') E { heap:=h',gens:=g,drawn:=d,toks:=t,os:=os })
  (hrest:rest.length<=I0):J4 (M0 prog w) A (K7.«type.__call__» { pos:=L7 C::rest }) Q E { heap:=h,gens:=g,drawn:=d,toks:=t,os:=os }:=by
 unfold K7.«type.__call__»;dsimp only;refine T4 (ao5 (decide ((L7 C==O6 "type")=true))) (o0 ?_);show J4 _ _ (S8 _ _) _ _ _;refine o0 ?_;show J4 _ _ (S8 _ _) _ _ _;refine o0 (aq5 hC (u8 (u8 ?_)));refine T4 (ao5 (decide ({ name:=nm,bases:=bs,mro:=L7 C::bm,ns:=N,qualname:=q,hasDict:=hdct,slotNames:=sn,subclasses:=sub,abstract:=ab,collection:=col:ClassData }.mro.isEmpty=true))) ?_;refine o0 (wpAny_madeBy_exc hC (o0 (u8 (o0 (O9 (af4 ?_))))));refine codeAny_call_builtin_code (af7 { pos:=L7 C::rest } F.quiet) (wpAny_check_new_subT F T hC (codeAny_exc_new_subT F T hC ?_ hrest));have hC₁:=F1 { cls:=L7 C,data:=ai3 #[L7 h.objs.size,L8,L8,L8,ak0 false,L8] } (F1 { cls:=O6 "tuple",data:=ar4 rest.toArray } hC);have hfI₁:=F1 { cls:=L7 C,data:=ai3 #[L7 h.objs.size,L8,L8,L8,ak0 false,L8] } (F1 { cls:=O6 "tuple",data:=ar4 rest.toArray } hfI);have kp:∀b o,h.get? b=some o->((h.push { cls:=O6 "tuple",data:=ar4 rest.toArray }).push { cls:=L7 C,data:=ai3 #[L7 h.objs.size,L8,L8,L8,ak0 false,L8] }).get? b=some o:=fun b o e=>F1 _ (F1 _ e);have hn₁:=hn.keeps kp;have hget:=K5.get?_push_at (h:=h.push { cls:=O6 "tuple",data:=ar4 rest.toArray }) (a:=h.objs.size+1) (o:={ cls:=L7 C,data:=ai3 #[L7 h.objs.size,L8,L8,L8,ak0 false,L8] }) (by rw[U8]) rfl;show J4 _ _ (S8 _ _) _ _ _;refine o0 (o0 ?_);show J4 _ _ (S8 _ _) _ _ _;refine o0 (V3 hget (u8 (ai6 hC₁ ?_)));rw[show(L7 C::bm).contains (L7 C)=true by simp];refine T4 (ao5 (decide ((!true)=true))) (o0 (O9 ?_));show J4 _ _ (S8 _ _) _ _ _;refine o0 ?_;show J4 _ _ (S8 _ _) _ _ _;refine o0 ?_;show J4 _ _ (S8 _ _) _ _ _;refine o0 (V3 hget (u8 ?_));refine PySem.W.Looks.here (PySem.W.looks_findIn hn₁ hi) ?_;refine O9 (o0 ?_);show J4 _ _ (S8 _ _) _ _ _;refine o0 (ag2 ⟨oI,hfI₁,hfc⟩ ?_);refine al7 (ao5 (decide ((O6 "function"==O6 "function" || O6 "function"==O6 "method_descriptor" || O6 "function"==O6 "wrapper_descriptor")=true))) (u8 ?_);refine o0 (Q8 (hq _ (h.objs.size+1) (ai4 _) ⟨kp,?_,h.objs.size,hget,?_,?_⟩) ?_ fun _ _ z=>z)
 ·exact V5 (ai4 _)
 ·exact V5 (F7 _)
 ·exact F1 _ (J6 _ rfl)
 ·rintro r s' ⟨rfl,hQ⟩;exact u8 (T4 (ao5 (decide ((L8 != L8)=true))) (u8 hQ))
theorem sE{prog:K6}{w:Q7}{A:N6}{E:s0->F2->Prop}{h:K5}{g:Array am9}{d:Drawn}{t:Nat}{os:OsState}{nm q:Str}{C N:F9}{bs bm bmB:List s0}{hdct:Bool}
  {sn:List Str} {sub:List s0} {ab:Bool} {col:Option Bool} {dd:Option F9} {k0 k1 k2 k3 k5:Option s0} {B newId initId:String} (F:ExcBaseFacts B newId initId bmB) (T:au4 h bmB bm)
  {K:F0} {rest:List s0} {fI:F9} {oI:Obj} {Q:s0->F2->Prop} (hC:h.get? C=some (W0 nm q C N bs bm hdct sn sub ab col dd k0 k1 k2 k3 k5 newId)) (hn:K.In h)
  (hi:S9 K (.ref C) "__init__"=some (some (L7 fI))) (hfI:h.get? fI=some oI) (hfc:oI.cls=O6 "function")
  (hq:∀(h':K5) (e:F9),h.objs.size<=e->h.MadeExcOf h' e (L7 C) rest->J4 (M0 prog w) (A.under (at4.builtin "type.__call__" { pos:=L7 C::rest })) (call (L7 fI) (L7 e::rest)) (fun r s'=>r=L8/\Q (L7 e) s') E { heap:=h',gens:=g,drawn:=d,toks:=t,os:=os })
  (hrest:rest.length<=I0):J4 (M0 prog w) A (call (L7 C) rest) Q E { heap:=h,gens:=g,drawn:=d,toks:=t,os:=os }:=by
 have f1:=tc_lookup;have f2:=tc_bind (L7 C);have hT:aq1 { heap:=h,gens:=g,drawn:=d,toks:=t,os:=os } (L7 C) "type":=⟨_,hC,rfl⟩;refine af4 (aj7 ?_);show J4 _ _ (S8 _ _) _ _ _;refine o0 (aq5 hC ?_);show J4 _ _ (S8 _ _) _ _ _;refine o0 (ag6 hT f1 (o0 (ao2 f2 (o0 ?_))));refine u8 (al7 (ao5 (decide (("type.__call__"=="type.__call__")=true))) ?_);refine u8 ⟨rfl,codeAny_call_builtin_at (af7 _ (by decide +kernel)) entry_typeCall (wpAny_check_type_call_sub hC (lD F T hC hn hi hfI hfc (fun h' e hz hm=>hq h' e hz hm) hrest))⟩
theorem mW{prog:K6}{w:Q7}{A:N6}{E:s0->F2->Prop}{h:K5}{g:Array am9}{d:Drawn}{t:Nat}{os:OsState}{nm q:Str}{C N e:F9}{bs bm bmB:List s0}{hdct:Bool}
  {sn:List Str} {sub:List s0} {ab:Bool} {col:Option Bool} {dd:Option F9} {k0 k1 k2 k3 k5:Option s0} {B newId initId:String} (F:ExcBaseFacts B newId initId bmB) (T:au4 h bmB bm)
  {rest:List s0} {oe:Obj} {a0 a1 a2 a3 a4 a5:s0} {Q:s0->F2->Prop} (hC:h.get? C=some (W0 nm q C N bs bm hdct sn sub ab col dd k0 k1 k2 k3 k5 newId))
  (he:h.get? e=some oe) (hcl:oe.cls=.ref C) (hda:oe.data=.fields #[a0,a1,a2,a3,a4,a5])
  (hq:∀(h':K5) (t':F9),(∀b o,b≠e->h.get? b=some o->h'.get? b=some o)->h'.get? e=some { oe with data:=.fields #[.ref t',a1,a2,a3,a4,a5] }->Q .none { heap:=h',gens:=g,drawn:=d,toks:=t,os:=os })
  (hrest:rest.length<=I0):J4 (M0 prog w) A (call (ah1 initId) (L7 e::rest)) Q E { heap:=h,gens:=g,drawn:=d,toks:=t,os:=os }:=by
 refine af4 (X1 F.init.plain F.initEntry (wpAny_check_init_subT F T hC he hcl ?_));unfold K7.«BaseException.__init__»;dsimp only;refine T4 (ao5 (decide ((!({ pos:=L7 e::rest }:Args).kw.isEmpty)=true))) ?_;refine o0 ?_;unfold newTuple;obtain⟨oc,od,oda,osl⟩:=oe;obtain rfl:oc=.ref C:=hcl;obtain rfl:oda=_:=hda;have he1:=F1 { cls:=O6 "tuple",data:=ar4 rest.toArray } he;refine T4 (by rw[decide_eq_false_iff_not];simpa using hrest) ?_;refine o0 (wpAny_alloc' (u8 ?_));refine o0 ?_;unfold K7.BaseException.bexcPut;refine o0 ?_;show J4 _ _ (S8 _ _) _ _ _;refine o0 ?_;show J4 _ _ (S8 _ _) _ _ _;refine o0 (aq5 he1 (u8 (u8 (o0 ?_))));show J4 _ _ (S8 _ _) _ _ _;refine o0 (aq5 he1 ?_);dsimp only;refine al7 (ao5 (decide (0<#[a0,a1,a2,a3,a4,a5].size))) (wpAny_update' he1 ?_);have fin:Q L8 { heap:=(h.push { cls:=O6 "tuple",data:=ar4 rest.toArray }).update e (V9 fun x=>x.setIfInBounds 0 (L7 h.objs.size)),gens:=g,drawn:=d,toks:=t,os:=os }:=by
  refine hq _ h.objs.size (fun b o hb hbo=>?_) ?_
  ·rw[N3 _ _ (V0 hb)];exact F1 _ hbo
  ·exact O1 _ he1 rfl
 cases a0
 all_goals first
  |exact wpAny_letGo (u8 fin)
  |exact u8 (u8 fin)
theorem sR{M:at2}{A:N6}{E:s0->F2->Prop}{env:Env}{nm q:Str}{C N:F9}{bs bm:List s0}{hdct:Bool}{sn:List Str}{sub:List s0}{ab:Bool}{col:Option Bool}{dd:Option F9}
  {k0 k1 k2 k3 k5:Option s0} {newId:String} {s:F2} {x:O3} {pos:Pos} {Q:Flow->F2->Prop} (ic:bm.contains (O6 "BaseException")=true) (hh:A.handled=none)
  (h:J4 M A (ab7 x env) (fun v s₁ => ∃ e od a0 osl,v = L7 e ∧ s₁.heap.get? C = some (W0 nm q C N bs bm hdct sn sub ab col dd k0 k1 k2 k3 k5 newId) ∧
   s₁.heap.get? e=some { cls:=L7 C,dict:=od,data:=ai3 #[a0,L8,L8,L8,ak0 false,L8],slots:=osl }/\E (L7 e) s₁) E s) :
  J4 M A (exec (aa1.Raise (some x) none pos) env) Q E s:=by
 have hcB:(L7 C::bm).contains (O6 "BaseException")=true:=by
  rw[List.contains_cons,ic,Bool.or_true]
 rw[arm_exec_Raise];show J4 _ _ (S8 _ _) _ _ _;refine o0 ?_;refine ag9 ?_;show J4 _ _ (S8 _ _) _ _ _;refine o0 (o0 (Q8 h (fun v s₁ h₁=>?_) fun _ _ z=>z));obtain⟨e,od,a0,osl,rfl,hC,he,hE⟩:=h₁;obtain⟨hp,g,d,tk,os⟩:=s₁;dsimp only at hC he;refine o0 (ag9 (u8 ?_));refine o0 (u8 (o0 (O9 ?_)));show J4 _ _ (S8 _ _) _ _ _;refine o0 ?_;show J4 _ _ (S8 _ _) _ _ _;refine o0 ?_;show J4 _ _ (S8 _ _) _ _ _;refine o0 ?_;refine V3 he (u8 (T4 ?_ (u8 (T4 (ao5 (decide (false=true))) ?_))))
 ·rfl
 refine o0 ?_;show J4 _ _ (S8 _ _) _ _ _;refine o0 ?_;show J4 _ _ (S8 _ _) _ _ _;refine o0 (V3 he (u8 (ai6 hC ?_)));rw[hcB];refine al7 (ao5 (decide (true=true))) (u8 (o0 ?_));show J4 _ _ (S8 _ _) _ _ _;refine o0 ?_;refine V3 he (u8 (T4 ?_ (o0 ?_)))
 ·rfl
 show J4 _ _ (S8 _ _) _ _ _;refine o0 ?_;show J4 _ _ (S8 _ _) _ _ _;refine o0 (V3 he (u8 (o0 ?_)));show J4 _ _ (S8 _ _) _ _ _;refine o0 (V3 hC (u8 (al7 ?_ (u8 (o0 ?_)))))
 ·rfl
 show J4 _ _ (S8 _ _) _ _ _;refine o0 ?_;show J4 _ _ (S8 _ _) _ _ _;refine o0 ?_;show J4 _ _ (S8 _ _) _ _ _;refine o0 (aq5 he (u8 (u8 (T4 ?_ (u8 (wpAny_raiseNew_none hh hE))))));rfl
abbrev veM:List s0:=[.type "ValueError",.type "Exception",.type "BaseException",.type "object"]
theorem vL(self:s0) (C W:F9):refuseLoop self "__setattr__" [.ref C,.ref W,.type "ValueError",.type "Exception",.type "BaseException",.type "object"]=af5 ():=by
 kernel_rfl
def pJ(C e:F9) (h:K5):Prop:=∃a0 osl,h.get? e=some { cls:=.ref C,dict:=none,data:=.fields #[a0,.none,.none,.none,.bool false,.none],slots:=osl }
theorem uM{P:K6}{w:Q7}{H:Hp}{h:K5}{C e:F9}(x:pJ C e h):cj P w H h e (.ext (pJ C e)):=by
 obtain⟨a0,osl,g⟩:=x;exact⟨⟨a0,osl,g⟩,⟨_,g⟩,fun h1 h2 ⟨a,b,q⟩ k=>⟨a,b,k _ q⟩⟩
structure nq(K:F0) (mg:Str->Option s0) (xC xW fld:Str) (C W fI:F9):Prop where
 gC:mg xC=some (.ref C)
 gW:mg xW=some (.ref W)
 kC:W3 K (.ref C)=true
 lC:∃nm q N bs sn sub ab col dd k0 k1 k2 k3 k5,K.lookup C=some (W0 nm q C N bs [.ref W,.type "ValueError",.type "Exception",.type "BaseException",.type "object"] true sn sub ab col dd k0 k1 k2 k3 k5 "ValueError.__new__")
 iC:S9 K (.ref C) "__init__"=some (some (.ref fI))
 lW:∃c0 dW cdW slW cN dN es ep sN,K.lookup W=some ⟨c0,dW,.cls cdW,slW⟩/\K.lookup cdW.ns=some ⟨cN,dN,.dict es ep,sN⟩/\es.toList.all (fun e=>e.key.isStr "__init__"==false&&match e.key with|.str _ _=>true|_=>false)=true
 sW:al3 K (.ref W) "__getattribute__"=some (some (.builtin "type.__getattribute__"))
 rW:PySem.W.readsIn K W (.type "type")=true
 fW:PySem.W.findCls K (.ref W) (.type "type") "__init__"=some (.val (.builtin "ValueError.__init__"))
 sC:S9 K (.ref C) "__setattr__"=some (some (.builtin "object.__setattr__"))
 mC:an2 K C (.type "object")=some true
 tC:S9 K (.ref C) fld=some none
theorem nq.tail{K:F0}{mg:Str->Option s0}{xC xW fld:Str}{C W fI:F9}{h:K5}(Y:nq K mg xC xW fld C W fI) (KX:K.In h):au4 h veM (.ref W::veM):=by
 obtain⟨c0,dW,cdW,slW,cN,dN,es,ep,sN,h1,h2,h3⟩:=Y.lW;rw[N5]at h3;refine au4.own (KX _ _ h1) (mA:=nsFind es) ⟨_,es,ep,KX _ _ h2,rfl,fun e he=>?_,fun _=>rfl⟩ ?_ au4.base
 ·have:=h3 e (by simpa using he);rw[K1]at this;cases q:e.key with
  |str n t=>exact⟨n,t,rfl⟩
  |_=>rw[q]at this;simp at this
 ·unfold nsFind findBy;rw[Option.map_eq_none_iff,Array.find?_eq_none];intro e he;have:=h3 e (by simpa using he);rw[K1]at this;simpa using this.1
section
variable{X:Cx}{xC xW fld:Str}{C W fI:F9}
def tWI(C:F9) (i:Nat):TE:=fun σ H Q=>∃e,σ[i]?=some (some (.ref e))/\H e=some (.ext (pJ C e))/\Q .non H
theorem Ek(Y:nq X.K X.mg xC xW fld C W fI) (i:Nat) {x:Str}{pl:Sem Bool}{p pa ps pos pc:Pos}{txt:Str}{j:Nat}(hg:Gl X xW) (hx:PE X (.Name x ps) (vi i)) (ht:PE X (.Constant (.str txt) j pc) (tC (.str txt)))
  (hdb:(xW==("__debug__":Str))=false:=by decide)
  (hst:F8 [.Name x ps,.Constant (.str txt) j pc] X.env=(false,ab7 (.Name x ps) X.env)::F8 [.Constant (.str txt) j pc] X.env:=by rfl) (hpl:(V4 pos (F8 [.Constant (.str txt) j pc] X.env)).any (·.1)=false:=by rfl)
  (hev:ab7 (.Call (.Attribute (.Name xW p) "__init__" pa) [.Name x ps,.Constant (.str txt) j pc] [] pos) X.env = (do
   let ov <-ab7 (.Name xW p) X.env
   aq7 pa.atName
   let(f,first) <-ak1 [ov] (getMethod ov "__init__" pl)
   callWith pos f first (V4 pos (F8 [.Name x ps,.Constant (.str txt) j pc] X.env)) (ar3 pos (ak3 [] X.env))):=by rfl) :
  PE X (.Call (.Attribute (.Name xW p) "__init__" pa) [.Name x ps,.Constant (.str txt) j pc] [] pos) (tWI C i):=by
 intro af s σ H Q I h;obtain⟨e,ei,he,q⟩:=h;refine PySem.W.methodCall_KW (pl:=pl) (jV I hg Y.gW ?_ hdb) hev;refine PySem.W.method_cls I.kIn Y.sW (PySem.W.cls_value I.kIn Y.rW Y.fW rfl ?_);have I1:=I.tok (s.toks+1);have ha:PA X [.Name x ps,.Constant (.str txt) j pc] (uG (vi i) (uG (tC (.str txt)) Cj)):=cB hx (cB ht gx);refine V6 (thn (ha pos af _ σ H (fun vs H1=>vs=[.ref e,.str txt]/\H1=H) I1 ?_) fun us s1 hs=>?_) hst hpl
 ·exact⟨.ref e,ei,rfl,rfl⟩
 obtain⟨vs,H1,I2,rv,rfl,rfl⟩:=hs;obtain⟨u1,u2,rfl,r1,r2⟩:∃u1 u2,us=[u1,u2]/\aX (.ref e) u1/\aX (.str txt) u2:=by
  cases rv with
  |cons r1 rv =>
   cases rv with
   |cons r2 rv =>
    cases rv;exact⟨_,_,rfl,r1,r2⟩
 obtain rfl:u1=.ref e:=r1;obtain⟨⟨a0,osl,g⟩,_⟩:=I2.hok e _ he;obtain⟨nm,q',N,bs,sn,sub,ab,col,dd,k0,k1,k2,k3,k5,lC⟩:=Y.lC;obtain⟨hp,gs,d,t,os⟩:=s1;refine mW F.excBase_ValueError (Y.tail I2.kIn) (I2.kIn _ _ lC) g rfl rfl (fun h' t' kp ge=>?_) (al9 (oM (by simp)));have I3:=I2.write (t':=t) (h':=h') (x:=e) (e:=e) (o:=.ext (pJ C e)) (by rw[he];trivial) (.inl rfl) (fun b u hb hu=>kp b u hb hu) ⟨_,ge⟩ (uM ⟨_,_,ge⟩);have eu:upd H1 e (.ext (pJ C e))=H1:=by
  funext b;unfold upd
  split
  ·next z=>rw[z,he]
  ·rfl
 rw[eu]at I3;exact⟨.non,H1,I3,rfl,q⟩
end
section
variable{X:Cx}{xC xW fld:Str}{C W fI:F9}{af:List (F9×Obj)}{σ:St}{H:Hp}{s:F2}
theorem Inv.forget{e:F9}{φ:K5->Prop}(I:Inv X af σ (upd H e (.ext φ)) s) (hn:H e=none):Inv X af σ H s:=by
 have ne:∀{b o},upd H e (.ext φ) b=some o->(∀ ψ,o≠.ext ψ)->H b=some o:=fun {b o} q z=>by
  by_cases hb:b=e
  ·subst hb;rw[bh]at q;cases q;exact absurd rfl (z φ)
  ·rw[aK hb]at q;exact q
 have nn:∀{b},upd H e (.ext φ) b=none->H b=none:=fun {b} q=>by
  by_cases hb:b=e
  ·subst hb;exact hn
  ·rw[aK hb]at q;exact q
 refine⟨I.ok,I.os,I.bare,⟨I.base.keep,I.base.slot,fun b o q n x=>nn (I.base.free b o q n x),I.base.there,fun b xs q=>ne (I.base.tups b xs q) (fun _ z=>by cases z),fun b o u q=>ne (I.base.frzs b o u q) (fun _ z=>by cases z),fun b ps q=>?_⟩,I.loc,I.cell,nn I.free,fun x c q=>nn (I.freeC x c q),fun p hp=>?_,fun a o q=>?_,I.len⟩
 ·obtain⟨more,q'⟩:=I.base.tbls b ps q;exact⟨more,ne q' (fun _ z=>by cases z)⟩
 ·obtain⟨h1,h2,h3⟩:=I.pin p hp;exact⟨h1,nn h2,h3⟩
 ·have ha:a≠e:=by rintro rfl;rw[hn]at q;cases q
  refine(I.hok a o (by rw[aK ha];exact q)).stay (fun c v _ r=>r) (fun c r=>ne r (fun _ z=>by cases z)) fun c xs r=>ne r (fun _ z=>by cases z)
end
theorem cj.is{P:K6}{w:Q7}{H:Hp}{h:K5}{a:F9}{o:HO}(x:cj P w H h a o):∃u,h.get? a=some u:=by
 cases o with
 |lst xs=>obtain⟨_,_,_,_,e⟩:=x;exact⟨_,e⟩
 |tup xs=>obtain⟨_,_,_,ob,e,_⟩:=x;exact⟨_,e⟩
 |dK kvs=>obtain⟨_,_,_,_,o,_,_,e,_⟩:=x;exact⟨_,e⟩
 |dT kvs=>obtain⟨_,_,_,_,o,_,_,e,_⟩:=x;exact⟨_,e⟩
 |set S n=>obtain⟨o,_,_,_,e,_⟩:=x;exact⟨_,e⟩
 |ins C dx fs=>obtain⟨_,_,_,e,_⟩:=x;exact⟨_,e⟩
 |own y=>exact x
 |xd fs=>obtain⟨_,⟨_,_,_,e,_⟩,_⟩:=x;exact⟨_,e⟩
 |rng lo hi=>obtain⟨_,_,_,e⟩:=x;exact⟨_,e⟩
 |frz ob u=>obtain⟨e,_⟩:=x;exact⟨_,e⟩
 |tbl ps=>exact⟨_,x⟩
 |met f y=>exact⟨_,x⟩
 |ext φ=>exact x.2.1
def ExF(C:F9) (o:Obj):Prop:=o.cls=.ref C/\∃vs,o.data=.fields vs/\vs[2]?=some .none
theorem tD{C:F9}:mZ (ExF C):=fun o v ⟨h1,vs,h2,h3⟩=>⟨(Obj.cls_mapFields _ _).trans h1,_,aj9 h2 _,by rw[Array.getElem?_setIfInBounds_ne (by decide)];exact h3⟩
section
variable{X:Cx}{af:List (F9×Obj)}{σ:St}{H1 H':Hp}{s1 s':F2}{C a T:F9}
theorem rY{h:K5}{Z:List F9}(I1:Inv X af σ H1 s1) (os:s'.os=s1.os) (bare:am5 s'.gens) (un:Un (frs X.stack) [] H1 H' s1.heap s'.heap) (hok:HOk X.prog X.w H' s'.heap)
  (kp:∀b o,s'.heap.get? b=some o->b∉Z->b∉frs X.stack->h.get? b=some o) (fr:∀b o,b∈frs X.stack->s'.heap.get? b=some o->∃sl,h.get? b=some { o with slots:=sl })
  (hz:∀b∈Z,s1.heap.get? b=none/\H' b=none):Inv X af σ H' { s' with heap:=h }:=by
 have I':Inv X af σ H' s':=I1.call' (ch:=[]) os un hok bare fun b z=>absurd z (by simp);have hfree:=I'.stkFree;have nz:∀{b o},s1.heap.get? b=some o->b∉Z:=fun {b o} e z=>by rw[(hz b z).1]at e;cases e
 refine I1.call' (s':={ s' with heap:=h }) (ch:=[]) os ⟨fun b o e n h1 h2=>kp b o (un.keep b o e n h1 h2) (nz e) h1,fun b o e n h1 h2=>?_,un.free,fun b o e h2=>?_,un.tups,un.frzs,un.tbls⟩ (fun b o e=>?_) bare fun b z=>absurd z (by simp)
 ·obtain⟨sl,e1⟩:=un.slot b o e n h1 h2;obtain⟨sl',e2⟩:=fr b _ h1 e1;exact⟨sl',e2⟩
 ·obtain⟨o1,e1⟩:=un.there b o e h2
  by_cases hf:b∈frs X.stack
  ·obtain⟨sl',e2⟩:=fr b _ hf e1;exact⟨_,e2⟩
  ·exact⟨o1,kp b o1 e1 (nz e) hf⟩
 ·refine(hok b o e).stay (fun c v hc r=>kp c v r (fun z=>?_) (fun z=>?_)) (fun c r=>r) fun c xs r=>r
  ·have:=(hz c z).2;rcases hc with rfl|hc
   ·rw[this]at e;cases e
   ·rw[this]at hc;cases hc
  ·have:=hfree c z;rcases hc with rfl|hc
   ·rw[this]at e;cases e
   ·rw[this]at hc;cases hc
end
theorem nq.cls{K:F0}{mg:Str->Option s0}{xC xW fld:Str}{C W fI:F9}(Y:nq K mg xC xW fld C W fI):∃nm q N bs bm hd sn sub ab col dd k0 k1 k2 k3 k5 newId,K.lookup C=some (W0 nm q C N bs bm hd sn sub ab col dd k0 k1 k2 k3 k5 newId)/\bm.contains (.type "BaseException")=true:=by
 obtain⟨nm,q,N,bs,sn,sub,ab,col,dd,k0,k1,k2,k3,k5,lC⟩:=Y.lC;exact⟨nm,q,N,bs,_,_,sn,sub,ab,col,dd,k0,k1,k2,k3,k5,_,lC,rfl⟩
def xf:SpD:=fun _ _ _=>False
theorem xH{P:K6}{w:Q7}{K:F0}{mg:Str->Option s0}{base:K5}{CX:CXT}{k n:Nat}{f:F9}{fd:K4}{ps:List Str}:a7 P w K mg base CX k f fd ps (spD K n xf) :=
 ⟨fun vs H Q E h=>by obtain⟨_,_,_,_,_,_,h,_⟩:=h;exact h.elim,fun A outer s H args us vs Q E _ _ _ _ h=>by obtain⟨_,_,_,_,_,_,h,_⟩:=h;exact h.elim⟩
theorem m9{α:Type}{p:α->Bool}:∀(l:List α) (i:Nat),(∀x,l[i]?=some x->p x=false)->(l.eraseIdx i).find? p=l.find? p
 |[],_,_=>rfl
 |a::l,0,h=>by simp[ab3,h a rfl]
 |a::l,i+1,h=>by
  simp only[List.eraseIdx_cons_succ,ab3];rw[m9 l i (fun x e=>h x (by simpa using e))]
theorem rH{es:Array at8}{name x:Str}{i:Nat}(hi:es.findIdx? (·.key.isStr name)=some i) (hx:x≠name):nsFind (es.eraseIdxIfInBounds i) x=nsFind es x:=by
 unfold nsFind findBy;rw[<-Array.find?_toList,<-Array.find?_toList];obtain⟨h1,h2,h3⟩:=Array.findIdx?_eq_some_iff_getElem.mp hi;rw[Array.eraseIdxIfInBounds,dif_pos h1,Array.toList_eraseIdx,m9];intro y e;rw[S3,K9 h1]at e;cases e;have h2:es[i].key.isStr name=true:=h2;show es[i].key.isStr x=false;cases q:es[i].key<;>rw[q]at h2<;>simp only[s0.isStr]at h2 ⊢<;>first|(cases h2;done)|skip
 all_goals first|(rw[beq_iff_eq]at h2;rw[beq_eq_false_iff_ne];exact fun z=>hx (z.symm.trans h2))|rfl
section
variable{M:at2}{A:N6}{E:s0->F2->Prop}{s:F2}
theorem Cw{a:F9}{m}{name:Str}{Q:Bool->F2->Prop}(hn:s.heap.Ns a m)
  (hQ:∀h' m',h'.Ns a m'->(∀x,x≠name->m' x=m x)->P2 a s.heap h'->Q (m name).isSome { s with heap:=h' }):J4 M A (nsDel a name) Q E s:=by
 obtain⟨o,es,ep,ho,hd,hk,hm⟩:=id hn;have hany:es.any (·.refKey)=false:=by
  rw[Array.any_eq_false'];intro e he;obtain⟨n,t,h⟩:=hk e he;simp[at8.refKey,h]
 have hsome:(m name).isSome=es.any (·.key.isStr name):=by
  rw[<-hm name];simp only[nsFind,findBy,Option.isSome_map];rw[S0];simp only[Array.find?_isSome,Array.any_eq_true];constructor
  ·rintro⟨x,hx,hp⟩;obtain⟨i,hi,rfl⟩:=Array.mem_iff_getElem.mp hx;exact⟨i,hi,hp⟩
  ·rintro⟨i,hi,hp⟩;exact⟨_,Array.getElem_mem hi,hp⟩
 have hhas:nsHas name o=af5 (es.any (·.key.isStr name)):=by
  rw[nsHas_eq];unfold nsHasByArray;rw[hd];show(if(es.any fun x=>x.key.isStr name)=true then _ else _)=_;generalize (es.any fun x=>x.key.isStr name)=b;cases b<;>simp[hany]
 unfold nsDel;refine o0 (al8 ho ?_);rw[hhas];refine o0 (u8 ?_);rw[<-hsome];cases hmn:(m name).isSome
 ·have:=hQ s.heap m hn (fun _ _=>rfl) (.refl ..);rw[hmn]at this;exact u8 this
 ·refine o0 (wpAny_updatePart ho (u8 ?_));have key:∃m',(s.heap.update a (Obj.dropName name)).Ns a m'/\∀x,x≠name->m' x=m x:=by
   obtain⟨cl,d,dt,sl⟩:=o;subst hd;cases hi:es.findIdx? (·.key.isStr name)with
   |some i=>exact⟨_,⟨_,_,ep+1,O1 _ ho (by simp only[ao6,ai7,hi]<;>rfl),(by simp only[ao6,ai7,hi]<;>rfl),hk.erase i,fun _=>rfl⟩,fun x hx=>by rw[rH hi hx,hm]⟩
   |none=>exact⟨_,⟨_,_,ep,O1 _ ho (by simp only[ao6,ai7,hi]<;>rfl),(by simp only[ao6,ai7,hi]<;>rfl),hk,fun _=>rfl⟩,fun x _=>hm x⟩
  obtain⟨m',hm',hx'⟩:=key;have:=hQ _ m' hm' hx' (S1 ..);rw[hmn]at this;exact this
end
end L2
namespace L2
open PySem PySem.Spec PySem.Calls PyProof.Rows PySem.W PySem.Builtin PySem.Builtin.ObjectAttr PySem.Builtin.Getset_descriptor
def pj(C e:F9) (h:K5):Prop:=∃o,h.get? e=some o/\ExF C o
theorem pj.type{M:at2}{h:K5}{C e:F9}(x:pj C e h):Looks M h (typeOf (.ref e)) (.ref C):=by
 obtain⟨o,g,r,_⟩:=x;exact r▸(Looks.ld g).andThen .now
section
variable{prog:K6}{w:Q7}{A:N6}{E:s0->F2->Prop}{s:F2}{K:Frag}{x C D:F9}{name:Str}
theorem qN{M:at2}{nameV:s0}{Q:Unit->F2->Prop}(X:K.In s.heap) (I:pj D x s.heap) (hb:mroIn K D (.type "BaseException")=some true) (hq:Q () s) :
  J4 M A (checkBuiltinCall "BaseException.__getattribute__" ⟨[.ref x,nameV],[]⟩) Q E s:=by
 obtain⟨hh,g,d,t,os⟩:=s;have hk:builtinKind "BaseException.__getattribute__"=some .slot:=by decide +kernel
 have hsplit:splitId "BaseException.__getattribute__"=some ("BaseException","__getattribute__"):=by decide +kernel
 have ha:=F.args_bexc_ga (.ref x) nameV;have L0:=I.type (M:=M);have L1:=looks_mroIn (M:=M) X hb;simp only[checkBuiltinCall,hk,hsplit];unfold at0;refine o0 (o0 (L0.at (L1.at ?_)));simp only[ac7,F6,if_false];cases hsig:Manifest.signature? "BaseException.__getattribute__" with
 |none=>exact u8 hq
 |some sig =>
  simp only[argsOk,hsig]at ha;have h2:Bind.checkArgs "BaseException.__getattribute__" sig ⟨[.ref x,nameV],[]⟩=af5 ():=ha;show J4 M A (Bind.checkArgs "BaseException.__getattribute__" sig ⟨[.ref x,nameV],[]⟩) Q E _;rw[h2];exact u8 hq
theorem Ao{M:at2}{h:K5}{a g:s0}(X:K.In h) (ha:findIn K (.ref D) name=some (some a)) (hg:specialIn K a "__get__"=some (some g)) (ht:takesIn K a=some true) :
  Looks M h (find (.ref x) (.ref D) name) (.bind g a):=by
 have L1:=looks_findIn (M:=M) X ha;have L2:Looks M h (getOf (some a)) (some g):=looks_specialIn X hg;have L3:=looks_takesIn (M:=M) X ht;refine L1.andThen (L2.andThen ?_);exact(show Looks M h (dataDescriptor? (some a) (some g)) (some (g,a))from L3.andThen .now).andThen (Looks.tag .now)
theorem xj{g a:s0}{tk:Tok}{P:s0->F2->Prop}(X:K.In s.heap) (I:pj D x s.heap) (ha:findIn K (.ref D) name=some (some a)) (hg:specialIn K a "__get__"=some (some g)) (ht:takesIn K a=some true)
  (h:J4 (M0 prog w) A (call g [a,.ref x,.ref D]) P E s) :
  J4 (M0 prog w) A (K7.«object.__getattribute__» ⟨[.ref x,.str name tk],[]⟩) (fun fin s'=>match fin with|.done (.ret v)=>P v s'|_=>False) E s:=by
 obtain⟨hh,gg,d,t,os⟩:=s;have L0:=I.type (M:=M0 prog w);have L1:=Ao (M:=M0 prog w) (x:=x) X ha hg ht;refine o0 (u8 (o0 (u8 (o0 (L0.at (o0 (L1.at ?_)))))));show J4 _ _ (ak1 [a] (call g [a,.ref x,.ref D]) >>= ret) _ _ _;exact o0 (O9 (Q8 h (fun v s' z=>u8 z) fun _ _ z=>z))
theorem zJ{g a:s0}{Q:Option s0->F2->Prop}(X:K.In s.heap) (I:pj D x s.heap) (hga:findIn K (.ref D) "__getattribute__"=some (some (.builtin "BaseException.__getattribute__"))) (hgk:findIn K (.ref D) "__getattr__"=some none) (hb:mroIn K D (.type "BaseException")=some true)
  (ha:findIn K (.ref D) name=some (some a)) (hg:specialIn K a "__get__"=some (some g)) (ht:takesIn K a=some true)
  (h:∀A A2,J4 (M0 prog w) A (call g [a,.ref x,.ref D]) (fun v s'=>J4 (M0 prog w) A2 (handedOut v) (fun v s''=>Q (some v) s'') (fun _ _=>False) s') (fun _ _=>False) { s with toks:=s.toks+1 }) :
  J4 (M0 prog w) A (getAttr? (.ref x) name) Q E s:=by
 obtain⟨hh,gg,d,t,os⟩:=s;have L0:=I.type (M:=M0 prog w);have L1:=looks_findIn (M:=M0 prog w) X hga;have L2:=looks_findIn (M:=M0 prog w) X hgk;unfold getAttr? getAttrBy? getAttrBy;refine o0 (wpAny_mkText (o0 (ah3 (O9 (o0 (L0.at (o0 (L1.at ?_))))))));have hx2:(ah1 "BaseException.__getattribute__"==ah1 "object.__getattribute__")=false:=by decide +kernel
 simp only[hx2,P7,F6,if_false];unfold getAttrByItsOwn hookBefore;refine o0 (L2.at (o0 (ah3 (O9 ?_))));unfold callGetattribute boundAndCalled;simp only[H0,F6,if_false];rw[show bindSpecial (.builtin "BaseException.__getattribute__") (.ref x)=af5 (.builtin "BaseException.__getattribute__",[.ref x])from ah8.ga.bind _];refine o0 (u8 (af4 ?_));refine X1 ah8.ga.plain F.entry_bexc_ga (qN X I hb ?_);refine Q8 (xj (s:=⟨hh,gg,d,t+1,os⟩) X I ha hg ht (h _ A)) (fun fin s' z=>?_) (fun _ _ z=>z.elim);rcases fin with(_|_|_|_)|_<;>first|exact Q8 z (fun v s'' hv=>u8 hv) (fun _ _ z=>z.elim)|exact z.elim
theorem C4{tp:s0}{R:at1->F2->Prop}(X:K.In s.heap) (I:pj C x s.heap) (hm:mroIn K C (.type "object")=some true)
  (h:R (.ok (.ret (.ref C))) s):ah6 (M0 prog w) A (.call (.builtin "getset_descriptor.__get__") ⟨[.builtin "object.__class__",.ref x,tp],[]⟩) R s:=by
 obtain⟨hh,g,dr,t,os⟩:=s;have L0:=I.type (M:=M0 prog w);have L1:=looks_mroIn (M:=M0 prog w) X hm;refine X1 KF.slot_gs.plain KF.entry_gs (KF.slot_gs.check _ _ _ _ _ _ _ _ KF.type_class (KF.args_gs _ _ _) ?_);unfold K7.«getset_descriptor.__get__» descrGet;rw[dga_obj];refine o0 (u8 ?_);unfold descrGetter descrCheckInstance descrNameAndClass at0;simp only[KF.owner_class]
 repeat lk
 refine⟨af7 _ (by decide +kernel),U4 KF.entry_class ?_⟩;unfold K7.«object.__class__» shownTypeOf
 repeat lk
 exact h
theorem zb(hga:findIn K (.ref D) "__getattribute__"=some (some (.builtin "BaseException.__getattribute__"))) (hgk:findIn K (.ref D) "__getattr__"=some none) (hb:mroIn K D (.type "BaseException")=some true) (hdct:(clsIn K D).isSome=true) (ha:findIn K (.ref D) "__class__"=some (some (.builtin "object.__class__")))
  (hn:specialIn K (.builtin "object.__class__") "__get__"=some (some (.builtin "getset_descriptor.__get__"))) (htk:takesIn K (.builtin "object.__class__")=some true) (hm:mroIn K D (.type "object")=some true) :
  KitX K (.ref x) (.ref D) (pj D x) where
 ty:=fun _ _ _ I=>I.type
 it:=fun _ _ X _=>by
  obtain⟨cdD,hcD⟩:=Z8.mp hdct;unfold clsIn at hcD
  split at hcD
  ·rename_i c' d' cd' sl' ho;intro A' Q' E' s' k q;unfold isType loadHead;exact o0 (al8 (k _ _ (X _ _ ho)) (u8 q))
  ·cases hcD
 ne:=fun h tp dd its n sl X htp=>by
  obtain⟨cdD,hcD⟩:=Z8.mp hdct;refine X9.mpr fun q=>?_;have e:D=tp:=L7.inj (beq_iff_eq.mp q);subst e;unfold clsIn at hcD
  split at hcD
  ·rename_i c' d' cd' sl' ho;have z:=(X _ _ ho).symm.trans htp;cases z
  ·cases hcD
 ca:=fun {_ _ _ _ _ s} X I k=>zJ X I hga hgk hb ha hn htk fun _ _=>af4 (C4 (s:={ s with toks:=s.toks+1 }) X I hm (handed_on rfl k))
end
end L2
namespace L2
open PySem PySem.Spec PyProof.Rows
section
variable{X:Cx}{af:List (F9×Obj)}{σ:St}{H:Hp}{s:F2}
theorem lJ{M:at2}{A:N6}{E:s0->F2->Prop}{i:Nat}{x:Str}{pos:Pos}{Q:Unit->F2->Prop}(I:Inv X af σ H s) (hN:X.N.Nodup) (hi:X.N[i]?=some x) (hx:X.env.scope.names.lookup x=some .local)
  (h:∀s',Inv X af (σ.set i none) H s'->Q () s'):J4 M A (do bindName X.env x .none;unbindBehindTheSuite X.env x pos) Q E s:=by
 refine o0 (wpAny_bindName (jS I hN hi (.inl hx) (v:=.non) (u:=.none) rfl (fun s1 I1=>?_) (.inr hx)));have hiσ:i<σ.length:=by rw[I.len];exact(N1.mp hi).1
 unfold unbindBehindTheSuite;refine wpAny_onRaise ?_;unfold unbindName;refine o0 (wpAny_point (o0 ?_));unfold deleteName;have hl:X.env.kindOf x=some .local:=hx;have hcls:(X.env.scope.kind==.class || (X.env.scope.kind==.module&&X.env.locals != X.env.globals))=false:=by rw[I.ok.kind];rfl
 simp only[hl,hcls];rw[if_neg (by decide)];obtain⟨m,hn,hlk⟩:=id I1.loc;have hm:(m x).isSome=true:=by
  obtain⟨u,r,q⟩:=hlk i x .non hi (by rw[T9 hiσ]) (.inl hx);rcases q with⟨_,e⟩|⟨k,_⟩
  ·rw[e];rfl
  ·rw[hl]at k;rcases k with k|k<;>cases k
 refine o0 (Cw hn fun h2 m2 hn2 hx2 hs=>?_);rw[hm];simp only[ac7,F6,if_false];refine u8 (wpAny_point (h _ ?_));have cne:=I1.cne;obtain⟨oL,_,_,hoL,_⟩:=id hn;have tracked:HOk X.prog X.w H h2:=fun b ob e=>by
  refine(I1.hok b ob e).stay (fun c w' hc q=>(hs.2 c ?_).trans q) (fun _ q=>q) fun _ _ q=>q;rintro rfl;have hfree:=I1.free;rcases hc with rfl|hc
  ·rw[hfree]at e;cases e
  ·rw[hfree]at hc;cases hc
 refine⟨I1.ok,I1.os,I1.bare,⟨fun b o e n hb hx=>?_,fun b o e n hb hx=>?_,I1.base.free,fun b o e hx=>?_,I1.base.tups,I1.base.frzs,I1.base.tbls⟩,⟨_,hn2,fun j y v' e1 e2 e3=>?_⟩,fun y c e=>?_,I1.free,I1.freeC,fun p hp=>?_,tracked,by simpa using I.len⟩
 ·exact(hs.2 b (L6 (J9 (J8 e) I.ok.above))).trans (I1.base.keep b o e n hb hx)
 ·obtain⟨sl,e1⟩:=I1.base.slot b o e n hb hx;exact⟨sl,(hs.2 b (L6 (J9 (J8 e) I.ok.above))).trans e1⟩
 ·obtain⟨o',e1⟩:=I1.base.there b o e hx;exact⟨o',(hs.2 b (L6 (J9 (J8 e) I.ok.above))).trans e1⟩
 ·by_cases hj:j=i
  ·subst hj;rw[T9 hiσ]at e2;cases e2
  ·rw[W9 (V0 hj)]at e2;obtain⟨u',r',q⟩:=hlk j y v' e1 (by rw[W9 (V0 hj)];exact e2) e3;refine⟨u',r',?_⟩;rcases q with⟨k,e⟩|⟨k,c,e,z⟩
   ·refine .inl ⟨k,?_⟩;have:y≠x:=fun e=>hj (mF hN e1 (e▸hi));rw[hx2 y this];exact e
   ·exact .inr ⟨k,c,e,z.sameBut hs (cne y c e)⟩
 ·obtain⟨w',z⟩:=I1.cell y c e;exact⟨w',z.sameBut hs (cne y c e)⟩
 ·obtain⟨e,n,ne,nf,d⟩:=I1.pin p hp;exact⟨(hs.2 p.1 ne).trans e,n,ne,nf,d⟩
theorem Inv.track{a:F9}{φ:K5->Prop}(I:Inv X af σ H s) (hn:H a=none) (ho:cj X.prog X.w (upd H a (.ext φ)) s.heap a (.ext φ)) (h0:X.s₀.heap.get? a=none) (hL:a≠X.env.locals) (hc:∀x c,X.env.cells.lookup x=some c->c≠a)
  (hp:∀p∈X.pn++af,p.1≠a):Inv X af σ (upd H a (.ext φ)) s:=by
 have ne:∀{b o},H b=some o->upd H a (.ext φ) b=some o:=fun {b o} q=>by
  by_cases z:b=a
  ·rw[z,hn]at q;cases q
  ·rw[aK z];exact q
 refine⟨I.ok,I.os,I.bare,⟨I.base.keep,I.base.slot,fun b o e n x=>?_,I.base.there,fun b xs q=>ne (I.base.tups b xs q),fun b o u q=>ne (I.base.frzs b o u q),fun b ps q=>?_⟩,I.loc,I.cell,?_,fun x c e=>?_,fun p z=>?_,fun b o e=>?_,I.len⟩
 ·have:b≠a:=fun z=>by rw[z,h0]at e;cases e
  rw[aK this];exact I.base.free b o e n x
 ·obtain⟨more,q'⟩:=I.base.tbls b ps q;exact⟨more,ne q'⟩
 ·rw[aK (V0 hL)];exact I.free
 ·rw[aK (hc x c e)];exact I.freeC x c e
 ·obtain⟨h1,h2,h3⟩:=I.pin p z;exact⟨h1,by rw[aK (hp p z)];exact h2,h3⟩
 ·by_cases hb:b=a
  ·subst hb;rw[bh]at e;cases e;exact ho
  ·rw[aK hb]at e;exact(I.hok b o e).stay (fun c v _ r=>r) (fun c r=>ne r) fun c xs r=>ne r
end
theorem SR.setN{K:F0}{M:DH}{H:Hp}{σ:St}{Δ:DE}(h:SR K M H σ Δ) (i:Nat):SR K M H (σ.set i none) (Δ.set i none):=by
 refine⟨by simp[h.1],fun j e q=>?_⟩
 by_cases hj:j=i
 ·subst hj
  by_cases hl:j<Δ.length
  ·rw[T9 hl]at q;cases q
  ·rw[P5 (by simpa using hl)]at q;cases q
 ·rw[W9 (V0 hj)]at q ⊢;exact h.2 j e q
def BS(j:Nat) (E:dQ):dQ where
 nx:=fun Δ M=>∃M3,LeM M3 M/\E.nx (Δ.set j none) M3
 bk:=fun Δ M=>∃M3,LeM M3 M/\E.bk (Δ.set j none) M3
 ct:=fun Δ M=>∃M3,LeM M3 M/\E.ct (Δ.set j none) M3
 rt:=fun d M=>∃M3,LeM M3 M/\E.rt d M3
abbrev Cx.caught(X:Cx) (a:F9):Cx:={ X with A:=X.A.mark (some (.ref a)),calm:=false,xe:=fun _ _=>False }
structure vm(K:F0) (C:F9):Prop where
 ga:S9 K (.ref C) "__getattribute__"=some (some (.builtin "BaseException.__getattribute__"))
 gk:S9 K (.ref C) "__getattr__"=some none
 mb:an2 K C (.type "BaseException")=some true
 cl:(PySem.W.clsIn K C).isSome=true
 ha:S9 K (.ref C) "__class__"=some (some (.builtin "object.__class__"))
 hn:al3 K (.builtin "object.__class__") "__get__"=some (some (.builtin "getset_descriptor.__get__"))
 tk:PySem.W.takesIn K (.builtin "object.__class__")=some true
 mo:an2 K C (.type "object")=some true
end L2
namespace L2
open PySem PySem.Spec PySem.Calls PyProof.Rows
end L2
namespace L2
open PySem PySem.Spec PyProof.Rows
end L2
namespace L2
open PySem PySem.Spec PyProof.Rows PySem.Calls PySem.SeqAt
end L2
namespace L2
open PySem PySem.Spec PyProof.Rows PySem.Calls PySem.SeqAt PySem.W
end L2
namespace L2
open PySem PySem.Spec PyProof.Rows PySem.Calls
theorem qp(xs:List Str):(cp xs).Nodup:=qM xs [] .nil
theorem ve{xs ys:List Str}(h:∀x,x∈xs↔x∈ys):cG (cp xs)=cG (cp ys):=ny (rP (qp _) (qp _) fun x=>by rw[ml,ml];exact h x)
section
variable{X:Cx}{scope:af8}{cl:List (Str×F9)}{ms:List Bool}{ao:List Str}{elt t0 i0 t1 i1 t2 i2:O3}{f0 f1 f2:List O3}{pos:Pos}{w0 w1 w2:TId}{g0 g1 g2:GD}{tc0 tc1 tc2:TTd}{te:TEd}
theorem wY{i:Nat}{x:Str}{spos pos':Pos}(hN:X.N.Nodup) (hix:X.N[i]?=some x) (hx:X.env.scope.names.lookup x=some .local)
  (hsw:ah9 (.ListComp elt [⟨t0,i0,f0,0⟩,⟨t1,i1,f1,0⟩,⟨t2,i2,f2,0⟩] scope pos) (some (.Name x pos')) spos.line X.env=af5 true) (S:fo X scope cl ms ao) (eQ:X.calm=true) (hi:QId X t0 i0 w0) (hg0:PGa X scope cl ao t0 g0) (hif0:∀C s H ex,QIf (aH X scope cl (X.N++ao) C s H ex) f0 tc0)
  (hi1:∀C s H ex,QId (aH X scope cl (X.N++ao) C s H ex) t1 i1 w1) (hg1:PGa X scope cl ao t1 g1) (hif1:∀C s H ex,QIf (aH X scope cl (X.N++ao) C s H ex) f1 tc1)
  (hi2:∀C s H ex,QId (aH X scope cl (X.N++ao) C s H ex) t2 i2 w2) (hg2:PGa X scope cl ao t2 g2) (hif2:∀C s H ex,QIf (aH X scope cl (X.N++ao) C s H ex) f2 tc2) (he:∀C s H ex,QEd (aH X scope cl (X.N++ao) C s H ex) elt te)
  (hs:∀x,Q0 i0 X.env x=af5 x:=by intro _;rfl) (hs1:∀C x,Q0 i1 (as2 scope cl C X.env) x=af5 x:=by intro _ _;rfl) (hs2:∀C x,Q0 i2 (as2 scope cl C X.env) x=af5 x:=by intro _ _;rfl) :
  QSd X (.Assign [.Name x pos'] (.ListComp elt [⟨t0,i0,f0,0⟩,⟨t1,i1,f1,0⟩,⟨t2,i2,f2,0⟩] scope pos) spos) (qj i (Cz ms ao.length w0 g0 tc0 w1 g1 tc1 w2 g2 tc2 te)):=by
 simp only[QEd.eq,QSd.eq,QId.eq,QIf.eq]at *
 obtain⟨gv0,pg0,kg0⟩:=hg0;obtain⟨gv1,pg1,kg1⟩:=hg1;obtain⟨gv2,pg2,kg2⟩:=hg2;refine(iW (tc:=upT X.K tc0) (p:=i0.pos) (B:=qT (upI X.K w1) gv1 (upT X.K tc1) (qT (upI X.K w2) gv2 (upT X.K tc2) (k8 (up X.K te)))) hN hix hx hsw S eQ hi pg0 hif0 (fun _ _ _ _ _ c=>?_) hs).conv fun D σ H hh=>?_
 ·exact pF (wi:=upI X.K w1) (tc:=upT X.K tc1) c (pF (wi:=upI X.K w2) (tc:=upT X.K tc2) c (o6 (te:=up X.K te) (k:=2) (p:=i2.pos) c (he _ _ _ _) fun _ _ _=>rfl) (fun _ _ _=>rfl) (hs2 _) (hi2 _ _ _ _) (pg2 _ _ _ _) (hif2 _ _ _ _) (k:=1) (p:=i1.pos) fun _ _ _=>rfl) (fun _ _ _=>rfl) (hs1 _) (hi1 _ _ _ _) (pg1 _ _ _ _) (hif1 _ _ _ _) fun _ _ _=>rfl
 ·obtain⟨Δ,M,E,sr,hr,q,k⟩:=hh;unfold qj Cz at q;exact rm kg0 (fun h=>o9 kg1 (fun h=>o9 kg2 uK h) h) σ H _ ⟨Δ,M,_,sr,hr,q,fun d M1 v H1 q1 e1 hr1 rv=>k.nx _ M1 _ H1 q1 e1 hr1 ((sr.ext e1).set i rv)⟩
end
end L2
namespace L2
open PySem PySem.Spec PyProof.Rows
end L2
namespace L2
open PySem PySem.Spec PyProof.Rows PySem.Calls PySem.SeqAt
end L2
namespace L2
open PySem PySem.Spec PyProof.Rows
end L2
namespace L2
open PySem PySem.Spec PySem.Calls PyProof.Rows PySem.W PySem.Builtin PySem.Builtin.ObjectAttr
section
variable{prog:K6}{w:Q7}{A:N6}{E:s0->F2->Prop}{s:F2}{K:Frag}{x D:F9}{ox:Obj}{od:Option Obj}{name:Str}
theorem C7{expr:Bool}{v:s0}{Q:s0->F2->Prop}(X:K.In s.heap) (I:InstAt s.heap x ox D od) (hga:findIn K (.ref D) "__getattribute__"=some (some (.builtin "BaseException.__getattribute__"))) (hgk:findIn K (.ref D) "__getattr__"=some none) (hb:mroIn K D (.type "BaseException")=some true)
  (J:pj D x s.heap) (hf:findObj K D od name=some (.value v)) (hh:handedIn v=true) (h:Q v { s with toks:=s.toks+1 }) :
  J4 (M0 prog w) A (getAttr (.ref x) name expr) Q E s:=by
 obtain⟨hh',gg,d,t,os⟩:=s;have L0:=I.type (M:=M0 prog w);have L1:=looks_findIn (M:=M0 prog w) X hga;have L2:=looks_findIn (M:=M0 prog w) X hgk;have L3:=looks_find (M:=M0 prog w) X I hf;unfold getAttr getAttrBy;refine o0 (wpAny_mkText (O9 (o0 (L0.at (o0 (L1.at ?_))))));have hx2:(ah1 "BaseException.__getattribute__"==ah1 "object.__getattribute__")=false:=by decide +kernel
 simp only[hx2,P7,F6,if_false];unfold getAttrByItsOwn hookBefore;refine o0 (L2.at (o0 (ah3 (O9 ?_))));unfold callGetattribute boundAndCalled;simp only[onTheHeap,P7,F6,if_false];rw[show bindSpecial (.builtin "BaseException.__getattribute__") (.ref x)=af5 (.builtin "BaseException.__getattribute__",[.ref x])from ah8.ga.bind _];refine o0 (u8 (af4 ?_));refine X1 ah8.ga.plain F.entry_bexc_ga (qN X J hb ?_);refine o0 (u8 (o0 (u8 (o0 (L0.at (o0 (L3.at ?_)))))));refine u8 ?_;show J4 _ _ (handedOut v) _ _ _;rw[handedOut_of hh];exact u8 h
end
end L2
namespace L2
open PySem PySem.Spec PyProof.Rows
theorem qv{prog:K6}{w:Q7}{A:N6}{E:s0->F2->Prop}{s:F2}{K:W.Frag}{x C:F9}{ox:Obj}{name:Str}{v:s0}{vs:Array s0}{cd:ClassData}{Q:Unit->F2->Prop}
  (X:K.In s.heap) (he:s.heap.get? x=some ox) (hcls:ox.cls=.ref C) (hdict:ox.dict=none) (hdata:ox.data=.fields vs)
  (hs:W.findIn K (.ref C) "__setattr__"=some (some (.builtin "object.__setattr__"))) (hc:W.clsIn K C=some cd) (hob:W.mroIn K C (.type "object")=some true)
  (href:∀self,refuseLoop self "__setattr__" cd.mro=af5 ()) (ha:W.findIn K (.ref C) name=some none) (hh:cd.hasDict=true)
  (h:∀(h':K5) (d:F9),(∀b o,b≠x->s.heap.get? b=some o->h'.get? b=some o)->s.heap.objs.size<=d->h'.get? x=some { ox with dict:=some d }->(∃o,h'.get? d=some o/\W.lookIn name o=some (some v))->Q () { s with heap:=h',toks:=s.toks+2 }) :
  J4 (M0 prog w) A (setAttr (.ref x) name v) Q E s:=by
 have I:W.InstAt s.heap x ox C none:=⟨he,hcls,by unfold W.notCls;rw[hdata],by rw[hdict];trivial⟩;refine W.set_plain X I hs ?_;have SF:=F.store_object;have sub:ao7 (M0 prog w) s.heap (at0 (.ref x) (.type "object")) true:=ao7.andThen (W.InstAt.type I) (W.looks_mroIn X hob);refine X1 SF.slot.plain SF.entry ?_;have hk:=SF.kind;have hsp:=SF.split;have har:=SF.args (L7 x) (ap5 name s.toks) v;refine W.check_slot (i:="object.__setattr__") (owner:="object") (self:=.ref x) (rest:=[ap5 name s.toks,v]) (kw:=[]) hk hsp sub har ?_;rw[W.osa_eq,refuse_eq];have hm:ao7 (M0 prog w) s.heap (mroOf (.ref C)) cd.mro:=ao7.andThen (W.looks_clsIn X hc) ao7.now;refine o0 (o0 (am4 (W.InstAt.type I) (o0 (am4 hm ?_))));rw[href];refine u8 (o0 (am4 (W.InstAt.type I) (o0 (am4 (W.looks_findIn X ha) (o0 (am4 (r:=none) ao7.now ?_))))));obtain⟨oc,od,oda,osl⟩:=ox;obtain rfl:oc=.ref C:=hcls;obtain rfl:od=none:=hdict;obtain rfl:oda=.fields vs:=hdata;obtain⟨hp,g,d,t,os⟩:=s;refine o0 (u8 (o0 (o0 (al8 he (o0 (am4 (W.looks_clsIn X hc) ?_))))));rw[hh];refine T4 (ao5 (decide ((!true)=true))) ?_;refine T4 (ao5 (decide ((!true || !typeHasDict (L7 C))=true))) ?_;refine o0 (wpAny_alloc (o0 (wpAny_update (F1 _ he) ?_)));dsimp only;have hsz:hp.get? hp.objs.size=none:=V5 (F7 _);have hne:hp.objs.size≠x:=fun z=>by rw[z]at hsz;dsimp only at he;rw[he]at hsz;cases hsz
 refine u8 ?_;have hx0:(hp.push { cls:=O6 "dict",data:=ap6 #[] }).get? x=some { cls:=.ref C,data:=.fields vs,slots:=osl }:=F1 _ he;have hx1:((hp.push { cls:=O6 "dict",data:=ap6 #[] }).update x fun o=>{ cls:=o.cls,dict:=some hp.objs.size,data:=o.data,slots:=o.slots }).get? x=some { cls:=.ref C,dict:=some hp.objs.size,data:=.fields vs,slots:=osl } :=
  O1 _ hx0 rfl
 have hd1:((hp.push { cls:=O6 "dict",data:=ap6 #[] }).update x fun o=>{ cls:=o.cls,dict:=some hp.objs.size,data:=o.data,slots:=o.slots }).get? hp.objs.size=some { cls:=O6 "dict",data:=ap6 #[] }:=by
  rw[N3 _ _ (V0 hne)];exact J6 _ rfl
 have hk1:∀b o,b≠x->hp.get? b=some o->((hp.push { cls:=O6 "dict",data:=ap6 #[] }).update x fun o=>{ cls:=o.cls,dict:=some hp.objs.size,data:=o.data,slots:=o.slots }).get? b=some o:=fun b o hb e=>by
  rw[N3 _ _ (V0 hb)];exact F1 _ e
 generalize ((hp.push { cls:=O6 "dict",data:=ap6 #[] }).update x fun o=>{ cls:=o.cls,dict:=some hp.objs.size,data:=o.data,slots:=o.slots })=h1 at *
 refine o0 (u8 (o0 ?_));show J4 _ _ (S8 _ _) _ _ _;refine o0 (o0 (ai0 (u8 ?_)));refine o0 (wpAny_mkText (o0 (al8 hd1 ?_)));dsimp only;refine T4 (show decide (aRefKeyMayBeTheName name #[]=true)=false from rfl) (wpAny_updatePart hd1 ?_);dsimp only;have hd2:=O1 (Obj.putName name (if name.cps.isEmpty=true then 0 else as9 ((M0 prog w).w.params.strHash name.cps)) (ap5 name (t+1)) v) hd1 rfl;refine o0 (o0 (al8 hd2 ?_));refine u8 (u8 ?_);refine h _ hp.objs.size (fun b o hb e=>?_) (F7 _) ?_ ⟨_,hd2,?_⟩
 ·rw[N3 _ _ (fun z=>by subst z;dsimp only at e;rw[hsz]at e;cases e)];exact hk1 b o hb e
 ·rw[N3 _ _ hne];exact hx1
 ·exact(congrArg (W.lookIn name) (W.putName_dict name _ _ v [] 0)).trans (by rw[W.lookIn_dict];simp[W.putL,W.getL,s0.isStr])
def lr(f:Str) (dd:F9) (v:V) (h:K5):Prop:=∃o u,h.get? dd=some o/\PySem.W.lookIn f o=some (some u)/\aX v u
theorem An{P:K6}{w:Q7}{H:Hp}{h:K5}{f:Str}{dd:F9}{v:V}(x:lr f dd v h):cj P w H h dd (.ext (lr f dd v)):=by
 obtain⟨o,u,g,l,r⟩:=x;exact⟨⟨o,u,g,l,r⟩,⟨_,g⟩,fun h1 h2 ⟨o,u,q,l,r⟩ k=>⟨o,u,k _ q,l,r⟩⟩
def qg(x:Option F9) (C e:F9) (h:K5):Prop:=∃a0 osl,h.get? e=some { cls:=.ref C,dict:=x,data:=.fields #[a0,.none,.none,.none,.bool false,.none],slots:=osl }
theorem zD{P:K6}{w:Q7}{H:Hp}{h:K5}{y:Option F9}{C e:F9}(x:qg y C e h):cj P w H h e (.ext (qg y C e)):=by
 obtain⟨a0,osl,g⟩:=x;exact⟨⟨a0,osl,g⟩,⟨_,g⟩,fun h1 h2 ⟨b,c,q⟩ k=>⟨b,c,k _ q⟩⟩
section
variable{X:Cx}{xC xW fld:Str}{C W fI:F9}
def tSF(fld:Str) (C:F9) (i j:Nat):TS:=fun D σ H=>∃e v,σ[i]?=some (some (.ref e))/\σ[j]?=some (some v)/\H e=some (.ext (pJ C e))/\∀dd,H dd=none->D.nx σ (upd (upd H e (.ext (qg (some dd) C e))) dd (.ext (lr fld dd v)))
theorem DQ(Y:nq X.K X.mg xC xW fld C W fI) (i j:Nat) {x y:Str}{px py pa pos:Pos}(hx:PE X (.Name x px) (vi i)) (hy:PE X (.Name y py) (vi j))
  (hs:ah9 (.Name y py) (some (.Attribute (.Name x px) fld pa)) pos.line X.env=af5 false:=by rfl):PS X (.Assign [.Attribute (.Name x px) fld pa] (.Name y py) pos) (tSF fld C i j):=by
 intro af s σ H D I h;obtain⟨e,v,ei,ej,he,q⟩:=h;refine plainObj_wpAny_Assign_Attribute (thn (hy af s σ H (fun v1 H1=>v1=v/\H1=H) I ⟨v,ej,rfl,rfl⟩) fun u s1 hs1=>?_) hs;obtain⟨v0,_,I1,rv,ev,rfl⟩:=hs1;subst ev;refine thn (hx af s1 σ _ (fun v1 H1=>v1=.ref e/\H1=_) I1 ⟨_,ei,rfl,rfl⟩) fun u2 s2 hs2=>?_;obtain⟨_,H2,I2,rv2,rfl,rfl⟩:=hs2;obtain rfl:u2=.ref e:=rv2;obtain⟨⟨a0,osl,g⟩,_⟩:=I2.hok e _ he;obtain⟨nm,q',N,bs,sn,sub,ab,col,dd,k0,k1,k2,k3,k5,lC⟩:=Y.lC;refine qv I2.kIn g rfl rfl rfl Y.sC (cd:={ name:=nm,bases:=bs,mro:=[.ref C,.ref W,.type "ValueError",.type "Exception",.type "BaseException",.type "object"],ns:=N,qualname:=q',hasDict:=true,slotNames:=sn,subclasses:=sub,abstract:=ab,collection:=col }) ?_ Y.mC (fun self=>vL self C W) Y.tC rfl fun h' d' kp hd ge gd=>?_
 ·unfold PySem.W.clsIn;rw[lC]
 ·have I3:=I2.write (t':=s2.toks+2) (x:=e) (e:=e) (o:=.ext (qg (some d') C e)) (by rw[he];trivial) (.inl rfl) (fun b u hb hu=>kp b u hb hu) ⟨_,ge⟩ (zD ⟨_,_,ge⟩);have hn:H2 d'=none:=I2.hok.fresh hd;have ne:d'≠e:=fun z=>by rw[z,he]at hn;cases hn
  obtain⟨o,go,lo⟩:=gd;have n0:s2.heap.get? d'=none:=V5 hd;have some1:∀{b o},s2.heap.get? b=some o->b≠d':=fun e z=>by rw[z,n0]at e;cases e
  refine⟨σ,_,I3.track (a:=d') (φ:=lr fld d' v0) (by rw[aK ne];exact hn) (An ⟨o,_,go,lo,rv⟩) (V5 (O4 I2.sz hd)) ?_ (fun x c e=>?_) (fun p hp=>?_),q d' hn⟩
  ·obtain⟨m,⟨o,es,ep,g,_⟩,_⟩:=I2.loc;exact(some1 g).symm
  ·obtain⟨v,o,g,_⟩:=I2.cell x c e;exact some1 g
  ·exact some1 (I2.pin p hp).1
end
def spF(fld:Str) (C:F9):Sp:=fun vs H Q _=>∃e v,vs=[.ref e,v]/\H e=some (.ext (pJ C e))/\∀dd,H dd=none->Q .non (upd (upd H e (.ext (qg (some dd) C e))) dd (.ext (lr fld dd v)))
section
variable{X:Cx}{xC xW fld:Str}{C W fI:F9}{af:List (F9×Obj)}{σ:St}{H:Hp}{s:F2}
def rfQ(fld:Str) (XW:F9->Hp->Prop):List V->Hp->Prop
 |[x],H1=>∀dd,H1 dd=none->XW dd (upd H1 dd (.ext (lr fld dd x)))
 |_,_=>False
def tRF(fld:Str) (XW:F9->Hp->Prop) (te:TE):TS:=fun _ σ H=>te σ H fun x H1=>rfQ fld XW [x] H1
theorem Fb{XW:F9->Hp->Prop}{k:Nat}{fd:K4}{ps:List Str}{e:O3}{te:TE}{p pos pc:Pos}(Y:nq X.K X.mg xC xW fld C W fI) (F:a7 X.prog X.w X.K X.mg X.base CX0 k fI fd ps (spF fld C)) (hb:cZ X.K fd ps []) (hf:∃oI,X.K.lookup fI=some oI/\oI.cls=O6 "function")
  (hr:cC (k+1) X.A) (hg:Gl X xC) (hc:X.calm=true) (he:PE X e te)
  (hx:∀af σ H s a dd,Inv X af σ H s->XW dd H->H a=none->qg (some dd) C a s.heap->X.s₀.heap.get? a=none->X.xe (.ref a) s)
  (hdb:(xC==("__debug__":Str))=false:=by decide) (hst:F8 [e] X.env=(false,ab7 e X.env)::F8 [] X.env:=by rfl) :
  PS X (.Raise (some (.Call (.Name xC p) [e] [] pc)) none pos) (tRF fld XW te):=by
 intro af s σ H D I h;obtain⟨nm,q',N,bs,sn,sub,ab,col,dd,k0,k1,k2,k3,k5,lC⟩:=Y.lC;obtain⟨oI,lI,cI⟩:=hf;refine sR (C:=C) (bm:=[.ref W,.type "ValueError",.type "Exception",.type "BaseException",.type "object"]) (hdct:=true) (nm:=nm) (q:=q') (N:=N) (bs:=bs) (sn:=sn) (sub:=sub) (ab:=ab) (col:=col) (dd:=dd) (k0:=k0) (k1:=k1) (k2:=k2) (k3:=k3) (k5:=k5) (newId:="ValueError.__new__") rfl (I.ok.hd hc) (U0 (jV I hg Y.gC ?_ hdb));have ha:PA X [e] (uG te Cj):=cB he gx hst;refine PySem.W.callWith_K (h₀:=X.base) I.ok.mod.kin Y.kC (thn (ha pc af s σ H (rfQ fld XW) I h) fun us s1 hs=>⟨?_,?_⟩) hst rfl
 ·obtain⟨vs,H1,I1,rv,_⟩:=hs;exact I1.kIn
 obtain⟨vs,H1,I1,rv,q⟩:=hs;obtain⟨v,rfl⟩:∃v,vs=[v]:=by
  match vs,q with
  |[v],_=>exact⟨v,rfl⟩
 obtain⟨hp,gs,d,t,os⟩:=s1;have hul:us.length=1:=by rw[<-rv.length];rfl
 refine sE PySem.F.excBase_ValueError (Y.tail I1.kIn) (I1.kIn _ _ lC) I1.kIn Y.iC (I1.kIn _ _ lI) cI (fun h' a hsz made=>?_) ?_
 ·obtain⟨kp,new,t',ge,_,_⟩:=made;have I2:Inv X af σ (upd H1 a (.ext (pJ C a))) { heap:=h',gens:=gs,drawn:=d,toks:=t,os:=os }:=I1.laid (t':=t) kp hsz (uM ⟨_,_,ge⟩);have hn1:H1 a=none:=I1.hok.fresh hsz;have r2:aE [V.ref a,v] (L7 a::us):=.cons rfl rv;have hsp:spF fld C [V.ref a,v] (upd H1 a (.ext (pJ C a))) (fun u H2=>u=.non/\∃dd,H1 dd=none/\dd≠a/\H2=upd (upd H1 dd (.ext (lr fld dd v))) a (.ext (qg (some dd) C a))) E0:=⟨a,v,rfl,bh,fun dd hd=>by
   have ne:dd≠a:=fun z=>by rw[z,bh]at hd;cases hd
   rw[aK ne]at hd;refine⟨rfl,dd,hd,ne,?_⟩;rw[Ab];funext b;unfold upd
   by_cases z1:b=dd
   ·subst z1;simp[ne]
   ·simp[z1]⟩
  have hpl:(L7 a::us++[]).length=ps.length:=by
   rw[ab1,<-r2.length];exact F.len _ _ _ _ hsp
  refine af4 (aa4 (F.run _ X.stack _ _ ⟨L7 a::us,[]⟩ (L7 a::us) _ _ E0 (hr.make C us []) (I2.env0.make C us []) (by simpa using hb _ (L7 a::us) I2.kIn hpl) r2 hsp) fun r s' hq'=>?_);cases r with
  |error e=>exact hq'.elim
  |ok fl =>
   cases fl with
   |ret u =>
    obtain⟨v3,H3,I3,rv3,rfl,d3,hd3,ne3,rfl⟩:=I2.after hq';obtain rfl:u=L8:=rv3;obtain⟨a0,osl,g3⟩:=(I3.hok a _ bh).1;refine⟨rfl,a,_,a0,osl,rfl,I3.kIn _ _ lC,g3,?_⟩;have hna:upd H1 d3 (.ext (lr fld d3 v)) a=none:=by rw[aK (V0 ne3)];exact hn1
    refine hx af σ _ s' a d3 (I3.forget hna) (q d3 hd3) hna ⟨a0,osl,g3⟩ ?_;exact V5 (O4 I1.sz hsz)
   |next=>exact U1 hq'
   |brk=>exact U1 hq'
   |cont=>exact U1 hq'
 ·rw[M9,hul];exact al9 (oM (by decide))
end
def ExG(x:Option F9) (C:F9) (o:Obj):Prop:=ExF C o/\o.dict=x
theorem lS{x:Option F9}{C:F9}:mZ (ExG x C):=fun o v ⟨h1,h2⟩=>⟨tD o v h1,by
 obtain⟨c,d,da,sl⟩:=o;cases da<;>exact h2⟩
def DC(x:Option F9) (C a T:F9) (h0 h:K5):Prop:=∃oe vs oT ts,h.get? a=some oe/\ExG x C oe/\oe.data=.fields vs/\vs[1]?=some (.ref T)/\h0.get? T=none/\T≠a/\h.get? T=some oT/\oT.data=.fields ts/\ts[3]?=some .none
def CX2(P:K6) (w:Q7) (Cs:List F9):CXT:=fun outer H s E e s'=>∃(i:Nat) (C:F9) (x:Option F9) (a T:F9) (H':Hp),Cs[i]?=some C/\e=.ref a/\s'.os=s.os/\am5 s'.gens/\Un (frs outer) [] H H' s.heap s'.heap/\HOk P w H' s'.heap/\s.heap.get? a=none/\H' a=none/\H' T=none/\DC x C a T s.heap s'.heap/\E (.ref C) x H'
section
variable{P:K6}{w:Q7}{K:F0}{mg:Str->Option s0}{base:K5}{N:List Str}{qual:Str}{scope:af8}{f:F9}{cd:s0}{A:N6}{outer:List Env}{s:F2}{H:Hp}{E:XK}{Cs:List F9}
theorem BU{af:List (F9×Obj)}{σ:St}{H1:Hp}{s1:F2}{a C:F9}{x0:Option F9}{i:Nat}(I:Inv (mn (CX2 P w Cs) P w K mg base N qual scope f cd A outer s H E) af σ H1 s1) (hC:Cs[i]?=some C) (q:E (.ref C) x0 H1) (hn:H1 a=none) (x:qg x0 C a s1.heap) (h0:s.heap.get? a=none) :
  (mn (CX2 P w Cs) P w K mg base N qual scope f cd A outer s H E).xe (.ref a) s1:=by
 obtain⟨a0,osl,g⟩:=x;have hst:=I.stack;have hfr:∀b∈frs (aj4 qual scope s.heap.objs.size f cd::outer),∃o,s1.heap.get? b=some o/\∀vs:Array s0,o.data≠ai3 vs:=fun b hb=>(hst.mem hb).2;have hany:a∉frs (aj4 qual scope s.heap.objs.size f cd::outer):=fun hb=>by
  obtain⟨o,e,d⟩:=hfr a hb;rw[g]at e;cases e;exact d _ rfl
 refine rh lS (base:=PySem.W.hideAll s1.heap (a::frs (aj4 qual scope s.heap.objs.size f cd::outer))) I.ok.frames ?_ (L:=s.heap.objs.size) rfl g ?_ ?_ rfl rfl ⟨⟨rfl,_,rfl,rfl⟩,rfl⟩ fun h' lf=>?_
 ·exact PySem.W.funFrames_hide hst fun env he b hb=>O0 _ (W4.mpr ⟨env,he,hb⟩)
 ·exact fun b o e=>PySem.W.of_hideAll _ e
 ·exact ah5 _ R5
 obtain⟨st,ff,⟨oe,vs,T,oT,ts,t1,t2,t3,t4,t5,t6,t7,t8,t9⟩,up⟩:=lf;have keep:∀b o,s1.heap.get? b=some o->b≠a->b∉frs (aj4 qual scope s.heap.objs.size f cd::outer)->h'.get? b=some o:=fun b o e hb hf=>st b o (ae2 _ e (fun z=>(J3.mp z).elim hb hf));have hT:s1.heap.get? T=none:=by
  cases e:s1.heap.get? T with
  |none=>rfl
  |some o =>
   by_cases hf:T∈frs (aj4 qual scope s.heap.objs.size f cd::outer)
   ·obtain⟨o',e',d'⟩:=hfr T hf;obtain⟨sl,e2⟩:=up T o' e' d';rw[t7]at e2;cases e2;exact absurd t8 (d' ts)
   ·rw[ae2 _ e (fun z=>(J3.mp z).elim t6 hf)]at t5;cases t5
 have un:Un (frs outer) [] H H1 s.heap s1.heap:=I.base;have hfree:∀b∈frs (aj4 qual scope s.heap.objs.size f cd::outer),H1 b=none:=I.stkFree;have hsz:∀b o,s.heap.get? b=some o->b∈frs (aj4 qual scope s.heap.objs.size f cd::outer)->b∈frs outer:=fun b o e hb=>by
  rcases J3.mp hb with z|z
  ·subst z;exact absurd (J8 e) (ac0 _)
  ·exact z
 refine⟨i,C,x0,a,T,H1,hC,rfl,I.os,I.bare,⟨fun b o e n h1 h2=>?_,fun b o e n h1 h2=>?_,fun b o e n h2=>un.free b o e n h2,fun b o e h2=>?_,un.tups,un.frzs,un.tbls⟩,fun b o e=>?_,h0,hn,?_,⟨oe,vs,oT,ts,t1,t2,t3,t4,?_,t6,t7,t8,t9⟩,q⟩
 ·exact keep b o (un.keep b o e n h1 h2) (fun z=>by rw[z,h0]at e;cases e) fun z=>h1 (hsz b o e z)
 ·obtain⟨sl,e1⟩:=un.slot b o e n h1 h2;obtain⟨o',e',d'⟩:=hfr b (O0 _ h1);rw[e1]at e';cases e';obtain⟨sl',e2⟩:=up b _ e1 d';exact⟨sl',e2⟩
 ·obtain⟨o1,e1⟩:=un.there b o e h2
  by_cases hf:b∈frs (aj4 qual scope s.heap.objs.size f cd::outer)
  ·obtain⟨o',e',d'⟩:=hfr b hf;obtain⟨sl',e2⟩:=up b _ e' d';exact⟨_,e2⟩
  ·exact⟨o1,keep b o1 e1 (fun z=>by rw[z,h0]at e;cases e) hf⟩
 ·refine(I.hok b o e).stay (fun c v hc r=>keep c v r ?_ ?_) (fun c r=>r) fun c xs r=>r
  ·rintro rfl;rcases hc with rfl|hc
   ·rw[hn]at e;cases e
   ·rw[hn]at hc;cases hc
  ·intro hf;have:=hfree c hf;rcases hc with rfl|hc
   ·rw[this]at e;cases e
   ·rw[this]at hc;cases hc
 ·cases e:H1 T with
  |none=>rfl
  |some o =>
   obtain⟨o1,e1⟩:=(I.hok T o e).is;rw[hT]at e1;cases e1
 ·cases e:s.heap.get? T with
  |none=>rfl
  |some o =>
   obtain⟨o1,e1⟩:=un.there T o e (by simp);rw[hT]at e1;cases e1
end
def xA(i:Nat) (x:Option F9):D:=.box (.dk [.inl (i:Int)]) (match x with|none=>[]|some d=>[.ref d,.ref d])
def isX:D->Option (Nat×Option F9)
 |.box (.dk [.inl i]) []=>some (i.toNat,none)
 |.box (.dk [.inl i]) [.ref d,.ref _]=>some (i.toNat,some d)
 |_=>none
theorem sH{i:Nat}{x:Option F9}:isX (xA i x)=some (i,x):=by cases x<;>simp[xA,isX]
theorem yk{d:D}{i:Nat}{x:Option F9}(h:isX d=some (i,x)):(∃j:Int,d=.box (.dk [.inl j]) [])∨∃(j:Int) (a b:F9),d=.box (.dk [.inl j]) [.ref a,.ref b]:=by
 unfold isX at h
 split at h
 ·exact .inl ⟨_,rfl⟩
 ·exact .inr ⟨_,_,_,rfl⟩
 ·cases h
theorem zj{K:F0}{M:DH}{H:Hp}{v:V}{d:D}(h:Rep K M H d v):isX d=none:=by
 cases e:isX d with
 |none=>rfl
 |some p =>
  rcases yk (i:=p.1) (x:=p.2) e with⟨j,rfl⟩|⟨j,a,b,rfl⟩
  ·obtain⟨a,vs,_,⟨hl,_⟩,r⟩:=h;simp only[ar]at r;subst r;cases hl
  ·obtain⟨a,vs,_,⟨hl,_⟩,r⟩:=h;have:=r.length;simp at this hl
   lia
def FT(f:Str) (dd:F9):List V->K5->Prop
 |[v]=>lr f dd v
 |_=>fun _=>False
def nK(f:Str) (dd:F9) (d:D):HD:=.ext (FT f dd) [d]
def DA(K:F0) (Cs:List F9) (XW:F9->Option F9->Hp->Prop) (t:TSd):TS:=fun D σ H=>∃(Δ:DE) (M:DH) (E:dQ),SR K M H σ Δ/\HR K M H/\t E Δ M/\UpE K E D M H/\∀(i:Nat) (x:Option F9) (C:F9) M' H',E.rt (xA i x) M'->Cs[i]?=some C->Ext M H M' H'->HR K M' H'->XW C x H'
def PSy(X:Cx) (Cs:List F9) (XW:F9->Option F9->Hp->Prop) (st:aa1) (t:TSd):Prop:=PS X st (DA X.K Cs XW t)
def tU(X:Cx) (Cs:List F9) (XW:F9->Option F9->Hp->Prop) (st:List aa1) (t:TSd):Prop:=PSs X st (DA X.K Cs XW t)
section
variable{X:Cx}{XW:F9->Option F9->Hp->Prop}{Cs:List F9}{a b c e:O3}{te:TEd}{pos:Pos}{st:aa1}{rest:List aa1}{t u:TSd}{xC xW fld:Str}{C W fI:F9}
theorem FG(h:QSd X st t):PSy X Cs XW st t:=by
 rw[QSd.eq]at h;exact PS.conv h fun D σ H ⟨Δ,M,E,sr,hr,q,k,_⟩=>⟨Δ,M,E,sr,hr,q,k⟩
theorem Df:tU X Cs XW [] xa:=uH.conv fun D σ H ⟨Δ,M,E,sr,hr,q,u,_⟩=>u.nx Δ M σ H q (Ext.refl _ _) hr sr
theorem AY(h1:PSy X Cs XW st t) (h2:tU X Cs XW rest u):tU X Cs XW (st::rest) (yb t u) :=
 (lO h1 h2).conv fun D σ H ⟨Δ,M,E,sr,hr,q,k,x⟩=>⟨Δ,M,{ E with nx:=u E },sr,hr,q,⟨fun Δ' M' σ' H' q' e' hr' sr'=>⟨Δ',M',E,sr',hr',q',k.ext e',fun i0 x0 C0 M'' H'' z1 z0 z2 z3=>x i0 x0 C0 M'' H'' z1 z0 (e'.trans z2) z3⟩,k.bk,k.ct,k.rt⟩,x⟩
theorem xK(h1:PSy X Cs XW st t):tU X Cs XW [st] t:=o7 h1
theorem FL{sa sb:List aa1}{tc:TTd}(hc:QTd X c tc) (ha:tU X Cs XW sa t) (hb:tU X Cs XW sb u):PSy X Cs XW (.If c sa sb pos) (Dh tc t u):=by
 rw[QTd.eq]at hc;exact(By hc ha hb).conv fun D σ H ⟨Δ,M,E,sr,hr,q,k,x⟩=>⟨Δ,M,_,sr,hr,q,fun b M1 H1 q1 e1 hr1=>by
  cases b with
  |true=>simp only[if_true]at q1 ⊢;exact⟨Δ,M1,E,sr.ext e1,hr1,q1,k.ext e1,fun i0 x0 C0 M'' H'' z1 z0 z2 z3=>x i0 x0 C0 M'' H'' z1 z0 (e1.trans z2) z3⟩
  |false=>simp only[F6,if_false]at q1 ⊢;exact⟨Δ,M1,E,sr.ext e1,hr1,q1,k.ext e1,fun i0 x0 C0 M'' H'' z1 z0 z2 z3=>x i0 x0 C0 M'' H'' z1 z0 (e1.trans z2) z3⟩⟩
def uV(fld:Str) (i:Nat) (te:TEd):TSd:=fun E Δ M=>te Δ M fun d M1=>∀dd,M1 dd=none->∃M2,LeM M2 (av M1 dd (nK fld dd d))/\E.rt (xA i (some dd)) M2
theorem FF(i:Nat) {k:Nat}{fd:K4}{ps:List Str}{p pc:Pos}(hC:Cs[i]?=some C) (Y:nq X.K X.mg xC xW fld C W fI) (F:a7 X.prog X.w X.K X.mg X.base CX0 k fI fd ps (spF fld C)) (hb:cZ X.K fd ps []) (hf:∃oI,X.K.lookup fI=some oI/\oI.cls=O6 "function")
  (hr:cC (k+1) X.A) (hg:Gl X xC) (hc:X.calm=true) (he:QEd X e te)
  (hx:∀af σ H s a x,Inv X af σ H s->XW C x H->H a=none->qg x C a s.heap->X.s₀.heap.get? a=none->X.xe (.ref a) s)
  (hdb:(xC==("__debug__":Str))=false:=by decide) (hst:F8 [e] X.env=(false,ab7 e X.env)::F8 [] X.env:=by rfl) :
  PSy X Cs XW (.Raise (some (.Call (.Name xC p) [e] [] pc)) none pos) (uV fld i te):=by
 rw[QEd.eq]at he;refine(Fb (XW:=fun dd H=>XW C (some dd) H) Y F hb hf hr hg hc he (fun af σ H s a dd=>hx af σ H s a (some dd)) hdb hst).conv fun D σ H ⟨Δ,M,E,sr,hr,q,k,x⟩=>⟨Δ,M,_,sr,hr,q,fun d M1 v H1 q1 e1 hr1 rv dd hd=>?_⟩;obtain⟨M2,hle,q2⟩:=q1 dd (hr1.fresh hd);have e3:Ext M1 H1 (av M1 dd (nK fld dd d)) (upd H1 dd (.ext (lr fld dd v))):=Ext.own hd;have hr3:HR X.K (av M1 dd (nK fld dd d)) (upd H1 dd (.ext (lr fld dd v))):=hr1.put e3 ⟨[v],bh,by simp only[ar];exact⟨_,_,rfl,rv.ext e3,rfl⟩⟩;exact x i (some dd) C M2 _ q2 hC ((e1.trans e3).trans (Ext.le hle)) (hr3.le hle)
end
def spY(K:F0) (n:Nat) (S:SpD) (Cs:List F9):Sp:=fun vs H Q E=>∃(ds:List D) (M:DH) (R:D->DH->Prop),ds.length=n/\ar K M H ds vs/\HR K M H/\S ds M R/\(∀d M' v H',R d M'->Ext M H M' H'->HR K M' H'->Rep K M' H' d v->Q v H') /\
 ∀(i:Nat) (x:Option F9) (C:F9) M' H',R (xA i x) M'->Cs[i]?=some C->Ext M H M' H'->HR K M' H'->E (.ref C) x H'
section
variable{P:K6}{w:Q7}{K:F0}{mg:Str->Option s0}{base:K5}{f:F9}{fd:K4}
theorem Fun.okY{x qual:Str}{st:aa1}{f:F9}{fd:K4}{N ps:List Str}{k n:Nat}{S:SpD}{Cs:List F9}(F:Fun K x qual st f fd) (hn:ps.length=n) (Sc:ay N ps (ah st))
  (hbody:∀ (cdv:s0) (A:N6) (outer:List Env) (s:F2) (H:Hp) (E:XK),cC k (A.deeper (aj4 qual (ah st) s.heap.objs.size f cdv)) →
   ∃t:TSd,tU (mn (CX2 P w Cs) P w K mg base N qual (ah st) f cdv A outer s H E) Cs (fun C x H'=>E (.ref C) x H') (cO st) t/\∀ds M R,ds.length=n->S ds M R->t { nx:=fun _ M'=>R .non M',rt:=R } (gJ N ds) M):a7 P w K mg base (CX2 P w Cs) (k+1) f fd ps (spY K n S Cs):=by
 obtain⟨oc,od,kV,doc,pm,an,cdv,ct,osl,rfl,lk,hcd⟩:=F.ex;refine Bk lk hcd Sc (fun vs H Q E h=>?_) fun A outer s H vs Q E hr h=>?_
 ·obtain⟨ds,M,R,hl,r,_⟩:=h;rw[hn,<-r.length];exact hl
 obtain⟨t,ht,hq⟩:=hbody cdv A outer s H E hr;obtain⟨ds,M,R,hl,r,hrr,q,k',kx⟩:=h;exact⟨_,ht,gJ N ds,M,_,sf r,hrr,hq ds M R hl q,⟨fun Δ' M' σ' H' q' e' hr' _=>k' .non M' .non H' q' e' hr' (by simp[Rep]),fun _ _ _ _ q'=>U1 q',fun _ _ _ _ q'=>U1 q',fun d M' v H' q' e' hr' rv=>k' d M' v H' q' e' hr' rv⟩,kx⟩
end
structure FnY(P:K6) (w:Q7) (K:F0) (mg:Str->Option s0) (base:K5) (x:Str) (k n:Nat) (S:SpD) (Cs:List F9):Prop where
 ex:∃(f:F9) (fd:K4) (ps:List Str),a7 P w K mg base (CX2 P w Cs) k f fd ps (spY K n S Cs)/\mg x=some (.ref f)/\W3 K (.ref f)=true/\cZ K fd ps []
theorem fgY{P:K6}{w:Q7}{K:F0}{mg:Str->Option s0}{base h:K5}{x:Str}{st:aa1}{f:F9}{Cs:List F9}{fd:K4}{S:SpD}{k:Nat}{ps:List Str}{n:Nat}(X:K.In h) (G:h.Ns K2 mg) (i:bF K x st f fd) (o:a7 P w K mg base (CX2 P w Cs) k f fd ps (spY K n S Cs)) (b:cZ K fd ps []):FnY P w K mg base x k n S Cs:=⟨_,_,_,o,P8 X G i.a,i.F.kp,b⟩
section
variable{M:at2}{A:N6}{E:s0->F2->Prop}
variable{nm q nm2 q2:Str}{C N W N2:F9}{bs bm bs2 bm2:List s0}{hdct hdct2:Bool}{sn sn2:List Str}{sub sub2:List s0}{ab ab2:Bool}{col col2:Option Bool}{dd dd2:Option F9}{k0 k1 k2 k3 k5 l0 l1 l2 l3 l5:Option s0}{newId newId2:String}
theorem AA{h:K5}{g:Array am9}{d:Drawn}{t:Nat}{os:OsState}{e:F9}{oe:Obj}{Q:Bool->F2->Prop}
  (hC:h.get? C=some (W0 nm q C N bs bm hdct sn sub ab col dd k0 k1 k2 k3 k5 newId)) (hW:h.get? W=some (W0 nm2 q2 W N2 bs2 bm2 hdct2 sn2 sub2 ab2 col2 dd2 l0 l1 l2 l3 l5 newId2)) (he:h.get? e=some oe) (hcls:oe.cls=.ref C)
  (ic:bm2.contains (.type "BaseException")=true) (hcC:(L7 C::bm).contains (.ref W)=true)
  (hq:Q true ⟨h,g,d,t,os⟩):J4 M A (excMatches (.ref e) (.ref W)) Q E ⟨h,g,d,t,os⟩:=by
 have hcB:(L7 W::bm2).contains (.type "BaseException")=true:=by rw[List.contains_cons,ic,Bool.or_true]
 have f:=tc_notTuple;unfold excMatches
 repeat (first|(with_reducible refine V3 he ?_;rw[hcls])|with_reducible refine V3 hW ?_|with_reducible refine V3 hC ?_|(with_reducible refine ai6 hW ?_;rw[hcB])|(with_reducible refine ai6 hC ?_;rw[hcC])|wp_step)
 exact hq
end
def ExX(x:Option F9) (C a:F9) (h:K5):Prop:=∃o,h.get? a=some o/\ExG x C o
def ExY(Cs:List F9) (i:Nat) (x:Option F9) (a:F9) (h:K5):Prop:=∃C,Cs[i]?=some C/\ExX x C a h
theorem BX{P:K6}{w:Q7}{H:Hp}{h:K5}{Cs:List F9}{i:Nat}{x:Option F9}{a:F9}(z:ExY Cs i x a h):cj P w H h a (.ext (ExY Cs i x a)):=by
 obtain⟨C,hC,o,g,r⟩:=z;exact⟨⟨C,hC,o,g,r⟩,⟨_,g⟩,fun h1 h2 ⟨C,hC,o,q,r⟩ k=>⟨C,hC,o,k _ q,r⟩⟩
def exY(Cs:List F9) (i:Nat) (x:Option F9) (a:F9):HD:=.ext (fun _=>ExY Cs i x a) []
section
variable{X:Cx}{af:List (F9×Obj)}{σ:St}{H1 H':Hp}{s1 s':F2}{C a T:F9}{y:Option F9}{Cs:List F9}{ci:Nat}
theorem zA{xW n:Str}{W:F9}{p pos:Pos}{b0:aa1}{suite:List aa1}{Q:Flow->F2->Prop}{E':s0->F2->Prop}(I1:Inv X af σ H1 s1) (hsk:X.stack=X.env::X.outer) (hfm:X.env.frame=some X.env.locals) (hg:Gl X xW) (hm:X.mg xW=some (.ref W))
  (lC:∃nm q N bs bm hd sn sub ab col dd k0 k1 k2 k3 k5 newId,X.K.lookup C=some (W0 nm q C N bs bm hd sn sub ab col dd k0 k1 k2 k3 k5 newId)/\(L7 C::bm).contains (.ref W)=true)
  (lW:∃nm q N bs bm hd sn sub ab col dd k0 k1 k2 k3 k5 newId,X.K.lookup W=some (W0 nm q W N bs bm hd sn sub ab col dd k0 k1 k2 k3 k5 newId)/\bm.contains (.type "BaseException")=true)
  (os:s'.os=s1.os) (bare:am5 s'.gens) (un:Un (frs X.stack) [] H1 H' s1.heap s'.heap) (hok:HOk X.prog X.w H' s'.heap) (ha:s1.heap.get? a=none) (hna:H' a=none) (hnT:H' T=none) (hCs:Cs[ci]?=some C) (fl:DC y C a T s1.heap s'.heap) (hex:X.ex=[])
  (k:∀ h,Inv X af σ (upd H' a (.ext (ExY Cs ci y a))) { s' with heap:=h } → J4 (M0 X.prog X.w) (X.A.mark (some (.ref a))) (storeName X.env n (.ref a)) (fun _ s2 => J4 (M0 X.prog X.w) (X.A.mark (some (.ref a))) (execs (b0 :: suite) X.env)
   (fun f s3=>J4 (M0 X.prog X.w) X.A (do bindName X.env n .none;unbindBehindTheSuite X.env n pos) (fun _ s4=>Q f s4) E' s3) (fun _ _=>False) s2) (fun _ _=>False) { s' with heap:=h }) (hdb:(xW==("__debug__":Str))=false:=by decide) :
  J4 (M0 X.prog X.w) X.A (aq9 (.ref a) X.env) (fun _ s2=>J4 (M0 X.prog X.w) X.A (setFlight (.ref a) none) (fun _ s3=>J4 (M0 X.prog X.w) X.A (handleBy (.ref a) X.env [.ExceptHandler (some (.Name xW p)) (some n) (b0::suite) pos]) Q E' s3) E' s2) E' s':=by
 obtain⟨oe,vs,oT,ts,f1,f2,f3,f4,f5,f6,f7,f8,f9⟩:=fl;have I':Inv X af σ H' s':=I1.call' (ch:=[]) os un hok bare fun b z=>absurd z (by simp);have hst:=I'.stack;have hfr:∀b∈frs X.stack,∃o,s'.heap.get? b=some o/\∀vs:Array s0,o.data≠ai3 vs:=fun b hb=>(hst.mem hb).2;have hA:X.A.frames=some (X.env::X.outer):=by rw[<-hsk];exact I1.ok.frames
 refine Fe lS (base:=PySem.W.hideAll s'.heap (a::T::frs X.stack)) hA (by rw[<-hsk];exact PySem.W.funFrames_hide hst fun env he b hb=>O0 _ (O0 _ (W4.mpr ⟨env,he,hb⟩))) hfm
  ⟨oe,vs,T,oT,ts,f1,f2,f3,f4,ah5 _ (by simp),f6,f7,f8,f9⟩ (fun b o e=>PySem.W.of_hideAll _ e) (ah5 _ (by simp)) fun h1 g=>uZ g.1 g.2.1 g.2.2.1 fun h2 fly2=>?_
 have up1:=g.2.2.2;obtain⟨st2,ff2,⟨oe2,vs2,T2,oT2,ts2,t1,t2,t3,t4,t5,t6,t7,t8,t9⟩,up2⟩:=fly2;have kp2:∀b o,s'.heap.get? b=some o->b∉[a,T]->b∉frs X.stack->h2.get? b=some o:=fun b o e hz hf=>st2 b o (ae2 _ e fun z=>by
  rcases J3.mp z with z|z
  ·exact hz (by simp[z])
  rcases J3.mp z with z|z
  ·exact hz (by simp[z])
  ·exact hf z)
 have fr2:∀b o,b∈frs X.stack->s'.heap.get? b=some o->∃sl,h2.get? b=some { o with slots:=sl }:=fun b o hb e=>by
  obtain⟨o',e',d'⟩:=hfr b hb;rw[e]at e';cases e';obtain⟨sl,q1⟩:=up1 b o e d';obtain⟨sl',q2⟩:=up2 b _ q1 d';exact⟨sl',q2⟩
 have hz2:∀b∈[a,T],s1.heap.get? b=none/\H' b=none:=fun b hb=>by
  rcases J3.mp hb with rfl|hb
  ·exact⟨ha,hna⟩
  ·obtain rfl:=J5.mp hb;exact⟨f5,hnT⟩
 have I2:=rY I1 os bare un hok kp2 fr2 hz2;obtain⟨nm,q,N,bs,bm,hd,sn,sub,ab,col,dd,k0,k1,k2,k3,k5,newId,lC,hbm⟩:=lC;obtain⟨nm',q',N',bs',bm',hd',sn',sub',ab',col',dd',k0',k1',k2',k3',k5',newId',lW,hbm'⟩:=lW;refine wpAny_handleBy_cons (codeAny_handlers_test (Calls.Name_function_global I2.ok.kind hg (Calls.loadGlobal_global (by rw[I2.ok.glob];exact I2.mod.glob.keeps I2.bk) hm ?_) hdb)) (by intro z;cases z);refine AA (I2.kIn _ _ lC) (I2.kIn _ _ lW) t1 t2.1.1 hbm' hbm ?_;refine codeAny_handlers_suite_as ?_;have hts:3<ts2.size:=(R1.mp t9).1;refine wpAny_setFlight_none t1 t3 t4 t7 t8 hts ?_;have hT2f:T2∉frs X.stack:=fun hb=>by
  obtain⟨o',e',d'⟩:=hfr T2 hb;obtain⟨sl,q2⟩:=fr2 T2 o' hb e';rw[t7]at q2;cases q2;exact d' _ t8
 have hT2:T2=T∨s'.heap.get? T2=none:=by
  by_cases z:T2=T
  ·exact .inl z
  ·right;cases e:s'.heap.get? T2 with
   |none=>rfl
   |some o =>
    rw[ae2 _ e fun z'=>by
     rcases J3.mp z' with z'|z'
     ·exact t6 z'
     rcases J3.mp z' with z'|z'
     ·exact z z'
     ·exact hT2f z']at t5
    cases t5
 have hz3:∀b∈[a,T,T2],s1.heap.get? b=none/\H' b=none:=fun b hb=>by
  rcases J3.mp hb with rfl|hb
  ·exact⟨ha,hna⟩
  rcases J3.mp hb with rfl|hb
  ·exact⟨f5,hnT⟩
  obtain rfl:=J5.mp hb;rcases hT2 with rfl|z
  ·exact⟨f5,hnT⟩
  ·constructor
   ·cases e:s1.heap.get? b with
    |none=>rfl
    |some o =>
     obtain⟨o1,e1⟩:=un.there b o e (by simp);rw[z]at e1;cases e1
   ·cases e:H' b with
    |none=>rfl
    |some o =>
     obtain⟨o1,e1⟩:=(hok b o e).is;rw[z]at e1;cases e1
 have I3:=rY (h:=h2.update T2 (V9 fun x=>x.setIfInBounds 3 L8)) I1 os bare un hok (Z:=[a,T,T2]) (fun b o e hz hf=>by
   rw[N3 _ _ (fun z=>hz (by simp[z]))];exact kp2 b o e (fun z=>hz (by
    rcases J3.mp z with z|z
    ·simp[z]
    ·simp[J5.mp z])) hf)
  (fun b o hb e => by
   rw[N3 _ _ (fun z=>hT2f (by rw[z];exact hb))];exact fr2 b o hb e) hz3
 have some1:∀{b o},s1.heap.get? b=some o->b≠a:=fun e z=>by rw[z,ha]at e;cases e
 have hx3:ExY Cs ci y a (h2.update T2 (V9 fun x=>x.setIfInBounds 3 L8)):=⟨C,hCs,oe2,by rw[N3 _ _ t6];exact t1,t2⟩;have I4:=I3.track (a:=a) (φ:=ExY Cs ci y a) hna (BX hx3) (by
   cases e:X.s₀.heap.get? a with
   |none=>rfl
   |some o =>
    obtain⟨o1,e1⟩:=I1.base.there a o e (by rw[hex];simp);rw[ha]at e1;cases e1) (by
   obtain⟨m,⟨o,es,ep,g,_⟩,_⟩:=I1.loc;exact(some1 g).symm) (fun x c e=>by
   obtain⟨v,o,g,_⟩:=I1.cell x c e;exact some1 g) (fun p hp=>some1 (I1.pin p hp).1)
 exact Q8 (k _ I4) (fun _ s2 z=>Q8 z (fun f s3 z=>z) fun _ _ z=>z.elim) fun _ _ z=>z.elim
end
abbrev TXd:=DE->DH->(D->DH->Prop)->(Nat->Option F9->DH->Prop)->Prop
abbrev TYd:=dQ->(Nat->Option F9->DH->Prop)->DE->DH->Prop
def yI(X:Cx) (Cs:List F9) (af:List (F9×Obj)) (σ:St) (M:DH) (H:Hp) (XH:Nat->Option F9->DH->Prop) (e:s0) (s':F2):Prop :=
 ∃s1 H1,Inv X af σ H1 s1/\CX2 X.prog X.w Cs X.stack H1 s1 (fun c x H'=>∃(i:Nat) (C:F9) (M':DH),c=.ref C/\Cs[i]?=some C/\XH i x M'/\Ext M H M' H'/\HR X.K M' H') e s'
def PXe(X:Cx) (Cs:List F9) (e:O3) (t:TXd):Prop:=∀(af:List (F9×Obj)) (s:F2) (σ:St) (H:Hp) (QV:VK) (Δ:DE) (M:DH) (Q:D->DH->Prop) (XH:Nat->Option F9->DH->Prop),Inv X af σ H s->SR X.K M H σ Δ->HR X.K M H->t Δ M Q XH ->
 (∀d M' v H',Q d M'->Ext M H M' H'->HR X.K M' H'->Rep X.K M' H' d v->QV v H')->J4 (M0 X.prog X.w) X.A (ab7 e X.env) (EP X af σ QV) (yI X Cs af σ M H XH) s
def PTy(X:Cx) (Cs:List F9) (st:aa1) (t:TYd):Prop:=∀(af:List (F9×Obj)) (s:F2) (σ:St) (H:Hp) (D:nH) (Δ:DE) (M:DH) (E:dQ) (XH:Nat->Option F9->DH->Prop),Inv X af σ H s->SR X.K M H σ Δ->HR X.K M H->t E XH Δ M->UpE X.K E D M H ->
 J4 (M0 X.prog X.w) X.A (exec st X.env) (SP X af D) (yI X Cs af σ M H XH) s
theorem yI.ext{X:Cx}{Cs:List F9}{af:List (F9×Obj)}{σ:St}{M M1:DH}{H H1:Hp}{XH:Nat->Option F9->DH->Prop}{e:s0}{s':F2}(x:Ext M H M1 H1) (h:yI X Cs af σ M1 H1 XH e s'):yI X Cs af σ M H XH e s':=by
 obtain⟨s1,H2,I,i,C,y,a,T,H',h1,h2,h3,h4,h5,h6,h7,h8,h9,h10,j,C',M',q1,q2,q3,q4,q5⟩:=h;exact⟨s1,H2,I,i,C,y,a,T,H',h1,h2,h3,h4,h5,h6,h7,h8,h9,h10,j,C',M',q1,q2,q3,x.trans q4,q5⟩
def dXC(n:Nat) (S:SpD) (t:TAd):TXd:=fun Δ M Q XH=>t Δ M fun ds M1=>ds.length=n/\S ds M1 fun d M2=>(isX d=none->Q d M2)/\∀i x,isX d=some (i,x)->XH i x M2
section
variable{X:Cx}{Cs:List F9}{e c:O3}{es:List O3}{t:TAd}{S:SpD}{fn xW nm:Str}{W:F9}{tb:F9->TSd}{te:TXd}{st sa sb:aa1}{ta tt:TYd}{tc:TTd}{pos:Pos}
theorem zy{k n:Nat}{p2 p3:Pos}(FX:FnY X.prog X.w X.K X.mg X.base fn k n S Cs) (hr:cC k X.A) (hgf:Gl X fn) (hno:∀e s,¬ X.xe e s) (ha:QAd X (e::es) t)
  (hdf:(fn==("__debug__":Str))=false:=by decide) (he:F8 (e::es) X.env=(false,ab7 e X.env)::F8 es X.env:=by rfl) (hpl:(V4 p3 (F8 es X.env)).any (·.1)=false:=by rfl) :
  PXe X Cs (.Call (.Name fn p2) (e::es) [] p3) (dXC n S t):=by
 rw[QAd.eq]at ha;intro af s σ H QV Δ M Q XH I sr hrr q kk;obtain⟨f,fd,ps,F,hmf,hkf,hbf⟩:=FX.ex;refine U0 (jV I hgf hmf ?_ hdf);refine PySem.W.callWith_K (h₀:=X.base) I.ok.mod.kin hkf (Q8 (ha p3 af s σ H (fun vs H1=>∃ds M1,ds.length=n/\S ds M1 (fun d M2=>(isX d=none->Q d M2)/\∀i x,isX d=some (i,x)->XH i x M2)/\Ext M H M1 H1/\HR X.K M1 H1/\ar X.K M1 H1 ds vs) I
  ⟨Δ,M,_,sr,hrr,q,fun ds M1 vs H1 ⟨hl,q1⟩ e1 hr1 rl=>⟨ds,M1,hl,q1,e1,hr1,rl⟩⟩) (fun us s1 hs=>⟨?_,?_⟩) fun e s' z=>(hno e s' z).elim) he hpl
 ·obtain⟨vs,H1,I1,_⟩:=hs;exact I1.kIn
 obtain⟨vs,H1,I1,rv,ds,M1,hl,q1,e1,hr1,rl⟩:=hs;have hsp:spY X.K n S Cs vs H1 QV (fun c x H'=>∃(i:Nat) (C:F9) (M':DH),c=.ref C/\Cs[i]?=some C/\XH i x M'/\Ext M H M' H'/\HR X.K M' H') :=
  ⟨ds,M1,_,hl,rl,hr1,q1,fun d M' v H' q' e' hr' rv'=>kk d M' v H' (q'.1 (zj rv')) (e1.trans e') hr' rv',fun i x C M' H' q' hC e' hr'=>⟨i,C,M',rfl,hC,q'.2 i x sH,e1.trans e',hr'⟩⟩
 have hpl2:(us++[]).length=ps.length:=by
  rw[ab1,<-rv.length];exact F.len _ _ _ _ hsp
 refine af4 (aa4 (F.run X.A X.stack s1 H1 ⟨us,[]⟩ us vs _ _ hr I1.env0 (by simpa using hbf s1 us I1.kIn hpl2) rv hsp) fun r s' hq=>?_);cases r with
 |error e=>exact⟨s1,H1,I1,hq⟩
 |ok fl =>
  cases fl with
  |ret u=>exact I1.after hq
  |next=>exact U1 hq
  |brk=>exact U1 hq
  |cont=>exact U1 hq
def dYE(te:TXd):TYd:=fun E XH Δ M=>te Δ M (fun _ M2=>E.nx Δ M2) XH
theorem z8(he:PXe X Cs e te) (hs:ah9 e none pos.line X.env=af5 false:=by rfl):PTy X Cs (.Expr e pos) (dYE te):=by
 intro af s σ H D Δ M E XH I sr hr q kk;exact wpAny_Expr_any (thn (he af s σ H (fun v H2=>D.nx σ H2) Δ M _ XH I sr hr q fun d M' v H' q' e' hr' rv'=>kk.nx _ M' _ H' q' e' hr' (sr.ext e')) fun v s1 hup=>hup.el fun x H1 I1 r1 q1=>⟨σ,H1,I1,q1⟩) I.quiet hs
def E6(Cs:List F9) (j:Nat) (tt:TYd) (tb:F9->TSd):TSd:=fun E Δ M=>tt E (fun i x M2=>∀a,M2 a=none->tb a (BS j E) (Δ.set j (some (.ref a))) (av M2 a (exY Cs i x a))) Δ M
theorem Ck{j:Nat}{p5 p9 p10:Pos}{b0:aa1}{suite:List aa1}(hno:∀e s,¬ X.xe e s) (hsk:X.stack=X.env::X.outer) (hfm:X.env.frame=some X.env.locals) (hex:X.ex=[])
  (hg:Gl X xW) (hm:X.mg xW=some (.ref W))
  (lC:∀C∈Cs,∃nm q N bs bm hd sn sub ab col dd k0 k1 k2 k3 k5 newId,X.K.lookup C=some (W0 nm q C N bs bm hd sn sub ab col dd k0 k1 k2 k3 k5 newId)/\(L7 C::bm).contains (.ref W)=true)
  (lW:∃nm q N bs bm hd sn sub ab col dd k0 k1 k2 k3 k5 newId,X.K.lookup W=some (W0 nm q W N bs bm hd sn sub ab col dd k0 k1 k2 k3 k5 newId)/\bm.contains (.type "BaseException")=true)
  (hN:X.N.Nodup) (hj:X.N[j]?=some nm) (hy:X.env.scope.names.lookup nm=some .local) (ha:PTy X Cs st tt) (hb:∀a,QSs (X.caught a) (b0::suite) (tb a)) (hdb:(xW==("__debug__":Str))=false:=by decide) :
  QSd X (.Try [st] [.ExceptHandler (some (.Name xW p5)) (some nm) (b0::suite) p9] [] [] p10) (E6 Cs j tt tb):=by
 simp only[QSd.eq,QSs.eq]at *
 intro af s σ H D I hh;obtain⟨Δ,M,E,sr,hrr,q,kk⟩:=hh;refine wpAny_Try_except (wpAny_execs_cons (Q8 (ha af s σ H D Δ M E _ I sr hrr q kk) (fun f s1 z=>?_) fun ev s' z=>?_))
 ·cases f with
  |next=>exact aj1 (aj1 z)
  |ret v=>exact z
  |brk=>exact z
  |cont=>exact z
 ·obtain⟨s1,H1,I1,i,C,y,a,T,H',hCs,rfl,os,bare,un,hok,h0,hna,hnT,fl,j',C',M2,eC,hC',qx,e2,hr2⟩:=z;cases eC;refine zA I1 hsk hfm hg hm (lC C (R4 hCs)) lW os bare un hok h0 hna hnT hC' fl hex (fun h I3=>?_) hdb;refine jS I3 hN hj (.inl hy) (v:=.ref a) rfl (fun s2 I4=>?_) (.inr hy);have J:Inv (X.caught a) af (σ.set j (some (.ref a))) (upd H' a (.ext (ExY Cs j' y a))) s2:=⟨⟨I4.ok.mod,I4.ok.kind,I4.ok.glob,I4.ok.blt,I4.ok.above,I4.ok.inj,I4.ok.has,I4.ok.cab,fun z=>(by cases z),I4.ok.frames,I4.ok.stk,I4.ok.exf,I4.ok.bs,I4.ok.bsz,I4.ok.noex,I4.ok.exfs,I4.ok.funs,I4.ok.frf⟩,I4.os,I4.bare,I4.base,I4.loc,I4.cell,I4.free,I4.freeC,I4.pin,I4.hok,I4.len⟩;have e3:Ext M2 H' (av M2 a (exY Cs j' y a)) (upd H' a (.ext (ExY Cs j' y a))):=Ext.own hna;have hr3:HR X.K (av M2 a (exY Cs j' y a)) (upd H' a (.ext (ExY Cs j' y a))):=hr2.put e3 ⟨[],bh,by simp[ar]⟩;have e4:=e2.trans e3;have sr4:SR X.K (av M2 a (exY Cs j' y a)) (upd H' a (.ext (ExY Cs j' y a))) (σ.set j (some (.ref a))) (Δ.set j (some (.ref a))):=(sr.ext e4).set j (by simp[Rep])
  let D2:nH:={ nx:=fun σ' H'=>D.nx (σ'.set j none) H',bk:=fun σ' H'=>D.bk (σ'.set j none) H',ct:=fun σ' H'=>D.ct (σ'.set j none) H',rt:=D.rt }
  have up2:UpE X.K (BS j E) D2 (av M2 a (exY Cs j' y a)) (upd H' a (.ext (ExY Cs j' y a))) :=
   ⟨fun Δ' M' σ' H'' ⟨M3,hle,q'⟩ e' hr' sr'=>kk.nx _ M3 _ H'' q' ((e4.trans e').trans (Ext.le hle)) (hr'.le hle) ((sr'.ext (Ext.le hle)).setN j),fun Δ' M' σ' H'' ⟨M3,hle,q'⟩ e' hr' sr'=>kk.bk _ M3 _ H'' q' ((e4.trans e').trans (Ext.le hle)) (hr'.le hle) ((sr'.ext (Ext.le hle)).setN j),
    fun Δ' M' σ' H'' ⟨M3,hle,q'⟩ e' hr' sr'=>kk.ct _ M3 _ H'' q' ((e4.trans e').trans (Ext.le hle)) (hr'.le hle) ((sr'.ext (Ext.le hle)).setN j),fun d M' v H'' ⟨M3,hle,q'⟩ e' hr' rv'=>kk.rt d M3 v H'' q' ((e4.trans e').trans (Ext.le hle)) (hr'.le hle) (rv'.ext (Ext.le hle))⟩
  refine Q8 (hb a af s2 _ _ D2 J ⟨_,_,_,sr4,hr3,qx a (hr2.fresh hna),up2⟩) (fun fl s3 z=>?_) fun _ _ z=>z;have back:∀{σ2 H2},Inv (X.caught a) af σ2 H2 s3->Inv X af σ2 H2 s3:=fun J2=>⟨I.ok,J2.os,J2.bare,J2.base,J2.loc,J2.cell,J2.free,J2.freeC,J2.pin,J2.hok,J2.len⟩;cases fl with
  |next=>obtain⟨σ2,H2,J2,q2⟩:=z;exact lJ (back J2) hN hj hy fun s4 I5=>⟨_,H2,I5,q2⟩
  |brk=>obtain⟨σ2,H2,J2,q2⟩:=z;exact lJ (back J2) hN hj hy fun s4 I5=>⟨_,H2,I5,q2⟩
  |cont=>obtain⟨σ2,H2,J2,q2⟩:=z;exact lJ (back J2) hN hj hy fun s4 I5=>⟨_,H2,I5,q2⟩
  |ret u=>obtain⟨v2,σ2,H2,J2,r2,q2⟩:=z;exact lJ (back J2) hN hj hy fun s4 I5=>⟨v2,_,H2,I5,r2,q2⟩
end
theorem ExY.c{Cs:List F9}{i:Nat}{y:Option F9}{a:F9}{h:K5}(z:ExY Cs i y a h):∃C,Cs[i]?=some C/\pj C a h:=by
 obtain⟨C,hC,o,g,r,_⟩:=z;exact⟨C,hC,o,g,r⟩
def zf(Cs:List F9) (bs:List Bool) (ta:TEd):TEd:=fun Δ M Q=>ta Δ M fun d M1=>∃a i y,d=.ref a/\M1 a=some (exY Cs i y a)/\Q (.bl (bs.getD i false)) M1
section
variable{X:Cx}{a:O3}{ta:TEd}{pos p p2:Pos}{Cs:List F9}{bs:List Bool}{T:Str}
theorem rK{c:s0}{vc:V}(Z:∀C∈Cs,vm X.K C) (e:∀(i:Nat) C,Cs[i]?=some C->O8 X.K (.ref C) c=some (bs.getD i false)) (hv:∀u,aX vc u->u=c):dj X (.builtin "isinstance") (fun xs H Q=>∃x i y,xs=[.ref x,vc]/\H x=some (.ext (ExY Cs i y x))/\Q (.bl (bs.getD i false)) H):=by
 intro af s σ H xs us Q I rv h;obtain⟨x,i,y,rfl,hx,q⟩:=h;obtain⟨u1,u2,rfl,r1,r2⟩:=aE.two rv;cases(show u1=L7 x from r1);cases hv _ r2;obtain⟨C,hC,hc⟩:=(I.hok x _ hx).1.c;have z:=Z C (R4 hC);exact PySem.W.kia_one (zb z.ga z.gk z.mb z.cl z.ha z.hn z.tk z.mo) I.kIn hc (e i C hC) (fun z=>nomatch z) fun tk=>⟨.bl (bs.getD i false),H,I.tok tk,rfl,q⟩
theorem EF{C':F9}(Z:∀C∈Cs,vm X.K C) (hg:Gl X "isinstance") (hm:X.mg "isinstance"=none) (hg2:Gl X T) (hm2:X.mg T=some (.ref C')) (e:∀(i:Nat) C,Cs[i]?=some C->O8 X.K (.ref C) (.ref C')=some (bs.getD i false)) (ha:QEd X a ta) (hd2:(T==("__debug__":Str))=false:=by decide)
  (hs:F8 [a,.Name T p2] X.env=(false,ab7 a X.env)::F8 [.Name T p2] X.env:=by rfl) (hs2:F8 [.Name T p2] X.env=(false,ab7 (.Name T p2) X.env)::F8 [] X.env:=by rfl) (hpl:(V4 pos (F8 [.Name T p2] X.env)).any (·.1)=false:=by rfl) :
  QEd X (.Call (.Name "isinstance" p) [a,.Name T p2] [] pos) (zf Cs bs ta):=by
 rw[QEd.eq]at *
 refine(jO (rK (vc:=.ref C') Z e fun u h=>h) hg hm (by kernel_rfl) (cB ha (cB (pC (v:=.ref C') hg2 hm2 rfl hd2) gx hs2) hs) (by decide) (by decide) hs hpl).conv fun σ H Q hh=>?_;obtain⟨Δ,M,R,sr,hr,q,k⟩:=hh;refine⟨Δ,M,_,sr,hr,q,fun d M1 v H1 ⟨x,i,y,ed,em,q1⟩ e1 hr1 rv=>?_⟩;subst ed;obtain rfl:v=.ref x:=by simpa only[Rep]using rv
 obtain⟨vs,hx,_⟩:=hr1 x _ em;exact⟨x,i,y,rfl,hx,k _ M1 _ H1 q1 e1 hr1 (by simp[Rep])⟩
theorem gF(Z:∀C∈Cs,vm X.K C) (hg:Gl X "isinstance") (hm:X.mg "isinstance"=none) (hg2:Gl X T) (h:∃C',X.mg T=some (.ref C')/\∀(i:Nat) C,Cs[i]?=some C->O8 X.K (.ref C) (.ref C')=some (bs.getD i false)) (ha:QEd X a ta) (hd2:(T==("__debug__":Str))=false:=by decide)
  (hs:F8 [a,.Name T p2] X.env=(false,ab7 a X.env)::F8 [.Name T p2] X.env:=by rfl) (hs2:F8 [.Name T p2] X.env=(false,ab7 (.Name T p2) X.env)::F8 [] X.env:=by rfl) (hpl:(V4 pos (F8 [.Name T p2] X.env)).any (·.1)=false:=by rfl) :
  QEd X (.Call (.Name "isinstance" p) [a,.Name T p2] [] pos) (zf Cs bs ta):=by
 obtain⟨C',h1,h2⟩:=h;exact EF Z hg hm hg2 h1 h2 ha hd2 hs hs2 hpl
theorem Ca{Tn:String}(Z:∀C∈Cs,vm X.K C) (hg:Gl X "isinstance") (hm:X.mg "isinstance"=none) (hg2:Gl X T) (hm2:X.mg T=none) (hv2:ac1 T=some (.type Tn)) (e:∀(i:Nat) C,Cs[i]?=some C->O8 X.K (.ref C) (.type Tn)=some (bs.getD i false)) (ha:QEd X a ta) (hn2:T≠"__name__":=by decide) (hd2:(T==("__debug__":Str))=false:=by decide)
  (hs:F8 [a,.Name T p2] X.env=(false,ab7 a X.env)::F8 [.Name T p2] X.env:=by rfl) (hs2:F8 [.Name T p2] X.env=(false,ab7 (.Name T p2) X.env)::F8 [] X.env:=by rfl) (hpl:(V4 pos (F8 [.Name T p2] X.env)).any (·.1)=false:=by rfl) :
  QEd X (.Call (.Name "isinstance" p) [a,.Name T p2] [] pos) (zf Cs bs ta):=by
 rw[QEd.eq]at *
 refine(jO (rK (vc:=.ty Tn) Z e fun u h=>h) hg hm (by kernel_rfl) (cB ha (cB (ui (v:=.ty Tn) hg2 hm2 hv2 rfl hn2 hd2) gx hs2) hs) (by decide) (by decide) hs hpl).conv fun σ H Q hh=>?_;obtain⟨Δ,M,R,sr,hr,q,k⟩:=hh;refine⟨Δ,M,_,sr,hr,q,fun d M1 v H1 ⟨x,i,y,ed,em,q1⟩ e1 hr1 rv=>?_⟩;subst ed;obtain rfl:v=.ref x:=by simpa only[Rep]using rv
 obtain⟨vs,hx,_⟩:=hr1 x _ em;exact⟨x,i,y,rfl,hx,k _ M1 _ H1 q1 e1 hr1 (by simp[Rep])⟩
structure DD(K:F0) (C:F9) (f:Str):Prop where
 hd:PySem.W.hasDictIn K C=true
 fn:S9 K (.ref C) f=some none
def Ed(Cs:List F9) (i:Nat) (f:Str) (ta:TEd):TEd:=fun Δ M Q=>ta Δ M fun d M1=>∃a dd z,d=.ref a/\M1 a=some (exY Cs i (some dd) a)/\M1 dd=some (nK f dd z)/\Q z M1
theorem EY(i:Nat) {C:F9}{f:Str}(hC:Cs[i]?=some C) (Z:vm X.K C) (G:DD X.K C f) (he:QEd X a ta) (hb:ae4 a f X.env (ab7 a X.env)=ab7 a X.env:=by rfl):QEd X (.Attribute a f pos) (Ed Cs i f ta):=by
 rw[QEd.eq]at *
 intro af s σ H Q I hh;obtain⟨Δ,M,R,sr,hr,q,k⟩:=hh;refine A0 hb (thn (he af s σ H (fun v H1=>∃x dd z w M1,v=.ref x/\H1 x=some (.ext (ExY Cs i (some dd) x))/\H1 dd=some (.ext (lr f dd w))/\Ext M H M1 H1/\HR X.K M1 H1/\Rep X.K M1 H1 z w/\R z M1) I ⟨Δ,M,_,sr,hr,q,fun d M1 v H1 ⟨x,dd,z,ed,em,ef,q1⟩ e1 hr1 rv=>?_⟩) fun u s1 ⟨v,H1,I1,rv,x,dd,z,w,M1,ev,hx,hdd,e1,hr1,rz,q1⟩=>?_)
 ·subst ed;obtain rfl:v=.ref x:=by simpa only[Rep]using rv
  obtain⟨vs,hx,_⟩:=hr1 x _ em;obtain⟨ws,hw,rw'⟩:=hr1 dd _ ef;simp only[ar]at rw';obtain⟨w,ws',rfl,r1,rfl⟩:=rw';exact⟨x,dd,z,w,M1,rfl,hx,hw,e1,hr1,r1,q1⟩
 ·subst ev;obtain rfl:u=L7 x:=rv;obtain⟨C',hC',o,g,r⟩:=(I1.hok x _ hx).1;rw[hC]at hC';cases hC';obtain⟨o2,u2,g2,l2,r2⟩:=(I1.hok dd _ hdd).1;obtain⟨⟨hc,vs,hda,_⟩,hdi⟩:=r;have J:PySem.W.InstAt s1.heap x o C (some o2):=⟨g,hc,by unfold PySem.W.notCls;rw[hda],by rw[hdi];exact g2⟩;exact C7 I1.kIn J Z.ga Z.gk Z.mb ⟨o,g,hc,vs,hda,by assumption⟩ (PySem.W.findObj_own G.hd G.fn rfl l2) (vF r2) ⟨w,H1,I1.tok _,r2,k z M1 w H1 q1 e1 hr1 rz⟩
end
theorem ix1{p:Nat->F9->Prop}{a:F9}(h0:p 0 a):∀(i:Nat) C,[a][i]?=some C->p i C
 |0,_,e=>by cases e;exact h0
 |_+1,_,e=>by simp at e
theorem al1{p:F9->Prop}{a:F9}(h0:p a):∀C∈[a],p C:=fun C h=>by cases J5.mp h;exact h0
end L2
namespace L2
open PySem PySem.Spec PySem.Calls PyProof.Rows PySem.SeqAt
end L2
namespace L2
open PySem PySem.Spec PySem.Calls PyProof.Rows
section
variable{X:Cx}
def Er:D->Option D
 |.int i=>if i.natAbs.log2<1920 then some (.str (at3 i))else none
 |_=>none
theorem yx{i:Int}:Er (.int i)=if i.natAbs.log2<1920 then some (.str (at3 i))else none:=rfl
theorem Cg:cw X (.type "str") (o5 Er):=cw.of pW fun H M xs ds dz Q hr rp e q=>by
 obtain⟨d,rfl,e0⟩:=eM e;clear e;have e:=e0;clear e0;obtain⟨v,rfl,r⟩:=oz rp;cases d with
 |int i =>
  rw[yx]at e
  by_cases h:i.natAbs.log2<1920
  ·rw[if_pos h]at e;cases e;exact⟨i,by rw[iE r],h,q _ H (Ext.refl _ _) hr (by simp[Rep])⟩
  ·rw[if_neg h]at e;cases e
 |_=>cases e
end
end L2
namespace L2
open PySem PySem.Spec PyProof.Rows
section
variable{X:Cx}
end
end L2
namespace L2
open PySem PySem.Spec PyProof.Rows PySem.Calls
section
variable{X:Cx}{af:List (F9×Obj)}{s:F2}{σ:St}{H:Hp}{M:DH}
theorem u0{a:O3}{ta:TEd}{R:D->DH->Prop}{Q:s0->F2->Prop}{p pos:Pos}(hc:X.calm=true) (hg:Gl X "set") (hm:X.mg "set"=none) (ha:PEd X a ta) (he:F8 [a] X.env=(false,ab7 a X.env)::F8 [] X.env)
  (hpl:(V4 pos (F8 [] X.env)).any (·.1)=false) (I:Inv X af σ H s) (h:up X.K ta σ H (fun v H1=>∃(x:D) (M1:DH),R x M1/\HR X.K M1 H1/\aY X.K M1 H1 (rdM M1 x) v/\Ext M H M1 H1))
  (hx:∀x M1,R x M1->∃xs:List Str,rdM M1 x=.lst (xs.map D.str)/\xs.length<4000)
  (k:∀(c:F9) s' x M1 H1 xs,Inv X af σ H1 s'->R x M1->rdM M1 x=.lst (xs.map D.str)->HR X.K M1 H1->Ext M H M1 H1->fG X.prog X.w s'.heap c (cp xs)->j4 X af H1 c->Q (.ref c) s') :
  J4 (M0 X.prog X.w) X.A (ab7 (.Call (.Name "set" p) [a] [] pos) X.env) Q X.xe s:=by
 refine U0 (gN I hg hm (u:=.type "set") (by kernel_rfl) ?_ (by decide) (by decide));refine aa9 ?_ he hpl;rw[he];show J4 _ _ (as4 ((false,ab7 a X.env)::V4 pos (F8 [] X.env))) _ _ s;refine ac2 (thn (ha af s σ H _ I h) fun u s1 ⟨v,H1,I1,r1,x,M1,q1,hr1,rv,e1⟩=>?_);refine aa5 ?_;obtain⟨xs,ex,hl⟩:=hx x M1 q1;rw[ex]at rv;obtain⟨l,vs,rfl,sq,rl⟩:=rv;cases r1;obtain⟨its,rvs,pl,hz⟩:=I1.list (SqL.of sq);have hn:xs.length=its.length:=by rw[<-rvs.length,<-rl.length,F3]
 have hb:xs.length+1<ac6:=by have e:ac6=4096:=rfl;rw[e];lia
 refine nZ (I1.ok.hd hc) pl.isList (by simp[hn]) (fun i hi=>?_) hb fun h' tk hS kp=>?_
 ·obtain⟨t,g⟩:=De rl rvs hi;exact⟨t,by simpa using g⟩
 ·exact k _ _ x M1 H1 xs (I1.kept kp) q1 ex hr1 e1 hS (I1.fpOk (F7 _) (I1.hok.fresh (F7 _)))
end
section
variable{X:Cx}
def ES(ta:TEd):TEd:=fun Δ M Q=>ta Δ M fun x M1=>∃xs:List Str,rdM M1 x=.lst (xs.map D.str)/\xs.length<4000/\(cp xs).length<63/\Q (.lst ((cG (cp xs)).map D.str)) M1
theorem Ez{a:O3}{ta:TEd}{p0 p1 q0 q1:Pos}(hc:X.calm=true) (hgS:Gl X "sorted") (hmS:X.mg "sorted"=none) (hg:Gl X "set") (hm:X.mg "set"=none) (ha:QEd X a ta)
  (he0:F8 [.Call (.Name "set" p1) [a] [] q1] X.env=(false,ab7 (.Call (.Name "set" p1) [a] [] q1) X.env)::F8 [] X.env:=by rfl)
  (he1:F8 [a] X.env=(false,ab7 a X.env)::F8 [] X.env:=by rfl)
  (hp0:(V4 q0 (F8 [] X.env)).any (·.1)=false:=by rfl) (hp1:(V4 q1 (F8 [] X.env)).any (·.1)=false:=by rfl) :
  QEd X (.Call (.Name "sorted" p0) [.Call (.Name "set" p1) [a] [] q1] [] q0) (ES ta):=by
 simp only[QEd.eq]at *
 intro af s σ H Q I ⟨Δ,M,R,sr,hr,q,k⟩;refine U0 (gN I hgS hmS (u:=.builtin "sorted") (by kernel_rfl) ?_ (by decide) (by decide));refine V6 ?_ he0 hp0;rw[he0];show J4 _ _ (as4 ((false,ab7 _ X.env)::V4 q0 (F8 [] X.env))) _ _ s;refine ac2 ?_;refine u0 (M:=M) hc hg hm ha he1 hp1 I ⟨Δ,M,_,sr,hr,q,fun x M1 v H1 q1 e1 hr1 rv=>⟨x,M1,q1,hr1,rv.rd hr1,e1⟩⟩ (fun x M1 ⟨xs,ex,hl,_⟩=>⟨xs,ex,hl⟩) fun c s1 x M1 H1 xs' I1 ⟨xs,ex,hl,hm2,q2⟩ ex' hr1 e1 hS fc=>?_;have exx:xs'=xs:=by
  have:=ex'.symm.trans ex;simp only[D.lst.injEq]at this;exact(List.map_inj_right (fun a b h=>by simpa using h)).mp this
 subst exx;refine aa5 ?_;have bX:(cp xs').length<64:=by
  lia
 refine uS (I1.ok.hd hc) hS bX fun s4 h' z us cc kp0 eg eo hzz kp1 gz hul hat=>?_;have I3:Inv X af σ H1 s4:=I1.with kp0 eg eo
 have I4:=I3.laid (t':=s4.toks) (o:=.lst ((cG (cp xs')).map V.str)) kp1 hzz (show cj X.prog X.w _ h' z (.lst _)from⟨by
  rw[F3,(gK _).length_eq,ab0];lia,us,cc,tq hul hat,gz⟩)
 refine⟨.ref z,_,I4,rfl,iJ hr1 (I3.hok.fresh hzz) mS fun w H' a b c=>?_⟩;exact k _ _ _ _ q2 (e1.trans a) b c
end
end L2
namespace L2
open PySem PySem.Spec PyProof.Rows
theorem mj(l:F9) (items:Array s0) (x:Int) (u:Tok) (he:items.isEmpty=true) (hx:2<=x) (hx2:x<2 ^ 62) :
  Meets (K7.«tuple.__mul__» ⟨[.ref l,.int x u],[]⟩) (fun _ R s=>ap8 s.heap l items/\R (.ok (.ret (.ref l))) s) :=
 .of_wp fun prog w A R s h=>by
  obtain⟨ht,h⟩:=h;refine o0 (m:=asIndex (.int x u)) (ao2 (a:=x) rfl ?_);dsimp only;rw[if_neg (by simp only[Bool.or_eq_true,decide_eq_true_eq];lia)];refine o0 (an0 ht ?_);rw[if_pos (by simp[he])];refine o0 (HT.tupleIsExact_ ht ?_);rw[if_pos rfl]
  wp_walk
  exact⟨_,rfl,h⟩
def vS(x y:D):Option D:=match x,y with
 |.tup [],.int n=>if 2<=n/\n<2 ^ 62 then some (.tup [])else none
 |x,y=>nG x y
theorem wO{n:Int}:vS (.tup []) (.int n)=if 2<=n/\n<2 ^ 62 then some (.tup [])else none:=rfl
theorem xD{x:Str}{n:Int}:vS (.str x) (.int n)=nG (.str x) (.int n):=rfl
theorem wc{ds:List D}{n:Int}(h:2<=n/\n<2 ^ 62/\ds.length*n.toNat<=I0):vS (.tup ds) (.int n)=some (.tup (J7 n.toNat ds).flatten):=by
 cases ds with
 |nil =>
  rw[wO,if_pos ⟨h.1,h.2.1⟩];congr 2;rw[eq_comm,List.eq_nil_iff_forall_not_mem];intro d hd;obtain⟨l,hl,hd⟩:=List.mem_flatten.mp hd;rw[(List.mem_replicate.mp hl).2]at hd;cases hd
 |cons d ds=>exact if_pos ⟨h.1,h.2.1,by simp,h.2.2⟩
section
variable{X:Cx}
theorem sL:cq X (Z1 .Mult) vS:=by
 intro af s σ H M x y v u dx dy dz Q I hr rx ry r1 r2 e k
 by_cases hc:∃n,dx=.tup []/\dy=.int n
 ·obtain⟨n,rfl,rfl⟩:=hc;rw[wO]at e
  by_cases hn:2<=n/\n<2 ^ 62
  ·rw[if_pos hn]at e;cases e;have e2:=iE r2;subst e2;obtain⟨t2,rfl⟩:=ry;have rt:=aY.tup hr r1;obtain⟨a,vs,rfl,sq,rl⟩:=r1;cases rx;obtain⟨its,rv,pt,hz⟩:=I.tuple sq;have he:its.toArray.isEmpty=true:=by
    have hl1:=rv.length;have hl2:=rl.length;cases its with
    |nil=>rfl
    |cons _ _=>rw[hl1]at hl2;cases hl2
   refine wpAny_binaryOp_repeat_ref (T:="tuple") (U:="int") (by decide) pt.typeIs (fun s'=>an5 s' n t2) fL F.fills_int_mul ag3 jK F.slot_int_index.lookup
    (ak5 ag3 (an5 s n t2) F.entry_int_rmul (F.args_int_rmul_2 _ _) (hJ n t2 a its.toArray)
     ⟨pt,rfl,pt.typeIs,ak5 am6 pt.typeIs F.entry_tuple_mul (F.args_tuple_mul_2 _ _) (mj a its.toArray n t2 he hn.1 hn.2) ⟨pt,?_⟩⟩)
   exact⟨.ref a,H,I,rfl,k _ H (Ext.refl _ _) hr rt⟩
  ·rw[if_neg hn]at e;cases e
 ·have e':nG dx dy=some dz:=by
   rw[<-e];unfold vS
   split
   ·exact absurd ⟨_,rfl,rfl⟩ hc
   ·rfl
  exact gm af s σ H M x y v u dx dy dz Q I hr rx ry r1 r2 e' k
end
end L2
namespace L2
open PySem PySem.Spec PyProof.Rows PySem.Calls
section
variable{X:Cx}
def Br(ta:TEd):TEd:=fun Δ M Q=>ta Δ M fun x M1=>∃xs:List Str,rdM M1 x=.lst (xs.map D.str)/\xs.length<4000/\(cp xs).length<63/\∀p,M1 p=none->Q (.ref p) (av M1 p (.lst ((cG (cp xs)).map D.str)))
theorem Dk{a:O3}{ta:TEd}{p0 p1 q0 q1:Pos}(hc:X.calm=true) (hgS:Gl X "sorted") (hmS:X.mg "sorted"=none) (hg:Gl X "set") (hm:X.mg "set"=none) (ha:QEd X a ta)
  (he0:F8 [.Call (.Name "set" p1) [a] [] q1] X.env=(false,ab7 (.Call (.Name "set" p1) [a] [] q1) X.env)::F8 [] X.env:=by rfl)
  (he1:F8 [a] X.env=(false,ab7 a X.env)::F8 [] X.env:=by rfl)
  (hp0:(V4 q0 (F8 [] X.env)).any (·.1)=false:=by rfl) (hp1:(V4 q1 (F8 [] X.env)).any (·.1)=false:=by rfl) :
  QEd X (.Call (.Name "sorted" p0) [.Call (.Name "set" p1) [a] [] q1] [] q0) (Br ta):=by
 simp only[QEd.eq]at *
 intro af s σ H Q I ⟨Δ,M,R,sr,hr,q,k⟩;refine U0 (gN I hgS hmS (u:=.builtin "sorted") (by kernel_rfl) ?_ (by decide) (by decide));refine V6 ?_ he0 hp0;rw[he0];show J4 _ _ (as4 ((false,ab7 _ X.env)::V4 q0 (F8 [] X.env))) _ _ s;refine ac2 ?_;refine u0 (M:=M) hc hg hm ha he1 hp1 I ⟨Δ,M,_,sr,hr,q,fun x M1 v H1 q1 e1 hr1 rv=>⟨x,M1,q1,hr1,rv.rd hr1,e1⟩⟩ (fun x M1 ⟨xs,ex,hl,_⟩=>⟨xs,ex,hl⟩) fun c s1 x M1 H1 xs' I1 ⟨xs,ex,hl,hm2,q2⟩ ex' hr1 e1 hS fc=>?_;have exx:xs'=xs:=by
  have:=ex'.symm.trans ex;simp only[D.lst.injEq]at this;exact(List.map_inj_right (fun a b h=>by simpa using h)).mp this
 subst exx;refine aa5 ?_;have bX:(cp xs').length<64:=by
  lia
 refine uS (I1.ok.hd hc) hS bX fun s4 h' z us cc kp0 eg eo hzz kp1 gz hul hat=>?_;have I3:Inv X af σ H1 s4:=I1.with kp0 eg eo
 have I4:=I3.laid (t':=s4.toks) (o:=.lst ((cG (cp xs')).map V.str)) kp1 hzz (show cj X.prog X.w _ h' z (.lst _)from⟨by
  rw[F3,(gK _).length_eq,ab0];lia,us,cc,tq hul hat,gz⟩)
 have hp:=I3.hok.fresh hzz;exact⟨.ref z,_,I4,rfl,k _ _ _ _ (q2 z (hr1.fresh hp)) (e1.trans (Ext.own hp)) (hr1.put (Ext.own hp) ⟨_,bh,mS⟩) (by simp only[Rep])⟩
end
end L2
namespace My
open PySem PySem.Spec PyProof.Rows L2
noncomputable def top(i:Nat):aa1:=PySem.Challenge.pw_wordwishes_k07_lexicons_of_any_things.main.body.getD i (.Pass ⟨0,0,0,0⟩)
abbrev gy:aa1:=top 14
abbrev dU:aa1:=top 15
abbrev cg:aa1:=top 16
abbrev iB:aa1:=top 19
abbrev g8:aa1:=top 20
abbrev eB:aa1:=top 21
abbrev iK:aa1:=top 24
abbrev ia:aa1:=top 25
abbrev gL:aa1:=top 26
abbrev eY:aa1:=top 31
abbrev iM:aa1:=top 32
abbrev dI:aa1:=top 33
abbrev gB:aa1:=top 34
abbrev bY:aa1:=top 35
abbrev fk:aa1:=top 36
abbrev eA:aa1:=top 37
abbrev gD:aa1:=top 38
abbrev eF:aa1:=top 39
abbrev c8:aa1:=top 40
abbrev m6:aa1:=top 42
abbrev mz:aa1:=top 43
abbrev fV:aa1:=top 44
abbrev fi:aa1:=top 45
abbrev kn:aa1:=top 46
abbrev kL:aa1:=top 47
abbrev g7:aa1:=top 48
abbrev iO:aa1:=top 49
abbrev tY:aa1:=top 50
abbrev bv:aa1:=top 51
abbrev bE:aa1:=top 52
abbrev fK:aa1:=top 53
abbrev m7:aa1:=top 54
abbrev fD:aa1:=top 55
abbrev hU:aa1:=top 56
abbrev gj:aa1:=top 57
abbrev c7:aa1:=top 58
abbrev cL:aa1:=top 59
abbrev eW:aa1:=top 60
abbrev fb:aa1:=top 61
abbrev iw:aa1:=top 62
abbrev iT:aa1:=top 63
abbrev gh:aa1:=top 64
abbrev rL:aa1:=top 65
abbrev pT:List Str:=["thing"]
theorem i9:ay pT ["thing"] (ah gy):=fsc
abbrev lB:List Str:=["thing","many"]
theorem fS:ay lB ["thing","many"] (ah dU):=fsc
abbrev de:List Str:=["thing"]
theorem fu:ay de ["thing"] (ah cg):=fsc
abbrev qZ:List Str:=["thing"]
theorem jR:ay qZ ["thing"] (ah iB):=fsc
abbrev rV:List Str:=["thing"]
theorem jP:ay rV ["thing"] (ah g8):=fsc
abbrev gq:List Str:=["thing"]
theorem jb:ay gq ["thing"] (ah eB):=fsc
abbrev sh:List Str:=["thing"]
theorem ka:ay sh ["thing"] (ah iK):=fsc
abbrev qJ:List Str:=["thing"]
theorem j3:ay qJ ["thing"] (ah ia):=fsc
abbrev jz:List Str:=["thing"]
theorem kY:ay jz ["thing"] (ah gL):=fsc
abbrev mD:List Str:=["things"]
theorem gQ:ay mD ["things"] (ah eY):=fsc
abbrev si:List Str:=["thing"]
theorem jT:ay si ["thing"] (ah iM):=fsc
abbrev fJ:List Str:=["thing"]
theorem ib:ay fJ ["thing"] (ah dI):=fsc
abbrev qw:List Str:=["thing"]
theorem jg:ay qw ["thing"] (ah gB):=fsc
abbrev bP:List Str:=["thing"]
theorem fT:ay bP ["thing"] (ah bY):=fsc
abbrev mf:List Str:=["thing"]
theorem gV:ay mf ["thing"] (ah fk):=fsc
abbrev eE:List Str:=["lexicon"]
theorem jc:ay eE ["lexicon"] (ah eA):=fsc
abbrev p8:List Str:=["lexicon","thing"]
theorem i8:ay p8 ["lexicon","thing"] (ah gD):=fsc
abbrev p7:List Str:=["lexicon","word"]
theorem dB:ay p7 ["lexicon","word"] (ah eF):=fsc
abbrev bx:List Str:=["lexicon","order","goal","entries","in_order","in_kinds"]
theorem je:ay bx ["lexicon"] (ah c8):=fsc
abbrev yr:List Str:=["_law_cell","_law_rest","_law_one"]
theorem oi:ay yr ["_law_cell"] (ah m6):=fsc
noncomputable abbrev yy:List Str:=["_law_pool_here","_law_amount","_law_found"]
theorem om:ay yy ["_law_pool_here","_law_amount"] (ah mz):=fsc
abbrev ft:List Str:=["_law_pool_here","_law_known","_law_letters","_law_word_here","_law_some"]
theorem oR:ay ft ["_law_pool_here","_law_known"] (ah fV):=fsc
abbrev mM:List Str:=["_law_pool_here","_law_amount","_law_found","_law_k"]
theorem gS:ay mM ["_law_pool_here","_law_amount"] (ah fi):=fsc
abbrev vH:List Str:=["_law_pool_here","_law_marks_here","_law_most","_law_found","_law_k","_law_low"]
theorem me:ay vH ["_law_pool_here","_law_marks_here","_law_most"] (ah kn):=fsc
abbrev vq:List Str:=["_law_pool_here","_law_marks_here","_law_most","_law_signs","_law_turns","_law_found","_law_k","_law_row","_law_j","_law_mark"]
theorem mw:ay vq ["_law_pool_here","_law_marks_here","_law_most","_law_signs","_law_turns"] (ah kL):=fsc
noncomputable abbrev rN:List Str:=["_law_pool_here","_law_most","_law_marks_here","_law_order_here","_law_entries","_law_word_here"]
theorem ke:ay rN ["_law_pool_here","_law_most"] (ah g7):=fsc
abbrev kO:List Str:=["_law_e","_law_sort","_law_sorts"]
theorem mG:ay kO ["_law_e","_law_sort"] (ah iO):=fsc
abbrev BR:List Str:=["_law_found","_law_due"]
theorem um:ay BR ["_law_found","_law_due"] (ah tY):=fsc
abbrev aV:List Str:=["_law_lexicon_here","_law_order_here","_law_goal","_law_entries","_law_found","_law_amount"]
theorem fB:ay aV ["_law_lexicon_here"] (ah bv):=fsc
abbrev bu:List Str:=["_law_entry","_law_word_here","_law_kinds_here","_law_row","_law_found","_law_five","_law_six","_law_other"]
theorem fF:ay bu ["_law_entry"] (ah bE):=fsc
abbrev nO:List Str:=["_law_pool_here","_law_thing","_law_letters","_law_at","_law_sign","_law_some"]
theorem iF:ay nO ["_law_pool_here","_law_thing"] (ah fK):=fsc
abbrev yc:List Str:=["_law_pool_here","_law_thing","_law_at"]
theorem oN:ay yc ["_law_pool_here","_law_thing"] (ah m7):=fsc
abbrev iI:List Str:=["_law_thing"]
theorem jZ:ay iI ["_law_thing"] (ah fD):=fsc
abbrev qY:List Str:=["_law_thing"]
theorem jW:ay qY ["_law_thing"] (ah hU):=fsc
abbrev jy:List Str:=["_law_thing"]
theorem lb:ay jy ["_law_thing"] (ah gj):=fsc
abbrev cy:List Str:=["_law_thing"]
theorem ji:ay cy ["_law_thing"] (ah c7):=fsc
abbrev cH:List Str:=["_law_thing"]
theorem iG:ay cH ["_law_thing"] (ah cL):=fsc
abbrev fj:List Str:=["_law_thing","_law_entries","_law_entry","_law_words"]
theorem kZ:ay fj ["_law_thing"] (ah eW):=fsc
abbrev nh:List Str:=["_law_pool_here","_law_lexicon_here","_law_thing","_law_order_here","_law_row"]
theorem gU:ay nh ["_law_pool_here","_law_lexicon_here"] (ah fb):=fsc
abbrev rT:List Str:=["_law_lexicon_here","_law_word_here","_law_caught","_law_e"]
theorem j9:ay rT ["_law_lexicon_here","_law_word_here"] (ah iw):=fsc
noncomputable abbrev iS:List Str:=["_law_lexicon_here","_law_found","_law_pair","_law_word_here","_law_kinds_here","_law_row"]
theorem lP:ay iS ["_law_lexicon_here"] (ah iT):=fsc
noncomputable abbrev eP:List Str:=["_law_lexicon_here","_law_at","_law_order_here","_law_goal","_law_entries","_law_things","_law_thing","_law_found"]
theorem mB:ay eP ["_law_lexicon_here","_law_at"] (ah gh):=fsc
abbrev oE:List Str:=["_law_script","_law_cell","_law_pool_here","_law_lexicon_here"]
theorem wt:ay oE ["_law_script"] (ah rL):=fsc
abbrev iV:aa1:=DG (top 4) 0
theorem wD:ay ["self","word"] ["self","word"] (ah iV):=fsc
theorem xr{P:K6}{w:Q7}{K:F0}{mg:Str->Option s0}{base:K5}{C W fI f:F9}{fd:K4}(F:Fun K "__init__" "NoWord.__init__" iV f fd) (Y:nq K mg "NoWord" "WishError" "word" C W fI):a7 P w K mg base CX0 1 f fd ["self","word"] (spF "word" C):=by
 refine F.ok wD (fun vs H Q E h=>?_) (fun cdv A outer s H vs Q E hr h=>⟨_,lO (uX (Ek Y 0 rfl (pv 0) wF)) (o7 (DQ Y 0 1 (pv 0) (pv 1))),?_⟩)
 ·obtain⟨e,v,rfl,_⟩:=h;rfl
 ·obtain⟨e,v,rfl,he,q⟩:=h;exact⟨e,rfl,he,e,v,rfl,rfl,he,q⟩
structure zN(K:F0) (mg:Str->Option s0) (C0 W fI0:F9):Prop where
 p0:nq K mg "NoWord" "WishError" "word" C0 W fI0
 g0:DD K C0 "word"
 gH:mg "WishError"=some (.ref W)
 lC:∀C∈[C0],∃nm q N bs bm hd sn sub ab col dd k0 k1 k2 k3 k5 newId,K.lookup C=some (W0 nm q C N bs bm hd sn sub ab col dd k0 k1 k2 k3 k5 newId)/\(L7 C::bm).contains (.ref W)=true
 lW:∃nm q N bs bm hd sn sub ab col dd k0 k1 k2 k3 k5 newId,K.lookup W=some (W0 nm q W N bs bm hd sn sub ab col dd k0 k1 k2 k3 k5 newId)/\bm.contains (.type "BaseException")=true
 z:∀C∈[C0],vm K C
 k_ValueError:∀(i:Nat) C,[C0][i]?=some C->O8 K (.ref C) (.type "ValueError")=some ([true].getD i false)
 k_NoText:∃C2,mg "NoText"=some (.ref C2)/\∀(i:Nat) C,[C0][i]?=some C->O8 K (.ref C) (.ref C2)=some ([false].getD i false)
 k_NoWord:∃C2,mg "NoWord"=some (.ref C2)/\∀(i:Nat) C,[C0][i]?=some C->O8 K (.ref C) (.ref C2)=some ([true].getD i false)
 k_NoLexicon:∃C2,mg "NoLexicon"=some (.ref C2)/\∀(i:Nat) C,[C0][i]?=some C->O8 K (.ref C) (.ref C2)=some ([false].getD i false)
 k_NoStep:∃C2,mg "NoStep"=some (.ref C2)/\∀(i:Nat) C,[C0][i]?=some C->O8 K (.ref C) (.ref C2)=some ([false].getD i false)
 k_NoNumber:∃C2,mg "NoNumber"=some (.ref C2)/\∀(i:Nat) C,[C0][i]?=some C->O8 K (.ref C) (.ref C2)=some ([false].getD i false)
 k_NoDrawing:∃C2,mg "NoDrawing"=some (.ref C2)/\∀(i:Nat) C,[C0][i]?=some C->O8 K (.ref C) (.ref C2)=some ([false].getD i false)
 k_NoWorld:∃C2,mg "NoWorld"=some (.ref C2)/\∀(i:Nat) C,[C0][i]?=some C->O8 K (.ref C) (.ref C2)=some ([false].getD i false)
 k_NoRow:∃C2,mg "NoRow"=some (.ref C2)/\∀(i:Nat) C,[C0][i]?=some C->O8 K (.ref C) (.ref C2)=some ([false].getD i false)
 k_NoKept:∃C2,mg "NoKept"=some (.ref C2)/\∀(i:Nat) C,[C0][i]?=some C->O8 K (.ref C) (.ref C2)=some ([false].getD i false)
structure Txt(mg:Str->Option s0):Prop where
 b_isinstance:mg "isinstance"=none
 b_int:mg "int"=none
 b_bool:mg "bool"=none
 b_tuple:mg "tuple"=none
 b_len:mg "len"=none
 b_str:mg "str"=none
 b_all:mg "all"=none
 b_set:mg "set"=none
 b_sorted:mg "sorted"=none
 b_abs:mg "abs"=none
 b_range:mg "range"=none
 b_ValueError:mg "ValueError"=none
 b_list:mg "list"=none
 g_SMALL_LETTERS:∃t,mg "SMALL_LETTERS"=some (.str "abcdefghijklmnopqrstuvwxyz" t)
 g_MOST_LETTERS:∃t,mg "MOST_LETTERS"=some (.int 8 t)
 g_MOST_PAIRS:∃t,mg "MOST_PAIRS"=some (.int 8 t)
 g_MOST_TURN:∃t,mg "MOST_TURN"=some (.int 99 t)
 g_MOST_ENTRIES:∃t,mg "MOST_ENTRIES"=some (.int 10 t)
 g_MOST_KINDS:∃t,mg "MOST_KINDS"=some (.int 4 t)
 g_MOST_SIGNS:∃t,mg "MOST_SIGNS"=some (.int 5 t)
set_option hygiene false in
local macro_rules|`(tactic| walk_at "rd")=>`(tactic| simp only[ES,Br,yx,E6,dYE,dXC,zf,Ed,uV,dLS,BS,Cz,z6,zX,Co,yb,qj,iu,dC,Dh,xa,DM,Be,Bp,dOp,dUn,Aw,DZ,Bf,Bu,dCB,ix,tS,Fc,A3,Dx,Ef,zP,u5,DK,Ew,lM,DJ,wz,rG,EJ,Dz,yj,A4,B1,zO,yA,wg,D7,Cy,HD.dKr.injEq,A6,Ae,HD.dT.injEq,HD.dK.injEq,DI,DN,yi,pB,yE,Bm,dLc,BY,yT,DV,
 zW,CN,zH,zL,pR,Ac,zG,zk,Cp,AE,Ax,AR,Ad,E8,yK,Ei,uQ,EC,EL,xi,B4,CK,BF,CQ,BC,CO,B5,wf,sO,CJ,CM,kQ,E2,D8,DF,Dp,C5,EM,EH,ER,wm,ye,yF,wk,EG,EI,Eo,D9,Ec,Em,D0,wW,E4,ze,vI,CI,aq,aR,
 gJ,N8,ap0,List.cons_append,M9,T0,List.length_nil,J7,List.set_cons_zero,List.set_cons_succ,af2,aa2,al2,exists_eq_left',exists_eq_left,D.int.injEq,D.bl.injEq,D.str.injEq,D.ref.injEq,D.tup.injEq,D.lst.injEq,true_and,and_true,if_true,decide_eq_true_eq,exists_and_left,Nat.zero_add,Nat.reduceAdd,Nat.reduceSub,DO,Ba,wX,EB,HD.lst.injEq,ab5,or_true,true_or,and_self,↓reduceIte,Int.reduceLT,Int.reduceLE,Int.reducePow,Int.reduceNeg,Int.reduceToNat,Nat.reducePow,Nat.reduceLT,Nat.reduceLeDiff,Int.reduceAdd,Int.reduceMul,Int.reduceSub,F6,Bool.true_eq_false,if_false])
section
variable{P:K6}{w:Q7}{K:F0}{mg:Str->Option s0}{base:K5}{f:F9}{fd:K4}
theorem ki{xs:List D}{n:Nat}:L2.eJ xs none (some (n:Int))=xs.take n:=by
 unfold L2.eJ;rw[HT.sIx_none,HT.sIx_nat,List.drop_zero,Nat.sub_zero]
 by_cases h:n<=xs.length
 ·rw[Nat.min_eq_left h]
 ·rw[Nat.min_eq_right (by lia),aa0,X5 (by lia)]
theorem xu{xs:List D}{n:Nat}:L2.eJ xs (some (n:Int)) none=xs.drop n:=by
 unfold L2.eJ;rw[HT.sIx_none,HT.sIx_nat]
 by_cases h:n<=xs.length
 ·rw[Nat.min_eq_left h,X5 (by simp)]
 ·rw[Nat.min_eq_right (by lia),ar2,List.take_zero,List.drop_of_length_le (by lia)]
theorem cx{lo:Int}{n:Nat}:(pe lo n).length=n:=by simp[pe]
def bK(x:Str×Str):D:=.tup [.str x.1,.str x.2]
theorem jX{ba:List Str}{v:Int}(h0:0<=v) (h1:v<(ba.length:Int)):∃m∈ba,atI (ba.map D.str) v=some (.str m):=by
 obtain⟨n,rfl⟩:=W7 h0;have hn:n<ba.length:=by lia
 exact⟨ba[n],R6 hn,dA (by simp[hn])⟩
theorem dq{M:DH}{p q:F9}{a b:HD}(h:p≠q):av (av M p a) q b=av (av M q b) p a:=by
 funext c;unfold av
 by_cases h1:c=q
 ·subst h1;simp[V0 h]
 ·by_cases h2:c=p
  ·subst h2;simp[h]
  ·simp[h1,h2]
def CS(a b c:Int):Prop:=0<=a/\0<=b/\b<1000000403/\0<=c/\c<1000000513
def bc(l:List D):Prop:=∃a b c,l=[.int a,.int b,.int c]/\CS a b c
def qV:SpD:=fun ds M R=>∃i,ds=[.int i]/\∀p l,M p=none->bc l->R (.ref p) (av M p (.lst l))
def cK:SpD:=fun ds M R=>∃p l n,ds=[.ref p,.int n]/\M p=some (.lst l)/\bc l/\0<n/\n<1073741824/\∀v l',0<=v->v<n->bc l'->R (.int v) (av M p (.lst l'))
theorem vJ(F:Fun K "_law_pool" "_law_pool" m6 f fd) (T:Txt mg) :a7 P w K mg base CX0 1 f fd ["_law_cell"] (spD K 1 qV):=by
 have nd:=oi.nd;refine F.okR rfl oi (fun cdv A outer s H E hr=>⟨_,(ak (aL (i:=1) nd rfl (Q9 rfl) aj)
   (ak (cn (mE (dM (cf xM (ae 0) aj nbh) (fH (cf FC (ae 0) (aO E3 aj aj) nbh)))) (au (aL (i:=1) nd rfl (Q9 rfl) (aB E1 rfl T.b_abs (by kernel_rfl) (aa (ae 0) ag)))) bN)
   (ak (aL (i:=2) nd rfl (Q9 rfl) (aO kT (ae 0) aj))
   (au (aI (jm (aa (ae 1) (aa (ae 2) (aa (aO kT (aO aM (aO gm (ae 2) aj) aj) aj) ag))))))))),fun ds M R _ hS bk=>?_⟩)
 obtain⟨i,rfl,k⟩:=hS;refine bk ?_;clear bk;walk_at "rd";have pk:∀a:Int,0<=a->∀p,M p=none->R (D.ref p) (av M p (HD.lst [D.int a,D.int (i % 1000000403),D.int ((i % 1000000403*48271+12345) % 1000000513)])):=fun a ha p hp=>k p _ hp ⟨a,_,_,rfl,ha,by lia,by lia,by lia,by lia⟩;refine b6 (fun h=>⟨sz3 3,pk _ (by split<;>lia)⟩) (fun h=>b6 (fun h'=>⟨sz3 3,pk _ (by split<;>lia)⟩) (fun h'=>⟨sz3 3,pk _ (by lia)⟩))
theorem vT(F:Fun K "_law_draw" "_law_draw" mz f fd) (T:Txt mg) :a7 P w K mg base CX0 1 f fd ["_law_pool_here","_law_amount"] (spD K 2 cK):=by
 have nd:=om.nd;refine F.okR rfl om (fun cdv A outer s H E hr=>⟨_,(ak (cn (cf vy (bp bo (ae 0) aj (fun _ _=>rfl)) aj nbh) (ak (aL (i:=2) nd rfl (Q9 rfl) (aO kT (bp bo (ae 0) aj (fun _ _=>rfl)) (ae 1)))
   (ak (xb (ae 0) aj (aO xt (bp bo (ae 0) aj (fun _ _=>rfl)) (ae 1)))
   (au (aI (ae 2))))) bN)
   (ak (xb (ae 0) aj (aO kT (aO aM (aO aM (aO gm (bp bo (ae 0) aj (fun _ _=>rfl)) aj) (bp bo (ae 0) aj (fun _ _=>rfl))) aj) aj))
   (ak (xb (ae 0) aj (aO kT (aO aM (aO aM (aO gm (bp bo (ae 0) aj (fun _ _=>rfl)) aj) (aO kT (aO gm (bp bo (ae 0) aj (fun _ _=>rfl)) (bp bo (ae 0) aj (fun _ _=>rfl))) aj)) aj) aj))
   (au (aI (aO kT (aO xt (aO aM (bp bo (ae 0) aj (fun _ _=>rfl)) (aO gm aj (bp bo (ae 0) aj (fun _ _=>rfl)))) aj) (ae 1))))))),fun ds M R _ hS bk=>?_⟩)
 obtain⟨p,l,n,rfl,hM,⟨a,b,c,rfl,hp⟩,h0,h1,k⟩:=hS;refine bk ?_;clear bk;have hrd:=dF hM;have hcd:∀x,pM x n:=fun x=>⟨h0,h1⟩;obtain⟨p1,p2,p3,p4,p5⟩:=hp;have hb:-18446744073709551616<(b*40014+c+7) % 1000000403/\(b*40014+c+7) % 1000000403<18446744073709551616:=by lia
 have hq:=Ba (j:=(b*40014+c+7) % 1000000403) hb;walk_at "rd";simp only[hrd,hM,h0,hcd];walk_at "rd";simp only[hq];walk_at "rd";simp only[h0,hcd];walk_at "rd";have m1:∀x:Int,0<=x % n:=fun x=>Int.emod_nonneg _ (by lia);have m2:∀x:Int,x % n<n:=fun x=>Int.emod_lt_of_pos _ h0;refine b6 (fun h=>?_) (fun h=>?_)
 ·exact k _ _ (m1 _) (m2 _) ⟨_,_,_,rfl,Int.ediv_nonneg (by lia) (by lia),p2,p3,p4,p5⟩
 ·exact k _ _ (m1 _) (m2 _) ⟨_,_,_,rfl,p1,by lia,by lia,by lia,by lia⟩
def j6:SpD:=fun ds M R=>∃(p:F9) (l:List D) (known:List Str),ds=[.ref p,.lst (known.map .str)]/\M p=some (.lst l)/\bc l/\known.length<=25/\∀w l',bB w->w∉known->bc l'->R (.str w) (av M p (.lst l'))
theorem uk{p:F9}{Q:List D->DH->Prop}:∀(ds:List D) (x:Option D) (M:DH) (l:List D) (cs:List Nat),M p=some (.lst l)->bc l->(∀c∈cs,lZ c) ->
  (∀(cs':List Nat) (l':List D),bc l'->(∀c∈cs',lZ c)->cs'.length=cs.length+ds.length->Q (cs'.map fun c=>D.str (tx [c])) (av M p (.lst l'))) ->
  cE (cR 5) nR (dOp ixD (iu 2) (lM 2 cK (ix (iu 0) (ix (dC (D.int 26)) tS)))) ds [some (D.ref p),none,some (D.str abc),none,none,x] M (cs.map fun c=>D.str (tx [c])) Q
 |[],x,M,l,cs,hM,hP,hc,k=>by
  have:=k cs l hP hc (by simp);rw[iP hM]at this;simpa only[cE]using this
 |d::ds,x,M,l,cs,hM,hP,hc,k=>by
  simp only[cE,cR,nR];walk_at "rd";refine⟨p,l,26,rfl,hM,hP,by decide,by decide,fun v l1 h0 h1 hP1=>?_⟩;obtain⟨c,hc1,e⟩:=Ds h0 h1;refine⟨_,e,?_⟩;have hm:(cs.map fun c=>D.str (tx [c]))++[D.str (tx [c])]=(cs++[c]).map fun c=>D.str (tx [c]):=by simp
  rw[hm];refine uk ds (some d) (av M p (.lst l1)) l1 (cs++[c]) aq hP1 (fun x hx=>?_) (fun cs' l' hP' hc' hl'=>?_)
  ·rcases K0.mp hx with h|h
   ·exact hc x h
   ·have:x=c:=by simpa using h
    subst this;exact hc1
  ·rw[aR];exact k cs' l' hP' hc' (by simp at hl' ⊢;lia)
theorem zd:(F5 "abcdefghijklmnopqrstuvwxyz").length<=I0:=by
 show abc.length<=_;rw[mT,fh];exact sz3 _
theorem xZ{cs:List Nat}(h:cs.length<=1000):uF (F5 "") (.lst (cs.map fun c=>D.str (tx [c])))=some (.str (tx cs)):=by
 have e:(cs.map fun c=>D.str (tx [c]))=(cs.map fun c=>tx [c]).map D.str:=by simp
 have hs:((cs.map fun c=>tx [c]).map (·.length)).sum=cs.length:=by
  clear h e
  induction cs with
  |nil=>rfl
  |cons c cs ih=>simp only[N8,List.sum_cons,ih,fh,T0,List.length_nil];lia
 simp only[uF];rw[e,mi,Ex];dsimp only;rw[if_pos (by rw[hs,fh];simp;lia),qi]
def Dr(cs:List Nat) (d:D):D:=match d with|.str s=>.str (tx (cs.take 7)++s)|_=>.non
theorem yt(cs:List Nat):(L2.bJ abc).map (Dr cs)=(cJ.map fun c=>tx (cs.take 7++[c])).map D.str:=by
 rw[oj,S5,S5];apply ai5;intro c _;show D.str (tx (cs.take 7)++tx [c])=_;rw[sQ];rfl
theorem vt(F:Fun K "_law_word" "_law_word" fV f fd) (T:Txt mg) (G0:FnD P w K mg base "_law_draw" 1 2 cK):a7 P w K mg base CX0 2 f fd ["_law_pool_here","_law_known"] (spD K 2 j6):=by
 have nd:=oR.nd;refine F.okR rfl oR (fun cdv A outer s H E hr=>⟨_,(ak (aL (i:=2) nd rfl (ao0 rfl) bV)
   (ak (aL (i:=3) nd rfl (ao0 rfl) (C9 bV (cX (ms:=[true,false,true,false,false]) (ao:=["_law_k"]) (aA rfl (show aF (ah fV) ft _ _=true from by decide +kernel)) rfl (dG rfl T.b_range (aa (aO aM aj (qd G0 hr (aa (ae 0) (aa aj ag)))) ag)) (aC (i:=5) (show(ft++_).Nodup from by decide +kernel) rfl rfl) (fun _ _ _ _=>aT) (fun _ _ _ _=>(bp bo (ae 2) (qd G0 hr (aa (ae 0) (aa aj ag))) (fun _ _=>rfl))))))
   (ak (aL (i:=4) nd rfl (Q9 rfl) (aO aM (bI (aa (ae 3) ag)) (cX (ms:=[false,false,false,true,false]) (ao:=["_law_sign"]) (aA rfl (show aF (ah fV) ft _ _=true from by decide +kernel)) rfl (aN (ae 2)) (aC (i:=5) (show(ft++_).Nodup from by decide +kernel) rfl rfl) (fun _ _ _ _=>aT) (fun _ _ _ _=>(aO aM (aU (ae 3) bq (br aj)) (ae 5))))))
   (au (aI (bp bo (cX (ms:=[false,true,false,false,false]) (ao:=["_law_one"]) (aA rfl (show aF (ah fV) ft _ _=true from by decide +kernel)) rfl (aN (ae 4)) (aC (i:=5) (show(ft++_).Nodup from by decide +kernel) rfl rfl) (fun _ _ _ _=>(BO (cf rq (ae 5) (ae 1) rfl))) (fun _ _ _ _=>(ae 5))) aj (fun _ _=>rfl))))))),fun ds M R _ hS bk=>?_⟩)
 obtain⟨p,l,known,rfl,hM,hP,hk,k⟩:=hS;refine bk ?_;clear bk;walk_at "rd";refine⟨p,l,8,rfl,hM,hP,by decide,by decide,fun v l1 h0 h1 hP1=>?_⟩;walk_at "rd";refine⟨by lia,by lia,by rw[cx];exact sz3 (1+v).toNat (by lia),?_⟩;refine uk _ none (av M p (.lst l1)) l1 [] aq hP1 (fun c hc=>absurd hc (by simp)) (fun cs l2 hP2 hcs bX=>?_);have hlen':cs.length=(1+v).toNat:=by simpa[pe]using bX
 have hw:bB (tx cs):=by
  unfold bB;rw[dJ];exact⟨by lia,by lia,hcs⟩
 rw[aR];refine⟨_,xZ (by lia),sz3 1,_,if_pos zd,fun hz=>⟨hz,?_⟩⟩;refine bf (fun _=>true) (Dr cs) (fun Δ=>∃x,Δ=[none,none,none,some (.str (tx cs)),none,x]) _ _ _ (fun d hd Δ hΔ=>?_) ⟨none,rfl⟩ ?_
 ·obtain⟨x,rfl⟩:=hΔ;obtain⟨c,hc,rfl⟩:∃c,c∈cJ/\d=.str (tx [c]):=by
   rw[show L2.bJ (F5 "abcdefghijklmnopqrstuvwxyz")=cJ.map (fun c=>D.str (tx [c]))from oj]at hd;obtain⟨c,hc,e⟩:=O2.mp hd;exact⟨c,hc,e.symm⟩
  refine⟨_,rfl,⟨_,rfl⟩,fun Q1 q=>q,fun _ Q2 q=>?_⟩;walk_at "rd";have hs:=tV cs 7;refine⟨_,if_pos (by rw[fh];exact sz3 _ (by lia)),?_⟩;walk_at "rd";have hs':ab4 (tx cs) none (some 7)=tx (cs.take 7):=hs;rw[hs'];refine⟨_,if_pos (by rw[fh,fh];simp;exact sz3 _ (by lia)),q⟩
 ·have ev:(List.filter (fun _=>true) (L2.bJ (F5 "abcdefghijklmnopqrstuvwxyz"))).map (Dr cs)=(cJ.map fun c=>tx (cs.take 7++[c])).map D.str:=by
   rw[N4.mpr (fun _ _=>rfl)];exact yt cs
  rw[M9,ev];have hl27:((cJ.map fun c=>tx (cs.take 7++[c])).map D.str).length=26:=by simp[cJ]
  refine⟨_,if_pos (by rw[hl27];exact sz3 _),_,rfl,fun hz2=>⟨hz2,?_⟩⟩;have em:D.str (tx cs)::(cJ.map fun c=>tx (cs.take 7++[c])).map D.str=(tx cs::cJ.map fun c=>tx (cs.take 7++[c])).map D.str:=rfl;rw[em];generalize hL:(tx cs::cJ.map fun c=>tx (cs.take 7++[c]))=L;have hLw:∀w∈L,bB w:=fun w hw'=>by
   rw[<-hL]at hw';rcases J3.mp hw' with rfl|hw'
   ·exact hw
   ·obtain⟨c,hc,rfl⟩:=O2.mp hw';have:=sv hw (xP hc)
    rwa [dJ]at this
  have hLn:∃w∈L,w∉known:=by
   obtain⟨c,hc,hn⟩:=wV (w:=tx cs) hk;rw[dJ]at hn;exact⟨_,by rw[<-hL];exact O0 _ (O2.mpr ⟨c,hc,rfl⟩),hn⟩
  refine bf (fun d=>!((known.map D.str).any fun e=>eqD e d)) id (fun Δ=>∃x,Δ=[none,some (.lst (known.map D.str)),none,none,none,x]) _ _ _ (fun d hd Δ hΔ=>?_) ⟨none,rfl⟩ ?_
  ·obtain⟨x,rfl⟩:=hΔ;obtain⟨w,hw',rfl⟩:=O2.mp hd;refine⟨_,rfl,⟨_,rfl⟩,fun Q1 q=>?_,fun _ Q2 q=>?_⟩
   ·walk_at "rd";refine⟨_,if_pos ⟨rfl,yY⟩,_,rfl,?_⟩;simpa using q
   ·walk_at "rd";exact q
  ·rw[M9,List.map_id,List.filter_map];have ef:(List.filter ((fun d=>!((known.map D.str).any fun e=>eqD e d))∘D.str) L)=L.filter (fun w=>!decide (w∈known)):=by
    apply List.filter_congr;intro w _;show(!((known.map D.str).any fun e=>eqD e (.str w)))=_;rw[rf]
   rw[ef];obtain⟨w0,h1',h2'⟩:=hLn;cases hF:L.filter (fun w=>!decide (w∈known))with
   |nil =>
    have:w0∈L.filter (fun w=>!decide (w∈known)):=an6.mpr ⟨h1',by simp[h2']⟩;rw[hF]at this;cases this
   |cons u us =>
    have hu:u∈L.filter (fun w=>!decide (w∈known)):=by rw[hF];exact R5
    obtain⟨hu1,hu2⟩:=an6.mp hu;exact⟨_,uQ,k u l2 (hLw u hu1) (by simpa using hu2) hP2⟩
theorem sk{M:DH}{p q:F9}{o:HD}(h:p≠q):jh M (ir M q) (av (ir M q) p o)=av M p o:=by
 funext a;unfold jh av ir
 by_cases h1:a=p
 ·subst h1;simp
 ·by_cases h2:a=q
  ·subst h2;simp[h1]
  ·simp only[h1,h2,if_false];cases M a<;>rfl
theorem vO{l:List D}(h:bc l):kH l=true:=by
 obtain⟨a,b,c,rfl,_⟩:=h;rfl
def iq:SpD:=fun ds M R=>∃(p:F9) (l:List D) (n:Int),ds=[.ref p,.int n]/\M p=some (.lst l)/\bc l/\0<=n/\n<=20/\(∀a k,M a=some k->a≠p->noC k=true) /\
 ∀(ws:List Str) l',(∀w∈ws,bB w)->ws.Nodup->ws.length=n.toNat->bc l'->R (.lst (ws.map .str)) (av M p (.lst l'))
theorem oH{p q:F9}{E:dQ}(hpq:p≠q):∀(ds:List D) (x:Option D) (n:Int) (M:DH) (l:List D) (ws:List Str),M q=none->bc l->ws.Nodup->(∀w∈ws,bB w)->ws.length+ds.length<=25->(∀a k,M a=some k->a≠p->noC k=true) ->
  (∀(x':Option D) (l':List D) (ws':List Str),bc l'->ws'.Nodup->(∀w∈ws',bB w)->ws'.length=ws.length+ds.length->E.nx [some (.ref p),some (.int n),some (.ref q),x'] (av (av M p (.lst l')) q (.lst (ws'.map .str)))) ->
  cF (cR 3) (u5 (zP (iu 2) (oV 2 j6 (ix (iu 0) (ix (iu 2) tS))))) E ds [some (.ref p),some (.int n),some (.ref q),x] (av (av M p (.lst l)) q (.lst (ws.map .str)))
 |[],x,n,M,l,ws,hq,hP,hn,hw,hl,hM,k=>by
  simp only[cF];exact k x l ws hP hn hw (by simp)
 |d::ds,x,n,M,l,ws,hq,hP,hn,hw,hl,hM,k=>by
  simp only[cF,cR];walk_at "rd";have bX:ws.length<=24:=by simp at hl;lia
  refine⟨D.ref p,rfl,D.ref q,rfl,ir (av (av M p (.lst l)) q (.lst (ws.map .str))) q,[.ref p,.lst (ws.map .str)],_,LeM.del,.cons (.inl rfl) (.cons (.inr ⟨q,_,rfl,aq,iX,rfl⟩) .nil),rfl,⟨p,l,ws,rfl,?_,hP,by lia,fun w l' h1 h2 h3=>?_⟩,fun d' M3 hR=>hR⟩
  ·rw[uL hpq,az hpq,aq]
  ·refine⟨rfl,fun a kk ha=>?_,?_⟩
   ·by_cases hap:a=p
    ·subst hap;rw[aq]at ha;cases ha;exact vO h3
    ·rw[az hap]at ha
     by_cases haq:a=q
     ·subst haq;rw[iX]at ha;cases ha
     ·rw[uL haq,az haq,az hap]at ha;exact hM a kk ha hap
   ·rw[sk hpq];have e1:av (av (av M p (.lst l)) q (.lst (ws.map .str))) p (.lst l') q=some (.lst (ws.map .str)):=by rw[az (V0 hpq),aq]
    refine⟨_,e1,by rw[F3];exact J9 (by lia:ws.length<1000) (sz3 1000),?_⟩;have e2:av (av (av (av M p (.lst l)) q (.lst (ws.map .str))) p (.lst l')) q (.lst (ws.map .str++[.str w]))=av (av M p (.lst l')) q (.lst ((ws++[w]).map .str)):=by
     funext a;unfold av
     by_cases h1':a=q
     ·simp[h1']
     ·by_cases h2':a=p
      ·simp[h1',h2']
      ·simp[h1',h2']
    rw[e2];refine oH hpq ds (some d) n M l' (ws++[w]) hq h3 ?_ (fun u hu=>?_) (by simp at hl ⊢;lia) hM (fun x' l2 ws' hP' hn' hw' hl'=>k x' l2 ws' hP' hn' hw' (by simp at hl' ⊢;lia))
    ·rw[Z0];refine⟨hn,by simp,fun a ha b hb=>?_⟩;have:b=w:=by simpa using hb
     subst this;rintro rfl;exact h2 ha
    ·rcases K0.mp hu with h|h
     ·exact hw u h
     ·have:u=w:=by simpa using h
      subst this;exact h1
theorem lE(F:Fun K "_law_some_words" "_law_some_words" fi f fd) (T:Txt mg) (ga1:FnD P w K mg base "_law_word" 2 2 j6):a7 P w K mg base CX0 3 f fd ["_law_pool_here","_law_amount"] (spD K 2 iq):=by
 have nd:=gS.nd;refine F.okR rfl gS (fun cdv A outer s H E hr=>⟨_,(ak (aL (i:=2) nd rfl (Q9 rfl) (jm ag))
   (ak (gP U6 rfl (dG rfl T.b_range (aa (ae 1) ag)) (bD (i:=3) nd rfl (Q9 rfl)) (au (gn (jY (ae 2) (qcL ga1 (hr.mono (by decide)) rfl (aa (ae 0) (aa (ae 2) ag)))))))
   (au (Cr (ae 2))))),fun ds M R _ hS bk=>?_⟩)
 obtain⟨p,l,n,rfl,hM,hP,h0,h1,hno,k⟩:=hS;refine bk ?_;clear bk;walk_at "rd";refine⟨sz3 0,fun q hq=>?_⟩;have hpq:p≠q:=by rintro rfl;rw[hM]at hq;cases hq
 refine⟨by lia,by lia,?_⟩;have e:av M q (.lst [])=av (av M p (.lst l)) q (.lst (([]:List Str).map .str)):=by rw[iP hM];rfl
 rw[e];refine oH hpq _ none n M l [] hq hP List.nodup_nil (fun w hw=>absurd hw (by simp)) (by rw[cx];simp;lia) hno (fun x' l' ws' hP' hn' hw' hl'=>?_);walk_at "rd";rw[wx (by rw[az (V0 hpq)];exact hq)];exact k ws' l' hw' hn' (by rw[cx]at hl';simpa using hl') hP'
mutual
def ai:D->Bool
 |.tup ds=>bg ds
 |.lst ds=>bg ds
 |.str x=>decide (x.length<=1000000)
 |.scr _=>false
 |.ref _=>false
 |.box _ _=>false
 |_=>true
def bg:List D->Bool
 |[]=>true
 |d::ds=>ai d&&bg ds
end
theorem aQ:∀{ds:List D},bg ds=true↔∀d∈ds,ai d=true
 |[]=>by simp[bg]
 |d::ds=>by simp[bg,aQ (ds:=ds)]
theorem bj{M:DH}{d:D}(h:ai d=true):rdM M d=d:=by
 cases d<;>first|rfl|(simp[ai]at h)
def fw:D->Int->Bool
 |.tup ds,n=>(ds.length:Int)==n
 |_,_=>false
def dX(x:Str):Bool:=decide (1<=x.length)&&decide (x.length<=8)&&x.cps.toList.all fun c=>decide (c∈cJ)
def aJ:D->Bool
 |.str x=>dX x
 |_=>false
def bO:SpD:=fun ds M R=>∃d n,ds=[d,.int n]/\ai d=true/\R (.bl (fw d n)) M
theorem ck{d:D}{n:Int}{M:DH}{R:D->DH->Prop}:bO [d,.int n] M R↔ai d=true/\R (.bl (fw d n)) M :=
 ⟨fun⟨d',n',e,h⟩=>by simp only[ab5,D.int.injEq,and_true]at e;rw[e.1,e.2];exact h,fun h=>⟨d,n,rfl,h⟩⟩
theorem kK(F:Fun K "is_tuple_of" "is_tuple_of" dU f fd) (T:Txt mg) :a7 P w K mg base CX0 1 f fd ["thing","many"] (spD K 2 bO):=by
 have nd:=fS.nd;refine F.okR rfl fS (fun cdv A outer s H E hr=>⟨_,(au (aI (bt (cm (Tn:="tuple") (by decide) rfl T.b_isinstance rfl T.b_tuple (by kernel_rfl) (ae 0)) (cv (cV (pE hr.units) (aB bM rfl T.b_len (by kernel_rfl) (aa (ae 0) ag)) (ae 1) nbh))))),fun ds M R _ hS bk=>?_⟩);obtain⟨d,n,rfl,hd,k⟩:=hS;refine bk ?_;clear bk;walk_at "rd";simp only[bj hd];cases d with
 |tup ds =>
  refine⟨true,rfl,?_⟩;walk_at "rd";exact k
 |scr _=>simp[ai]at hd
 |ref _=>simp[ai]at hd
 |box _ _=>simp[ai]at hd
 |_=>exact⟨false,rfl,by simp only[F6,if_false];exact k⟩
def bA:SpD:=fun ds M R=>∃d,ds=[d]/\ai d=true/\R (.bl (aJ d)) M
theorem bT{d:D}{M:DH}{R:D->DH->Prop}:bA [d] M R↔ai d=true/\R (.bl (aJ d)) M :=
 ⟨fun⟨d',e,h⟩=>by simp only[ab5,and_true]at e;rw[e];exact h,fun h=>⟨d,rfl,h⟩⟩
def dO:SpD:=bA
theorem dH{d:D}{M:DH}{R:D->DH->Prop}:dO [d] M R↔ai d=true/\R (.bl (aJ d)) M:=bT
theorem ux:abc.cps.toList=cJ:=by rw[mT,dJ]
theorem bZ{bs:List Bool}:vG (.lst (bs.map D.bl))=some (.bl (bs.all id)):=by
 have h1:(bs.map D.bl).all wA=true:=by rw[Q6,N5];intro _ _;rfl
 have h2:(bs.map D.bl).all vn=bs.all id:=by rw[Q6];rfl
 simp only[vG,h1,h2,if_true]
theorem jv(F:Fun K "is_short_word" "is_short_word" cg f fd) (T:Txt mg) :a7 P w K mg base CX0 1 f fd ["thing"] (spD K 1 bA):=by
 have nd:=fu.nd;refine F.okR rfl fu (fun cdv A outer s H E hr=>⟨_,(au (aI (bt (cm (Tn:="str") (by decide) rfl T.b_isinstance rfl T.b_str (by kernel_rfl) (ae 0)) (bt (lK lw lw aj (aB bM rfl T.b_len (by kernel_rfl) (aa (ae 0) ag)) (eR rfl T.g_MOST_LETTERS)) (cv (aB (eU rfl) rfl T.b_all (by kernel_rfl) (aa (cX (ms:=[false]) (ao:=["letter"]) (aA (n0:=0) rfl (show aF (ah cg) de _ _=true from by decide +kernel)) rfl (aN (ae 0)) (aC (i:=1) (show(de++_).Nodup from by decide +kernel) rfl rfl) (fun _ _ _ _=>aT) (fun _ _ _ _=>(cV yB (ae 1) (yN rfl T.g_SMALL_LETTERS) rfl))) ag))))))),fun ds M R _ hS bk=>?_⟩);obtain⟨d,rfl,hd,k⟩:=hS;refine bk ?_;clear bk;walk_at "rd";simp only[bj hd];cases d with
 |str x =>
  have hx:x.length<=1000000:=by simpa[ai]using hd
  refine⟨true,rfl,?_⟩;walk_at "rd";refine⟨_,if_pos (szB _ (by lia)),?_⟩;walk_at "rd";have hsl:x.length=x.cps.toList.length:=by show x.cps.size=_;simp
  refine b6 (fun h1=>b6 (fun h2=>?_) (fun h2=>?_)) (fun h1=>?_)
  ·refine⟨_,if_pos (szB _ (by lia)),fun hz=>⟨hz,?_⟩⟩;refine bf (fun _=>true) (fun d=>match d with|.str y=>.bl (y.cps.toList.all fun c=>decide (c∈cJ))|_=>.non) (fun Δ=>∃x,Δ=[none,x]) _ _ _ (fun d hd Δ hΔ=>?_) ⟨none,rfl⟩ ?_
   ·obtain⟨x1,rfl⟩:=hΔ;obtain⟨c,_,rfl⟩:=O2.mp (show d∈x.cps.toList.map fun c=>D.str (tx [c])from hd);refine⟨_,rfl,⟨_,rfl⟩,fun Q1 q=>q,fun _ Q2 q=>?_⟩;walk_at "rd";simp only[wW,al2,exists_eq_left',Bool.false_xor];rw[show(F5 "abcdefghijklmnopqrstuvwxyz").cps.toList=cJ from ux];simpa[dJ]using q
   ·rw[M9,N4.mpr (fun _ _=>rfl)];have e:(L2.bJ x).map (fun d=>match d with|.str y=>D.bl (y.cps.toList.all fun c=>decide (c∈cJ))|_=>.non)=(x.cps.toList.map fun c=>decide (c∈cJ)).map D.bl:=by
     unfold L2.bJ;rw[S5,S5];apply ai5;intro c _;simp
    rw[e];refine⟨_,bZ,?_⟩;have e2:(x.cps.toList.map fun c=>decide (c∈cJ)).all id=dX x:=by
     unfold dX;rw[Q6,decide_eq_true (by lia:1<=x.length),decide_eq_true (by lia:x.length<=8)];rfl
    rw[e2];exact k
  ·have e2:aJ (.str x)=false:=by simp only[aJ,dX,decide_eq_false (by lia:¬ x.length<=8),P7,H0]
   rw[e2]at k;exact k
  ·have e2:aJ (.str x)=false:=by simp only[aJ,dX,decide_eq_false (by lia:¬ 1<=x.length),H0]
   rw[e2]at k;exact k
 |scr _=>simp[ai]at hd
 |ref _=>simp[ai]at hd
 |box _ _=>simp[ai]at hd
 |_=>exact⟨false,rfl,by simp only[F6,if_false];exact k⟩
theorem oW(F:Fun K "is_mark" "is_mark" iB f fd) (T:Txt mg) (G4:FnD P w K mg base "is_short_word" 1 1 bA):a7 P w K mg base CX0 2 f fd ["thing"] (spD K 1 dO):=by
 have nd:=jR.nd;refine F.okR rfl jR (fun cdv A outer s H E hr=>⟨_,(au (aI (qd G4 hr (aa (ae 0) ag)))),fun ds M R _ hS bk=>?_⟩);obtain⟨d,rfl,hd,k⟩:=hS;refine bk ?_;clear bk;walk_at "rd";exact bT.mpr ⟨hd,k⟩
end
section
variable{P:K6}{w:Q7}{K:F0}{mg:Str->Option s0}{base:K5}{f:F9}{fd:K4}
def bH(x:Str×Int):D:=.tup [.str x.1,.int x.2]
def sm:D->Bool
 |.int _=>true
 |_=>false
def rE:D->Bool
 |.int t=>decide (-99<=t)&&decide (t<=99)
 |_=>false
def dg:D->Bool
 |.tup [a,b]=>aJ a&&rE b
 |_=>false
def kl:D->Bool
 |.tup ds=>ds.all dg
 |_=>false
def ec(f:D->Bool):SpD:=fun ds M R=>∃d,ds=[d]/\ai d=true/\R (.bl (f d)) M
theorem aG{f:D->Bool}{d:D}{M:DH}{R:D->DH->Prop}:ec f [d] M R↔ai d=true/\R (.bl (f d)) M :=
 ⟨fun⟨d',e,h⟩=>by simp only[ab5,and_true]at e;rw[e];exact h,fun h=>⟨d,rfl,h⟩⟩
def jN:SpD:=ec sm
def k6:SpD:=ec rE
def k7:SpD:=ec dg
def jA:SpD:=ec kl
theorem nS(F:Fun K "is_whole" "is_whole" gy f fd) (T:Txt mg) :a7 P w K mg base CX0 1 f fd ["thing"] (spD K 1 jN):=by
 have nd:=i9.nd;refine F.okR rfl i9 (fun cdv A outer s H E hr=>⟨_,(au (aI (bt (cm (Tn:="int") (by decide) rfl T.b_isinstance rfl T.b_int (by kernel_rfl) (ae 0)) (cv (Bs (cm (Tn:="bool") (by decide) rfl T.b_isinstance rfl T.b_bool (by kernel_rfl) (ae 0))))))),fun ds M R _ hS bk=>?_⟩);obtain⟨d,rfl,hd,k⟩:=hS;refine bk ?_;clear bk;walk_at "rd";simp only[bj hd];cases d with
 |int i=>exact⟨true,rfl,by simp only[if_true];exact⟨false,rfl,k⟩⟩
 |bl b=>exact⟨true,rfl,by simp only[if_true];exact⟨true,rfl,k⟩⟩
 |scr _=>simp[ai]at hd
 |ref _=>simp[ai]at hd
 |box _ _=>simp[ai]at hd
 |_=>exact⟨false,rfl,by simp only[F6,if_false];exact k⟩
theorem pG(F:Fun K "is_turn" "is_turn" iK f fd) (T:Txt mg) (ga5:FnD P w K mg base "is_whole" 1 1 jN):a7 P w K mg base CX0 2 f fd ["thing"] (spD K 1 k6):=by
 have nd:=ka.nd;refine F.okR rfl ka (fun cdv A outer s H E hr=>⟨_,(au (aI (bt (qd ga5 hr (aa (ae 0) ag)) (cv (lK lw lw (qP rJ (eR rfl T.g_MOST_TURN)) (ae 0) (eR rfl T.g_MOST_TURN)))))),fun ds M R _ hS bk=>?_⟩);obtain⟨d,rfl,hd,k⟩:=hS;refine bk ?_;clear bk;walk_at "rd";refine aG.mpr ⟨hd,?_⟩;walk_at "rd";simp only[bj hd];cases d with
 |int t =>
  simp only[sm,if_true];walk_at "rd";simp only[rE]at k;refine b6 (fun h=>?_) (fun h=>?_)
  ·rw[decide_eq_true h,N9]at k;exact k
  ·rw[decide_eq_false h,H0]at k;exact k
 |scr _=>simp[ai]at hd
 |ref _=>simp[ai]at hd
 |box _ _=>simp[ai]at hd
 |_=>simp only[sm,F6,if_false];exact k
theorem ou{ds:List D}(h:¬ ds.length=2):dg (.tup ds)=false:=by
 match ds,h with
 |[],_=>rfl
 |[_],_=>rfl
 |[_,_],h=>exact absurd rfl h
 |_::_::_::_,_=>rfl
theorem o8(F:Fun K "is_sign" "is_sign" ia f fd) (T:Txt mg) (G3:FnD P w K mg base "is_tuple_of" 1 2 bO) (G7:FnD P w K mg base "is_mark" 2 1 dO) (gb2:FnD P w K mg base "is_turn" 2 1 k6):a7 P w K mg base CX0 3 f fd ["thing"] (spD K 1 k7):=by
 have nd:=j3.nd;refine F.okR rfl j3 (fun cdv A outer s H E hr=>⟨_,(au (aI (bt (qd G3 hr (aa (ae 0) (aa aj ag))) (bt (qd G7 hr (aa (bp bo (ae 0) aj (fun _ _=>rfl)) ag)) (cv (qd gb2 hr (aa (bp bo (ae 0) aj (fun _ _=>rfl)) ag))))))),fun ds M R _ hS bk=>?_⟩);obtain⟨d,rfl,hd,k⟩:=hS;refine bk ?_;clear bk;walk_at "rd";refine ck.mpr ⟨hd,?_⟩;walk_at "rd";cases d with
 |tup ds =>
  by_cases hl:ds.length=2
  ·match ds,hl,hd,k with
   |[a,b],_,hd,k =>
    have hab:ai a=true/\ai b=true:=by simpa[ai,bg]using hd
    rw[if_pos (by rfl)];walk_at "rd";refine dH.mpr ⟨hab.1,?_⟩;walk_at "rd";simp only[dg]at k;refine b6 (fun h=>aG.mpr ⟨hab.2,?_⟩) (fun h=>?_)
    ·rw[h,N9]at k;exact k
    ·rw[show aJ a=false by simpa using h,H0]at k;exact k
  ·rw[if_neg (by simp only[fw];simp;lia)];rw[ou hl]at k;exact k
 |scr _=>simp[ai]at hd
 |ref _=>simp[ai]at hd
 |box _ _=>simp[ai]at hd
 |_=>rw[if_neg (by simp[fw])];exact k
theorem ju{f:D->Bool}{M:DH}{Q:List D->DH->Prop}{ds:List D}{te:TEd}{Δ0:DE}{n:Nat}(hte:∀d∈ds,∀x,∀Q2:D->DH->Prop,Q2 (.bl (f d)) M->te ((Δ0++[x]).set Δ0.length (some d)) M Q2)
  (h:Q ((ds.map f).map D.bl) M):cE (cR Δ0.length) nR te ds (Δ0++[none]) M [] Q:=by
 refine bf (fun _=>true) (fun d=>.bl (f d)) (fun Δ=>∃x,Δ=Δ0++[x]) _ _ _ (fun d hd Δ hΔ=>?_) ⟨none,rfl⟩ ?_
 ·obtain⟨x,rfl⟩:=hΔ;refine⟨_,rfl,⟨some d,by simp⟩,fun Q1 q=>q,fun _ Q2 q=>hte d hd x Q2 q⟩
 ·rw[M9,N4.mpr (fun _ _=>rfl)];rw[S5]at h;exact h
theorem qL(F:Fun K "is_row" "is_row" gL f fd) (T:Txt mg) (gb3:FnD P w K mg base "is_sign" 3 1 k7):a7 P w K mg base CX0 4 f fd ["thing"] (spD K 1 jA):=by
 have nd:=kY.nd;refine F.okR rfl kY (fun cdv A outer s H E hr=>⟨_,(au (aI (bt (cm (Tn:="tuple") (by decide) rfl T.b_isinstance rfl T.b_tuple (by kernel_rfl) (ae 0)) (cv (aB (eU rfl) rfl T.b_all (by kernel_rfl) (aa (cX (ms:=[false]) (ao:=["sign"]) (aA (n0:=0) rfl (show aF (ah gL) jz _ _=true from by decide +kernel)) rfl (aN (ae 0)) (aC (i:=1) (show(jz++_).Nodup from by decide +kernel) rfl rfl) (fun _ _ _ _=>aT) (fun _ _ _ _=>(qd gb3 hr (aa (ae 1) ag)))) ag)))))),fun ds M R _ hS bk=>?_⟩);obtain⟨d,rfl,hd,k⟩:=hS;refine bk ?_;clear bk;walk_at "rd";simp only[bj hd];cases d with
 |tup ds =>
  refine⟨true,rfl,?_⟩;walk_at "rd";have hds:∀d∈ds,ai d=true:=aQ.mp (by simpa[ai]using hd);intro hz;refine⟨hz,ju (f:=dg) (Δ0:=[none]) (n:=1) (fun d hd' x Q2 q=>?_) ?_⟩
  ·walk_at "rd";exact aG.mpr ⟨hds d hd',q⟩
  ·refine⟨_,bZ,?_⟩;have e:(ds.map dg).all id=kl (.tup ds):=by
    simp only[kl,Q6];rfl
   rw[e];exact k
 |scr _=>simp[ai]at hd
 |ref _=>simp[ai]at hd
 |box _ _=>simp[ai]at hd
 |_=>exact⟨false,rfl,by simp only[F6,if_false];exact k⟩
theorem eX{w:Str}(h:bB w):w.length<=8:=by
 have:w.length=w.cps.toList.length:=by show w.cps.size=_;simp
 rw[this];exact h.2.1
theorem dw{w:Str}(h:bB w):dX w=true:=by
 obtain⟨h1,h2,h3⟩:=h;have e:w.length=w.cps.toList.length:=by show w.cps.size=_;simp
 unfold dX;rw[decide_eq_true (by lia:1<=w.length),decide_eq_true (by lia:w.length<=8),N9,N9,N5];intro c hc;have:=h3 c hc;unfold lZ at this;rw[decide_eq_true_eq];unfold cJ;rw[List.mem_range'_1]
 lia
theorem wI{v:Int}{a b c d e:D}(h0:0<=v) (h1:v<5):∃x∈[a,b,c,d,e],atI [a,b,c,d,e] v=some x:=by
 have:v=0∨v=1∨v=2∨v=3∨v=4:=by lia
 rcases this with rfl|rfl|rfl|rfl|rfl
 ·exact⟨a,by simp,rfl⟩
 ·exact⟨b,by simp,rfl⟩
 ·exact⟨c,by simp,rfl⟩
 ·exact⟨d,by simp,rfl⟩
 ·exact⟨e,by simp,rfl⟩
theorem m5{α:Type}{xs:List α}:vG (.lst (xs.map fun _=>D.bl true))=some (.bl true):=by
 have h1:(xs.map fun _=>D.bl true).all wA=true:=by
  rw[Q6,N5];intro _ _;rfl
 have h2:(xs.map fun _=>D.bl true).all vn=true:=by
  rw[Q6,N5];intro _ _;rfl
 simp only[vG,h1,h2,if_true]
theorem xT{row:List (Str×Int)}(h:∀x∈row,x.1.length<=8):bg (row.map bH)=true:=by
 rw[aQ];intro d hd;obtain⟨x,hx,rfl⟩:=O2.mp hd;have:=h x hx;simp only[bH,ai,bg,Bool.and_true,decide_eq_true_eq]
 lia
theorem CL{n:Int}{row:List (Str×Int)}(hn:n<=99) (h:∀x∈row,bB x.1/\-n<=x.2/\x.2<=n):kl (.tup (row.map bH))=true:=by
 simp only[kl,Q6,N5];intro x hx;obtain⟨h1,h2,h3⟩:=h x hx;simp only[an3,bH,dg,aJ,dw h1,rE,decide_eq_true (by lia:-99<=x.2),decide_eq_true (by lia:x.2<=99),an4]
def fC:D->Bool
 |.tup [a,b]=>aJ a&&aJ b
 |_=>false
def gI:D->Bool
 |.tup ds=>decide (ds.length<=8)&&ds.all fC
 |_=>false
def il:SpD:=fun ds M R=>∃d,ds=[d]/\ai d=true/\R (.bl (fC d)) M
def eG:SpD:=fun ds M R=>∃d,ds=[d]/\ai d=true/\R (.bl (gI d)) M
theorem nI{d:D}{M:DH}{R:D->DH->Prop}:il [d] M R↔ai d=true/\R (.bl (fC d)) M :=
 ⟨fun⟨d',e,h⟩=>by simp only[ab5,and_true]at e;rw[e];exact h,fun h=>⟨d,rfl,h⟩⟩
theorem g9{d:D}{M:DH}{R:D->DH->Prop}:eG [d] M R↔ai d=true/\R (.bl (gI d)) M :=
 ⟨fun⟨d',e,h⟩=>by simp only[ab5,and_true]at e;rw[e];exact h,fun h=>⟨d,rfl,h⟩⟩
theorem vz{ds:List D}(h:¬ ds.length=2):fC (.tup ds)=false:=by
 match ds,h with
 |[],_=>rfl
 |[_],_=>rfl
 |[_,_],h=>exact absurd rfl h
 |_::_::_::_,_=>rfl
theorem pV(F:Fun K "is_pair" "is_pair" g8 f fd) (T:Txt mg) (G3:FnD P w K mg base "is_tuple_of" 1 2 bO) (G7:FnD P w K mg base "is_mark" 2 1 dO):a7 P w K mg base CX0 3 f fd ["thing"] (spD K 1 il):=by
 have nd:=jP.nd;refine F.okR rfl jP (fun cdv A outer s H E hr=>⟨_,(au (aI (bt (qd G3 hr (aa (ae 0) (aa aj ag))) (bt (qd G7 hr (aa (bp bo (ae 0) aj (fun _ _=>rfl)) ag)) (cv (qd G7 hr (aa (bp bo (ae 0) aj (fun _ _=>rfl)) ag))))))),fun ds M R _ hS bk=>?_⟩);obtain⟨d,rfl,hd,k⟩:=hS;refine bk ?_;clear bk;walk_at "rd";refine ck.mpr ⟨hd,?_⟩;walk_at "rd";cases d with
 |tup ds =>
  by_cases hl:ds.length=2
  ·match ds,hl,hd,k with
   |[a,b],_,hd,k =>
    have hab:ai a=true/\ai b=true:=by simpa[ai,bg]using hd
    rw[if_pos (by rfl)];walk_at "rd";refine dH.mpr ⟨hab.1,?_⟩;walk_at "rd";simp only[fC]at k;refine b6 (fun h=>dH.mpr ⟨hab.2,?_⟩) (fun h=>?_)
    ·rw[h,N9]at k;exact k
    ·rw[show aJ a=false by simpa using h,H0]at k;exact k
  ·rw[if_neg (by simp only[fw];simp;lia)];rw[vz hl]at k;exact k
 |scr _=>simp[ai]at hd
 |ref _=>simp[ai]at hd
 |box _ _=>simp[ai]at hd
 |_=>rw[if_neg (by simp[fw])];exact k
theorem nM(F:Fun K "is_order" "is_order" eB f fd) (T:Txt mg) (gb1:FnD P w K mg base "is_pair" 3 1 il):a7 P w K mg base CX0 4 f fd ["thing"] (spD K 1 eG):=by
 have nd:=jb.nd;refine F.okR rfl jb (fun cdv A outer s H E hr=>⟨_,(au (aI (bt (cm (Tn:="tuple") (by decide) rfl T.b_isinstance rfl T.b_tuple (by kernel_rfl) (ae 0)) (bt (cV lw (aB bM rfl T.b_len (by kernel_rfl) (aa (ae 0) ag)) (eR rfl T.g_MOST_PAIRS) nbh) (cv (aB (eU rfl) rfl T.b_all (by kernel_rfl) (aa (cX (ms:=[false]) (ao:=["pair"]) (aA (n0:=0) rfl (show aF (ah eB) gq _ _=true from by decide +kernel)) rfl (aN (ae 0)) (aC (i:=1) (show(gq++_).Nodup from by decide +kernel) rfl rfl) (fun _ _ _ _=>aT) (fun _ _ _ _=>(qd gb1 hr (aa (ae 1) ag)))) ag))))))),fun ds M R _ hS bk=>?_⟩);obtain⟨d,rfl,hd,k⟩:=hS;refine bk ?_;clear bk;walk_at "rd";simp only[bj hd];cases d with
 |tup ds =>
  refine⟨true,rfl,?_⟩;walk_at "rd";have hds:∀d∈ds,ai d=true:=aQ.mp (by simpa[ai]using hd);refine b6 (fun h1=>fun hz=>⟨hz,?_⟩) (fun h1=>?_)
  ·refine ju (f:=fC) (Δ0:=[none]) (n:=1) (fun d hd' x Q2 q=>?_) ?_
   ·walk_at "rd";exact nI.mpr ⟨hds d hd',q⟩
   ·refine⟨_,bZ,?_⟩;have e:(ds.map fC).all id=gI (.tup ds):=by
     simp only[gI,Q6,decide_eq_true (by lia:ds.length<=8),N9];rfl
    rw[e];exact k
  ·have e:gI (.tup ds)=false:=by simp only[gI,decide_eq_false (by lia:¬ ds.length<=8),H0]
   rw[e]at k;exact k
 |scr _=>simp[ai]at hd
 |ref _=>simp[ai]at hd
 |box _ _=>simp[ai]at hd
 |_=>exact⟨false,rfl,by simp only[F6,if_false];exact k⟩
theorem cU{α:Type}{g:GD}{tc:TTd}{te:TEd}{M:DH}{Q:List D->DH->Prop}(enc:α->D) (b:α->Bool) (y:α->D) (Ok:DE->Prop):∀(xs:List α) (Δ:DE) (acc:List D),
  (∀x∈xs,∀ Δ,Ok Δ->∃ Δ',g (enc x) Δ=some Δ'/\Ok Δ'/\(∀Q1:Bool->DH->Prop,Q1 (b x) M->tc Δ' M Q1)/\(b x=true->∀Q2:D->DH->Prop,Q2 (y x) M->te Δ' M Q2))->Ok Δ ->
  Q (acc++(xs.filter b).map y) M->cE g tc te (xs.map enc) Δ M acc Q
 |[],Δ,acc,_,_,q=>by simpa[cE]using q
 |x::xs,Δ,acc,h,hΔ,q=>by
  rw[N8];simp only[cE];obtain⟨Δ',e,hΔ',h1,h2⟩:=h x (.head _) Δ hΔ;refine⟨Δ',e,h1 _ ?_⟩;have ih:=fun acc' q'=>cU (Q:=Q) enc b y Ok xs Δ' acc' (fun z hz=>h z (.tail _ hz)) hΔ' q';cases hb:b x with
  |true =>
   simp only[if_true];refine h2 hb _ (ih _ ?_);rw[List.filter_cons_of_pos hb]at q;simpa using q
  |false =>
   simp only[F6,if_false];refine ih _ ?_;rw[List.filter_cons_of_neg (by simp[hb])]at q;exact q
theorem jM{α:Type} [DecidableEq α] (f:α->D) (hf:∀x y,eqD (f x) (f y)=decide (x=y)):∀{a b:List α},eI (a.map f) (b.map f)=decide (a=b)
 |[],[]=>by simp[eI]
 |[],_::_=>by simp[eI]
 |_::_,[]=>by simp[eI]
 |x::a,y::b=>by
  rw[N8,N8,eI,jM f hf (a:=a) (b:=b),hf];simp
theorem fU{α:Type}(f:α->D) (hf:∀x,dLe (f x) 59=true) {a:List α}:cz (a.map f) 59=true:=by
 rw[gc];intro d hd;obtain⟨x,_,rfl⟩:=O2.mp hd;exact hf x
theorem rD{α:Type}{p:α->Prop}{xs:List α}{y:α}(h:∀x∈xs,p x) (hy:p y):∀x∈xs++[y],p x:=fun x hx=>by
 rcases K0.mp hx with z|z
 ·exact h x z
 ·obtain rfl:=J5.mp z;exact hy
open Classical in
def gY{α:Type}(l:List α):Bool:=decide l.Nodup
theorem c9{α:Type}{l:List α}:gY l=true↔l.Nodup:=by simp[gY]
theorem gf{α β:Type}{f:α->β}(hf:∀x y,f x=f y->x=y) {l:List α}:gY (l.map f)=gY l:=by
 rw[S0,c9,c9,List.nodup_iff_pairwise_ne,List.nodup_iff_pairwise_ne,List.pairwise_map];exact⟨fun h=>h.imp fun q e=>q (by rw[e]),fun h=>h.imp fun q e=>q (hf _ _ e)⟩
theorem kj{τ:Type}:∀(xs zs:List τ),(xs.foldl fM zs).length<=zs.length+xs.length/\((xs.foldl fM zs).length=zs.length+xs.length->zs.Nodup->(zs++xs).Nodup)
 |[],zs=>by simp
 |x::xs,zs=>by
  rw[W5]
  by_cases h:x∈zs
  ·rw[show fM zs x=zs from if_pos h];have:=(kj xs zs).1;exact⟨by simp;lia,fun e=>by simp at e;lia⟩
  ·rw[show fM zs x=zs++[x]from if_neg h];obtain⟨h1,h2⟩:=kj xs (zs++[x]);refine⟨by simp at h1 ⊢;lia,fun e hn=>?_⟩;have:=h2 (by simp at e ⊢;lia) (by
    rw[Z0];refine⟨hn,by simp,fun a ha b hb=>?_⟩;obtain rfl:=J5.mp hb;rintro rfl;exact h ha)
   simpa using this
theorem ng{τ:Type}:∀(xs zs:List τ),(zs++xs).Nodup->xs.foldl fM zs=zs++xs
 |[],zs,_=>by simp
 |x::xs,zs,h=>by
  have hx:x∉zs:=fun z=>by
   rw[Z0]at h;exact h.2.2 x z x (.head _) rfl
  rw[W5,show fM zs x=zs++[x]from if_neg hx,ng xs _ (by simpa using h)];simp
theorem AI{τ:Type}{xs:List τ}:(((iA xs).length:Int)==(xs.length:Int))=gY xs:=by
 rw[S0,c9,beq_iff_eq];constructor
 ·intro e;have:=(kj xs []).2 (by simp;exact_mod_cast e) List.nodup_nil;simpa using this
 ·intro h;have:iA xs=xs:=by have:=ng xs [] (by simpa using h);simpa[iA]using this
  rw[this]
theorem ku:∀(xs zs:List Str),(xs.foldl dS zs).length<=zs.length+xs.length/\((xs.foldl dS zs).length=zs.length+xs.length->zs.Nodup->(zs++xs).Nodup)
 |[],zs=>by simp
 |x::xs,zs=>by
  rw[W5]
  by_cases h:x∈zs
  ·rw[show dS zs x=zs from if_pos h];have:=(ku xs zs).1;exact⟨by simp;lia,fun e=>by simp at e;lia⟩
  ·rw[show dS zs x=zs++[x]from if_neg h];obtain⟨h1,h2⟩:=ku xs (zs++[x]);refine⟨by simp at h1 ⊢;lia,fun e hn=>?_⟩;have:=h2 (by simp at e ⊢;lia) (by
    rw[Z0];refine⟨hn,by simp,fun a ha b hb=>?_⟩;obtain rfl:=J5.mp hb;rintro rfl;exact h ha)
   simpa using this
theorem mQ:∀(xs zs:List Str),(zs++xs).Nodup->xs.foldl dS zs=zs++xs
 |[],zs,_=>by simp
 |x::xs,zs,h=>by
  have hx:x∉zs:=fun z=>by
   rw[Z0]at h;exact h.2.2 x z x (.head _) rfl
  rw[W5,show dS zs x=zs++[x]from if_neg hx,mQ xs _ (by simpa using h)];simp
theorem zF{xs:List Str}:(((cp xs).length:Int)==(xs.length:Int))=gY xs:=by
 rw[S0,c9,beq_iff_eq];constructor
 ·intro e;have:=(ku xs []).2 (by simp;exact_mod_cast e) List.nodup_nil;simpa using this
 ·intro h;have:cp xs=xs:=by have:=mQ xs [] (by simpa using h);simpa[cp]using this
  rw[this]
def cT:D->Bool
 |.tup ds=>ds.all dg&&decide (ds.length<=5)
 |_=>false
def gX:D->Bool
 |.tup ks=>decide (1<=ks.length)&&decide (ks.length<=4)&&ks.all cT&&gY ks
 |_=>false
def eD(p:D×D):D:=.tup [p.1,p.2]
theorem kM{d:D}(h:aJ d=true):∃x,d=.str x/\dX x=true:=by
 cases d with
 |str x=>exact⟨x,rfl,h⟩
 |_=>cases h
theorem zi{d:D}(h:dg d=true):∃k,d=kd (.tup k)/\∀z∈k,dpK 6 z:=by
 match d,h with
 |.tup [a,b],h =>
  simp only[dg,K1]at h;obtain⟨x,rfl,_⟩:=kM h.1;cases b with
  |int t =>
   refine⟨[.str x,.int t],rfl,fun z hz=>?_⟩;simp only[J3,L9,or_false]at hz;rcases hz with rfl|rfl<;>simp[dpK]
  |_=>cases h.2
theorem yP:∀{ds:List D},ds.all dg=true->∃r:List KD,.tup ds=pD r/\∀z∈r,dpK 7 z
 |[],_=>⟨[],rfl,fun _ h=>by cases h⟩
 |d::ds,h=>by
  simp only[Z3,K1]at h;obtain⟨k,rfl,hk⟩:=zi h.1;obtain⟨r,e,hr⟩:=yP h.2;refine⟨.tup k::r,?_,fun z hz=>?_⟩
  ·simp only[pD,D.tup.injEq]at e ⊢;rw[e];rfl
  ·rcases J3.mp hz with rfl|hz
   ·exact hk
   ·exact hr z hz
theorem uP:∀{ks:List D},ks.all cT=true->∃rs:List (List KD),ks=rs.map pD/\∀k∈rs,dpK 8 (.tup k)
 |[],_=>⟨[],rfl,fun _ h=>by cases h⟩
 |d::ks,h=>by
  simp only[Z3,K1]at h;obtain⟨rs,rfl,hrs⟩:=uP h.2;cases d with
  |tup ds =>
   have h1:=h.1;simp only[cT,K1]at h1;obtain⟨r,e,hr⟩:=yP h1.1;exact⟨r::rs,by rw[N8,<-e],fun k hk=>by
    rcases J3.mp hk with rfl|hk
    ·exact hr
    ·exact hrs k hk⟩
  |_=>cases h.1
theorem pZ:∀x y:Str,D.str x=D.str y->x=y:=fun _ _ h=>by cases h;rfl
theorem Aq{α:Type} [DecidableEq α] (f:α->D) (hf:∀x y,eqD (f x) (f y)=decide (x=y)) (hl:∀x,dLe (f x) 59=true) {a b:List α}:eqF (.lst (a.map f)) (.lst (b.map f))=some (.bl (decide (a=b))):=by
 have h1:dLe (.lst (a.map f)) 60=true:=fU f hl;have h2:dLe (.lst (b.map f)) 60=true:=fU f hl;simp only[eqF,h1,h2,and_self,if_true,eqD,jM f hf]
theorem zh{α:Type} [DecidableEq α] (f:α->D) (hf:∀x y,eqD (f x) (f y)=decide (x=y)) (hl:∀x,dLe (f x) 59=true) {a b:List α}:neF (.lst (a.map f)) (.lst (b.map f))=some (.bl (!decide (a=b))):=by
 have h1:dLe (.lst (a.map f)) 60=true:=fU f hl;have h2:dLe (.lst (b.map f)) 60=true:=fU f hl;simp only[neF,h1,h2,and_self,if_true,eqD,jM f hf]
abbrev Row:=List (Str×Int)
def aS(r:Row):D:=.tup (r.map bH)
def cb(ks:List Row):D:=.tup (ks.map aS)
def cA(e:Str×List Row):D:=.tup [.str e.1,cb e.2]
def dY(ord:List (Str×Str)) (ax:Str) (es:List (Str×List Row)):D:=.tup [.tup (ord.map bK),.str ax,.tup (es.map cA)]
def uN(r:Row):Prop:=r.length<=5/\∀x∈r,bB x.1/\-99<=x.2/\x.2<=99
def oY(ks:List Row):Prop:=1<=ks.length/\ks.length<=4/\ks.Nodup/\∀r∈ks,uN r
def wJ(es:List (Str×List Row)):Prop:=1<=es.length/\es.length<=10/\(es.map (·.1)).Nodup/\∀e∈es,bB e.1/\oY e.2
theorem CB:∀x y:Str×Int,eqD (bH x) (bH y)=decide (x=y):=fun⟨a,b⟩ ⟨c,d⟩=>by
 rw[S0];simp[bH,eqD,eI]
def DX(o:List (Str×Str)):Prop:=o.length<=8/\∀x∈o,bB x.1/\bB x.2
noncomputable def kin(aw:List (Str×List Row)) (w:Str):List Row:=(aw.lookup w).getD []
theorem mO:∀x y:Row,eqD (aS x) (aS y)=decide (x=y):=fun x y=>by
 simp only[aS,eqD];exact jM bH CB
theorem hV(x:Row):dLe (aS x) 59=true:=by
 show cz (x.map bH) 58=true;rw[gc];intro d hd;obtain⟨y,_,rfl⟩:=O2.mp hd;rfl
theorem nT{r:Row}(h:uN r):ai (aS r)=true:=by
 show bg (r.map bH)=true;exact xT fun x hx=>eX (h.2 x hx).1
theorem tW{ks:List Row}(h:∀r∈ks,uN r):ai (cb ks)=true:=by
 show bg (ks.map aS)=true;rw[aQ];intro d hd;obtain⟨r,hr,rfl⟩:=O2.mp hd;exact nT (h r hr)
theorem iU{w:Str}(h:bB w):ai (.str w)=true:=by
 have:=eX h;simp only[ai,decide_eq_true_eq];lia
def eT:SpD:=fun ds M R=>(∃ks:List D,ds=[.tup ks]/\ks.all cT=true/\ks.length<=4/\R (.bl (gY ks)) M)∨∃ws:List Str,ds=[.lst (ws.map .str)]/\ws.length<=10/\R (.bl (gY ws)) M
theorem lh(F:Fun K "are_unlike" "are_unlike" eY f fd) (T:Txt mg) :a7 P w K mg base CX0 1 f fd ["things"] (spD K 1 eT):=by
 have nd:=gQ.nd;refine F.okR rfl gQ (fun cdv A outer s H E hr=>⟨_,(au (aI (cV (pE hr.units) (Fs rfl hr.units rfl T.b_len rfl T.b_set (ae 0)) (aB bM rfl T.b_len (by kernel_rfl) (aa (ae 0) ag)) nbh))),fun ds M R _ hS bk=>?_⟩);refine bk ?_;clear bk;rcases hS with⟨ks,rfl,ha,hl,k⟩|⟨ws,rfl,hl,k⟩
 ·walk_at "rd";obtain⟨rs,rfl,hrs⟩:=uP ha;refine .inl ⟨rs,rfl,hrs,by rw[F3]at hl;lia,?_⟩;rw[F3,AI,<-gf (fun _ _ h=>xx h)];exact k
 ·walk_at "rd";refine .inr ⟨ws,rfl,by lia,?_⟩;rw[F3,zF];exact k
def kU:SpD:=ec cT
theorem qf(F:Fun K "is_kind" "is_kind" iM f fd) (T:Txt mg) (Y6:FnD P w K mg base "is_row" 4 1 jA):a7 P w K mg base CX0 5 f fd ["thing"] (spD K 1 kU):=by
 have nd:=jT.nd;refine F.okR rfl jT (fun cdv A outer s H E hr=>⟨_,(au (aI (bt (qd Y6 hr (aa (ae 0) ag)) (cv (cV lw (aB bM rfl T.b_len (by kernel_rfl) (aa (ae 0) ag)) (eR rfl T.g_MOST_SIGNS) nbh))))),fun ds M R _ hS bk=>?_⟩);obtain⟨d,rfl,hd,k⟩:=hS;refine bk ?_;clear bk;walk_at "rd";refine aG.mpr ⟨hd,?_⟩;cases d with
 |tup ds =>
  walk_at "rd";have e:cT (.tup ds)=(kl (.tup ds)&&decide ((ds.length:Int)<=5)):=by
   simp only[cT,kl];congr 1;rw[S0,decide_eq_true_eq,decide_eq_true_eq];lia
  cases hb:kl (.tup ds)with
  |true =>
   rw[e,hb,N9]at k;exact k
  |false =>
   rw[e,hb,H0]at k;exact k
 |scr _=>simp[ai]at hd
 |ref _=>simp[ai]at hd
 |box _ _=>simp[ai]at hd
 |_=>exact⟨false,rfl,by simp only[F6,if_false];exact k⟩
def jd:SpD:=ec gX
theorem mL(F:Fun K "are_kinds" "are_kinds" dI f fd) (T:Txt mg) (Y0:FnD P w K mg base "are_unlike" 1 1 eT) (gb0:FnD P w K mg base "is_kind" 5 1 kU):a7 P w K mg base CX0 6 f fd ["thing"] (spD K 1 jd):=by
 have nd:=ib.nd;refine F.okR rfl ib (fun cdv A outer s H E hr=>⟨_,(au (aI (bt (cm (Tn:="tuple") (by decide) rfl T.b_isinstance rfl T.b_tuple (by kernel_rfl) (ae 0)) (bt (lK lw lw aj (aB bM rfl T.b_len (by kernel_rfl) (aa (ae 0) ag)) (eR rfl T.g_MOST_KINDS)) (bt (aB (eU rfl) rfl T.b_all (by kernel_rfl) (aa (cX (ms:=[false]) (ao:=["kind"]) (aA (n0:=0) rfl (show aF (ah dI) fJ _ _=true from by decide +kernel)) rfl (aN (ae 0)) (aC (i:=1) (show(fJ++_).Nodup from by decide +kernel) rfl rfl) (fun _ _ _ _=>aT) (fun _ _ _ _=>(qd gb0 hr (aa (ae 1) ag)))) ag)) (cv (qd Y0 hr (aa (ae 0) ag)))))))),fun ds M R _ hS bk=>?_⟩);obtain⟨d,rfl,hd,k⟩:=hS;refine bk ?_;clear bk;walk_at "rd";simp only[bj hd];cases d with
 |tup ks =>
  refine⟨true,rfl,?_⟩;walk_at "rd";have hds:∀d∈ks,ai d=true:=aQ.mp (by simpa[ai]using hd);have e:gX (.tup ks)=(decide (1<=ks.length)&&decide (ks.length<=4)&&ks.all cT&&gY ks):=rfl;refine b6 (fun h1=>b6 (fun h2 hz=>⟨hz,?_⟩) (fun h2=>?_)) (fun h1=>?_)
  ·refine ju (f:=cT) (Δ0:=[none]) (n:=1) (fun d hd' x Q2 q=>?_) ?_
   ·walk_at "rd";exact aG.mpr ⟨hds d hd',q⟩
   ·refine⟨_,bZ,_,rfl,?_⟩;have e2:(ks.map cT).all id=ks.all cT:=by rw[Q6];rfl
    rw[e2];rw[e,decide_eq_true (by lia:1<=ks.length),decide_eq_true (by lia:ks.length<=4),N9,N9]at k;refine b6 (fun h=>.inl ⟨ks,rfl,h,by lia,?_⟩) (fun h=>?_)
    ·rw[h,N9]at k;exact k
    ·rw[show ks.all cT=false by simpa using h,H0]at k;exact k
  ·rw[e,decide_eq_false (by lia:¬ ks.length<=4),P7,H0,H0]at k;exact k
  ·rw[e,decide_eq_false (by lia:¬ 1<=ks.length),H0,H0,H0]at k;exact k
 |scr _=>simp[ai]at hd
 |ref _=>simp[ai]at hd
 |box _ _=>simp[ai]at hd
 |_=>exact⟨false,rfl,by simp only[F6,if_false];exact k⟩
def dn:D->Bool
 |.tup [a,b]=>aJ a&&gX b
 |_=>false
def vo:D->D
 |.tup (a::_)=>a
 |_=>.non
def fN:D->Bool
 |.tup ds=>decide (1<=ds.length)&&decide (ds.length<=10)&&ds.all dn&&gY (ds.map vo)
 |_=>false
def iL:D->Bool
 |.tup [o,g,e]=>gI o&&aJ g&&fN e
 |_=>false
theorem qG{ds:List D}(h:¬ ds.length=2):dn (.tup ds)=false:=by
 match ds,h with
 |[],_=>rfl
 |[_],_=>rfl
 |[_,_],h=>exact absurd rfl h
 |_::_::_::_,_=>rfl
theorem qH{ds:List D}(h:¬ ds.length=3):iL (.tup ds)=false:=by
 match ds,h with
 |[],_=>rfl
 |[_],_=>rfl
 |[_,_],_=>rfl
 |[_,_,_],h=>exact absurd rfl h
 |_::_::_::_::_,_=>rfl
def eS(p:Str×D):D:=.tup [.str p.1,p.2]
theorem pU:∀{ds:List D},ds.all dn=true->∃es:List (Str×D),ds=es.map eS
 |[],_=>⟨[],rfl⟩
 |d::ds,h=>by
  simp only[Z3,K1]at h;obtain⟨es,rfl⟩:=pU h.2
  match d,h.1 with
  |.tup [a,b],h1 =>
   simp only[dn,K1]at h1;obtain⟨x,rfl,_⟩:=kM h1.1;exact⟨(x,b)::es,rfl⟩
theorem xO{es:List (Str×D)}:(es.map eS).map vo=(es.map (·.1)).map D.str:=by
 rw[S5,S5];rfl
def jQ:SpD:=ec dn
theorem nN(F:Fun K "is_entry" "is_entry" gB f fd) (T:Txt mg) (G3:FnD P w K mg base "is_tuple_of" 1 2 bO) (G4:FnD P w K mg base "is_short_word" 1 1 bA) (ga4:FnD P w K mg base "are_kinds" 6 1 jd):a7 P w K mg base CX0 7 f fd ["thing"] (spD K 1 jQ):=by
 have nd:=jg.nd;refine F.okR rfl jg (fun cdv A outer s H E hr=>⟨_,(au (aI (bt (qd G3 hr (aa (ae 0) (aa aj ag))) (bt (qd G4 hr (aa (bp bo (ae 0) aj (fun _ _=>rfl)) ag)) (cv (qd ga4 hr (aa (bp bo (ae 0) aj (fun _ _=>rfl)) ag))))))),fun ds M R _ hS bk=>?_⟩);obtain⟨d,rfl,hd,k⟩:=hS;refine bk ?_;clear bk;walk_at "rd";refine ck.mpr ⟨hd,?_⟩;walk_at "rd";cases d with
 |tup ds =>
  by_cases hl:ds.length=2
  ·match ds,hl,hd,k with
   |[a,b],_,hd,k =>
    have hab:ai a=true/\ai b=true:=by simpa[ai,bg]using hd
    rw[if_pos (by rfl)];walk_at "rd";refine bT.mpr ⟨hab.1,?_⟩;walk_at "rd";simp only[dn]at k;refine b6 (fun h=>aG.mpr ⟨hab.2,?_⟩) (fun h=>?_)
    ·rw[h,N9]at k;exact k
    ·rw[show aJ a=false by simpa using h,H0]at k;exact k
  ·rw[if_neg (by simp only[fw];simp;lia)];rw[qG hl]at k;exact k
 |scr _=>simp[ai]at hd
 |ref _=>simp[ai]at hd
 |box _ _=>simp[ai]at hd
 |_=>rw[if_neg (by simp[fw])];exact k
def gT:SpD:=ec fN
theorem kz(F:Fun K "are_entries" "are_entries" bY f fd) (T:Txt mg) (Y0:FnD P w K mg base "are_unlike" 1 1 eT) (ga7:FnD P w K mg base "is_entry" 7 1 jQ):a7 P w K mg base CX0 8 f fd ["thing"] (spD K 1 gT):=by
 have nd:=fT.nd;refine F.okR rfl fT (fun cdv A outer s H E hr=>⟨_,(au (aI (bt (cm (Tn:="tuple") (by decide) rfl T.b_isinstance rfl T.b_tuple (by kernel_rfl) (ae 0)) (bt (lK lw lw aj (aB bM rfl T.b_len (by kernel_rfl) (aa (ae 0) ag)) (eR rfl T.g_MOST_ENTRIES)) (bt (aB (eU rfl) rfl T.b_all (by kernel_rfl) (aa (cX (ms:=[false]) (ao:=["entry"]) (aA (n0:=0) rfl (show aF (ah bY) bP _ _=true from by decide +kernel)) rfl (aN (ae 0)) (aC (i:=1) (show(bP++_).Nodup from by decide +kernel) rfl rfl) (fun _ _ _ _=>aT) (fun _ _ _ _=>(qd ga7 hr (aa (ae 1) ag)))) ag)) (cv (qd Y0 hr (aa (cX (ms:=[false]) (ao:=["word","kinds"]) (aA (n0:=0) rfl (show aF (ah bY) bP _ _=true from by decide +kernel)) rfl (aN (ae 0)) (ik (n:=2) rfl (bS (aC (i:=1) (show(bP++_).Nodup from by decide +kernel) rfl rfl) (bS (aC (i:=2) (show(bP++_).Nodup from by decide +kernel) rfl rfl) ij))) (fun _ _ _ _=>aT) (fun _ _ _ _=>(ae 1))) ag)))))))),fun ds M R _ hS bk=>?_⟩);obtain⟨d,rfl,hd,k⟩:=hS;refine bk ?_;clear bk;walk_at "rd";simp only[bj hd];cases d with
 |tup ds =>
  refine⟨true,rfl,?_⟩;walk_at "rd";have hds:∀d∈ds,ai d=true:=aQ.mp (by simpa[ai]using hd);have e:fN (.tup ds)=(decide (1<=ds.length)&&decide (ds.length<=10)&&ds.all dn&&gY (ds.map vo)):=rfl;refine b6 (fun h1=>b6 (fun h2 hz=>⟨hz,?_⟩) (fun h2=>?_)) (fun h1=>?_)
  ·refine ju (f:=dn) (Δ0:=[none]) (n:=1) (fun d hd' x Q2 q=>?_) ?_
   ·walk_at "rd";exact aG.mpr ⟨hds d hd',q⟩
   ·refine⟨_,bZ,_,rfl,?_⟩;have e2:(ds.map dn).all id=ds.all dn:=by rw[Q6];rfl
    rw[e2];rw[e,decide_eq_true (by lia:1<=ds.length),decide_eq_true (by lia:ds.length<=10),N9,N9]at k;refine b6 (fun h hz2=>⟨hz2,?_⟩) (fun h=>?_)
    ·rw[h,N9]at k;obtain⟨es,rfl⟩:=pU h;refine cU eS (fun _=>true) (fun p=>D.str p.1) (fun Δ=>∃x y,Δ=[none,x,y]) es _ _ (fun p hp Δ hΔ=>?_) ⟨none,none,rfl⟩ ?_
     ·obtain⟨x,y,rfl⟩:=hΔ;refine⟨_,rfl,⟨_,_,rfl⟩,fun Q1 q=>q,fun _ Q2 q=>?_⟩;walk_at "rd";exact q
     rw[M9,N4.mpr (fun _ _=>rfl)];rw[xO,gf pZ]at k;rw[F3]at h2;exact .inr ⟨es.map (·.1),by rw[S5];rfl,by rw[F3];lia,k⟩
    ·rw[show ds.all dn=false by simpa using h,H0]at k;exact k
  ·rw[e,decide_eq_false (by lia:¬ ds.length<=10),P7,H0,H0]at k;exact k
  ·rw[e,decide_eq_false (by lia:¬ 1<=ds.length),H0,H0,H0]at k;exact k
 |scr _=>simp[ai]at hd
 |ref _=>simp[ai]at hd
 |box _ _=>simp[ai]at hd
 |_=>exact⟨false,rfl,by simp only[F6,if_false];exact k⟩
def fe:SpD:=ec iL
theorem lq(F:Fun K "is_lexicon" "is_lexicon" fk f fd) (T:Txt mg) (G3:FnD P w K mg base "is_tuple_of" 1 2 bO) (Y1:FnD P w K mg base "is_order" 4 1 eG) (G7:FnD P w K mg base "is_mark" 2 1 dO) (ga0:FnD P w K mg base "are_entries" 8 1 gT):a7 P w K mg base CX0 9 f fd ["thing"] (spD K 1 fe):=by
 have nd:=gV.nd;refine F.okR rfl gV (fun cdv A outer s H E hr=>⟨_,(au (aI (bt (qd G3 hr (aa (ae 0) (aa aj ag))) (bt (qd Y1 hr (aa (bp bo (ae 0) aj (fun _ _=>rfl)) ag)) (bt (qd G7 hr (aa (bp bo (ae 0) aj (fun _ _=>rfl)) ag)) (cv (qd ga0 hr (aa (bp bo (ae 0) aj (fun _ _=>rfl)) ag)))))))),fun ds M R _ hS bk=>?_⟩);obtain⟨d,rfl,hd,k⟩:=hS;refine bk ?_;clear bk;walk_at "rd";refine ck.mpr ⟨hd,?_⟩;walk_at "rd";cases d with
 |tup ds =>
  by_cases hl:ds.length=3
  ·match ds,hl,hd,k with
   |[a,b,c],_,hd,k =>
    have hab:ai a=true/\ai b=true/\ai c=true:=by simpa[ai,bg]using hd
    rw[if_pos (by rfl)];walk_at "rd";refine g9.mpr ⟨hab.1,_,rfl,?_⟩;simp only[iL]at k;refine b6 (fun h=>dH.mpr ⟨hab.2.1,_,rfl,?_⟩) (fun h=>?_)
    ·rw[h,N9]at k;refine b6 (fun h2=>aG.mpr ⟨hab.2.2,?_⟩) (fun h2=>?_)
     ·rw[h2,N9]at k;exact k
     ·rw[show aJ b=false by simpa using h2,H0]at k;exact k
    ·rw[show gI a=false by simpa using h,H0,H0]at k;exact k
  ·rw[if_neg (by simp only[fw];simp;lia)];rw[qH hl]at k;exact k
 |scr _=>simp[ai]at hd
 |ref _=>simp[ai]at hd
 |box _ _=>simp[ai]at hd
 |_=>rw[if_neg (by simp[fw])];exact k
theorem Dy{a b:TSd}{E:dQ}{Δ:DE}{M:DH}(C:DE->DH->Prop) (h1:∀nx,(∀ Δ' M',C Δ' M'->nx Δ' M')->a { E with nx:=nx } Δ M) (h2:∀ Δ' M',C Δ' M'->b E Δ' M'):yb a b E Δ M:=h1 _ h2
theorem rZ:∀{ds:List D},(∀d∈ds,fw d 2=true)->∃ps:List (D×D),ds=ps.map eD
 |[],_=>⟨[],rfl⟩
 |d::ds,h=>by
  obtain⟨ps,rfl⟩:=rZ fun x hx=>h x (.tail _ hx);have h0:=h d (.head _);cases d with
  |tup l =>
   have hl:l.length=2:=by
    have:((l.length:Int)==2)=true:=h0;have:=beq_iff_eq.mp this;lia
   match l,hl with
   |[a,b],_=>exact⟨(a,b)::ps,rfl⟩
  |_=>cases h0
theorem rR:∀{ds:List D},ds.all dg=true->∃r:Row,ds=r.map bH
 |[],_=>⟨[],rfl⟩
 |d::ds,h=>by
  simp only[Z3,K1]at h;obtain⟨r,rfl⟩:=rR h.2
  match d,h.1 with
  |.tup [a,b],h1 =>
   simp only[dg,K1]at h1;obtain⟨x,rfl,_⟩:=kM h1.1;cases b with
   |int t=>exact⟨(x,t)::r,rfl⟩
   |_=>cases h1.2
theorem uo:∀{ks:List D},ks.all cT=true->∃rs:List Row,ks=rs.map aS
 |[],_=>⟨[],rfl⟩
 |d::ks,h=>by
  simp only[Z3,K1]at h;obtain⟨rs,rfl⟩:=uo h.2;cases d with
  |tup ds =>
   have h1:=h.1;simp only[cT,K1]at h1;obtain⟨r,rfl⟩:=rR h1.1;exact⟨r::rs,rfl⟩
  |_=>cases h.1
theorem oC:∀x y:Row,aS x=aS y->x=y:=fun x y h=>by
 have:=mO x y;rw[h,show eqD (aS y) (aS y)=true by rw[mO];simp]at this;simpa using this.symm
theorem u7{α:Type} [DecidableEq α] {f:α->D}(hf:∀x y,eqD (f x) (f y)=decide (x=y)) {l:List α}{x:α}:((l.map f).any fun d=>eqD d (f x))=decide (x∈l):=by
 rw[S0,List.any_map,ab9,decide_eq_true_eq];constructor
 ·rintro⟨y,hy,h⟩;have:y=x:=by simpa[hf]using h
  rw[<-this];exact hy
 ·intro h;exact⟨x,h,by simp[hf]⟩
def jt{α:Type} [DecidableEq α] (l:List α) (i:Nat):Bool:=match l[i]? with
 |some x=>not (decide (x∈l.take i))
 |none=>true
theorem n9{α:Type} [DecidableEq α] {l:List α}:((P0 l.length).map (jt l)).all id=gY l:=by
 rw[S0,c9,Q6,N5,List.Nodup,List.pairwise_iff_getElem];constructor
 ·intro h i j hi hj hij e;have:=h j (R0.mpr hj);simp only[an3,id,jt,F4 hj]at this;have h2:l[j]∈l.take j:=by
   rw[<-e];exact X0.mpr ⟨i,by rw[P4];lia,by rw[List.getElem_take]⟩
  rw[decide_eq_true h2]at this;cases this
 ·intro h j hj;have hj:=R0.mp hj;simp only[an3,id,jt,F4 hj];rw[decide_eq_false]
  ·rfl
  intro hm;obtain⟨i,hi,e⟩:=X0.mp hm;rw[P4]at hi;rw[List.getElem_take]at e;exact h i j (by lia) hj (by lia) e
def fv:SpD:=ec aJ
theorem pO(F:Fun K "_law_is_mark" "_law_is_mark" fD f fd) (T:Txt mg) :a7 P w K mg base CX0 1 f fd ["_law_thing"] (spD K 1 fv):=by
 have nd:=jZ.nd;refine F.okR rfl jZ (fun cdv A outer s H E hr=>⟨_,(ak (cn (mE (dM (bC (bw (cm (Tn:="str") (by decide) rfl T.b_isinstance rfl T.b_str (by kernel_rfl) (ae 0)))) (dM (cf xM (aB bM rfl T.b_len (by kernel_rfl) (aa (ae 0) ag)) aj nbh) (fH (cf vy (aB bM rfl T.b_len (by kernel_rfl) (aa (ae 0) ag)) aj nbh))))) (au (aI dR)) bN)
   (au (aI (aB (eU rfl) rfl T.b_all (by kernel_rfl) (aa (cX (ms:=[false]) (ao:=["_law_sign"]) (aA (n0:=0) rfl (show aF (ah fD) iI _ _=true from by decide +kernel)) rfl (aN (ae 0)) (aC (i:=1) (show(iI++_).Nodup from by decide +kernel) rfl rfl) (fun _ _ _ _=>aT) (fun _ _ _ _=>(cV yB (ae 1) bV rfl))) ag))))),fun ds M R _ hS bk=>?_⟩)
 obtain⟨d,rfl,hd,k⟩:=hS;refine bk ?_;clear bk;walk_at "rd";simp only[bj hd];cases d with
 |str x =>
  have hx:x.length<=1000000:=by simpa[ai]using hd
  refine⟨true,rfl,?_⟩;rw[if_neg (by simp)];walk_at "rd";refine⟨_,if_pos (szB _ (by lia)),?_⟩;walk_at "rd";have hsl:x.length=x.cps.toList.length:=by show x.cps.size=_;simp
  refine b6 (fun h1=>?_) (fun h1=>⟨_,if_pos (szB _ (by lia)),_,rfl,_,rfl,b6 (fun h2=>?_) (fun h2=>?_)⟩)
  ·have e2:aJ (.str x)=false:=by simp only[aJ,dX,decide_eq_false (by lia:¬ 1<=x.length),H0]
   rw[e2]at k;exact k
  ·have h2:¬ x.length<=8:=by
    have:(8:Int)<(x.length:Int):=by simpa using h2
    lia
   have e2:aJ (.str x)=false:=by simp only[aJ,dX,decide_eq_false h2,P7,H0]
   rw[e2]at k;exact k
  ·have h2:x.length<=8:=by
    have:(x.length:Int)<=8:=by simpa using h2
    lia
   refine⟨_,if_pos (szB _ (by lia)),fun hz=>⟨hz,?_⟩⟩;refine bf (fun _=>true) (fun d=>match d with|.str y=>.bl (y.cps.toList.all fun c=>decide (c∈cJ))|_=>.non) (fun Δ=>∃x,Δ=[none,x]) _ _ _ (fun d hd Δ hΔ=>?_) ⟨none,rfl⟩ ?_
   ·obtain⟨x1,rfl⟩:=hΔ;obtain⟨c,_,rfl⟩:=O2.mp (show d∈x.cps.toList.map fun c=>D.str (tx [c])from hd);refine⟨_,rfl,⟨_,rfl⟩,fun Q1 q=>q,fun _ Q2 q=>?_⟩;walk_at "rd";simp only[wW,al2,exists_eq_left',Bool.false_xor];rw[show(F5 "abcdefghijklmnopqrstuvwxyz").cps.toList=cJ from ux];simpa[dJ]using q
   ·rw[M9,N4.mpr (fun _ _=>rfl)];have e:(L2.bJ x).map (fun d=>match d with|.str y=>D.bl (y.cps.toList.all fun c=>decide (c∈cJ))|_=>.non)=(x.cps.toList.map fun c=>decide (c∈cJ)).map D.bl:=by
     unfold L2.bJ;rw[S5,S5];apply ai5;intro c _;simp
    rw[e];refine⟨_,bZ,?_⟩;have e2:(x.cps.toList.map fun c=>decide (c∈cJ)).all id=dX x:=by
     unfold dX;rw[Q6,decide_eq_true (by lia:1<=x.length),decide_eq_true h2];rfl
    rw[e2];exact k
 |scr _=>simp[ai]at hd
 |ref _=>simp[ai]at hd
 |box _ _=>simp[ai]at hd
 |_=>exact⟨false,rfl,by rw[if_pos (show(!false)=true from rfl)];exact k⟩
def k9:SpD:=ec dg
theorem pK(F:Fun K "_law_is_sign" "_law_is_sign" hU f fd) (T:Txt mg) (G6:FnD P w K mg base "_law_is_mark" 1 1 fv):a7 P w K mg base CX0 2 f fd ["_law_thing"] (spD K 1 k9):=by
 have nd:=jW.nd;refine F.okR rfl jW (fun cdv A outer s H E hr=>⟨_,(ak (cn (mE (dM (bC (bw (cm (Tn:="tuple") (by decide) rfl T.b_isinstance rfl T.b_tuple (by kernel_rfl) (ae 0)))) (dM (cf (xQ hr.units) (aB bM rfl T.b_len (by kernel_rfl) (aa (ae 0) ag)) aj nbh) (fH (bC (bw (qd G6 hr (aa (bp bo (ae 0) aj (fun _ _=>rfl)) ag)))))))) (au (aI dR)) bN)
   (au (aI (bt (cm (Tn:="int") (by decide) rfl T.b_isinstance rfl T.b_int (by kernel_rfl) (bp bo (ae 0) aj (fun _ _=>rfl))) (bt (Bs (cm (Tn:="bool") (by decide) rfl T.b_isinstance rfl T.b_bool (by kernel_rfl) (bp bo (ae 0) aj (fun _ _=>rfl)))) (bt (cV lw (qP rJ aj) (bp bo (ae 0) aj (fun _ _=>rfl)) nbh) (cv (cV lw (bp bo (ae 0) aj (fun _ _=>rfl)) aj nbh)))))))),fun ds M R _ hS bk=>?_⟩)
 obtain⟨d,rfl,hd,k⟩:=hS;refine bk ?_;clear bk;walk_at "rd";simp only[bj hd];cases d with
 |tup ds =>
  refine⟨true,rfl,?_⟩;rw[if_neg (by simp)];walk_at "rd"
  by_cases hl:ds.length=2
  ·match ds,hl,hd,k with
   |[a,b],_,hd,k =>
    have hab:ai a=true/\ai b=true:=by simpa[ai,bg]using hd
    walk_at "rd";rw[if_neg (by decide)];refine aG.mpr ⟨hab.1,_,rfl,?_⟩;simp only[bj hab.2];simp only[dg]at k;refine b6 (fun h=>?_) (fun h=>?_)
    ·rw[show aJ a=false by simpa using h,H0]at k;exact k
    have ha:aJ a=true:=by simpa using h
    rw[ha,N9]at k;cases b with
    |int t =>
     refine⟨true,rfl,?_⟩;rw[if_pos rfl];refine⟨false,rfl,?_⟩;rw[if_pos (by rfl)];refine⟨_,rfl,_,rfl,?_⟩;simp only[rE]at k;refine b6 (fun h1=>⟨_,rfl,?_⟩) (fun h1=>?_)
     ·rw[show decide (-99<=t)=true from h1,N9]at k;exact k
     ·rw[show decide (-99<=t)=false by simpa using h1,H0]at k;exact k
    |bl v =>
     refine⟨true,rfl,?_⟩;rw[if_pos rfl];refine⟨true,rfl,?_⟩;rw[if_neg (by decide)];exact k
    |scr _=>simp[ai]at hab
    |ref _=>simp[ai]at hab
    |box _ _=>simp[ai]at hab
    |_=>exact⟨false,rfl,by rw[if_neg (by simp)];exact k⟩
  ·rw[if_pos (by simpa using fun e:(ds.length:Int)=2=>hl (by lia))];rw[ou hl]at k;exact k
 |scr _=>simp[ai]at hd
 |ref _=>simp[ai]at hd
 |box _ _=>simp[ai]at hd
 |_=>exact⟨false,rfl,by rw[if_pos (show(!false)=true from rfl)];exact k⟩
def jx:SpD:=ec kl
theorem qI(F:Fun K "_law_is_row" "_law_is_row" gj f fd) (T:Txt mg) (gb5:FnD P w K mg base "_law_is_sign" 2 1 k9):a7 P w K mg base CX0 3 f fd ["_law_thing"] (spD K 1 jx):=by
 have nd:=lb.nd;refine F.okR rfl lb (fun cdv A outer s H E hr=>⟨_,(au (aI (bt (cm (Tn:="tuple") (by decide) rfl T.b_isinstance rfl T.b_tuple (by kernel_rfl) (ae 0)) (cv (aB (eU rfl) rfl T.b_all (by kernel_rfl) (aa (cX (ms:=[false]) (ao:=["_law_one"]) (aA (n0:=0) rfl (show aF (ah gj) jy _ _=true from by decide +kernel)) rfl (aN (ae 0)) (aC (i:=1) (show(jy++_).Nodup from by decide +kernel) rfl rfl) (fun _ _ _ _=>aT) (fun _ _ _ _=>(qd gb5 hr (aa (ae 1) ag)))) ag)))))),fun ds M R _ hS bk=>?_⟩);obtain⟨d,rfl,hd,k⟩:=hS;refine bk ?_;clear bk;walk_at "rd";simp only[bj hd];cases d with
 |tup ds =>
  refine⟨true,rfl,?_⟩;walk_at "rd";have hds:∀d∈ds,ai d=true:=aQ.mp (by simpa[ai]using hd);intro hz;refine⟨hz,ju (f:=dg) (Δ0:=[none]) (n:=1) (fun d hd' x Q2 q=>?_) ?_⟩
  ·walk_at "rd";exact aG.mpr ⟨hds d hd',q⟩
  ·refine⟨_,bZ,?_⟩;have e:(ds.map dg).all id=kl (.tup ds):=by
    simp only[kl,Q6];rfl
   rw[e];exact k
 |scr _=>simp[ai]at hd
 |ref _=>simp[ai]at hd
 |box _ _=>simp[ai]at hd
 |_=>exact⟨false,rfl,by simp only[F6,if_false];exact k⟩
def gE:SpD:=ec gI
theorem nv(F:Fun K "_law_is_order" "_law_is_order" c7 f fd) (T:Txt mg) (G6:FnD P w K mg base "_law_is_mark" 1 1 fv):a7 P w K mg base CX0 2 f fd ["_law_thing"] (spD K 1 gE):=by
 have nd:=ji.nd;refine F.okR rfl ji (fun cdv A outer s H E hr=>⟨_,(ak (cn (mE (dM (bC (bw (cm (Tn:="tuple") (by decide) rfl T.b_isinstance rfl T.b_tuple (by kernel_rfl) (ae 0)))) (fH (cf vy (aB bM rfl T.b_len (by kernel_rfl) (aa (ae 0) ag)) aj nbh)))) (au (aI dR)) bN)
   (ak (cn (bC (bw (aB (eU rfl) rfl T.b_all (by kernel_rfl) (aa (cX (ms:=[false]) (ao:=["_law_pair"]) (aA (n0:=0) rfl (show aF (ah c7) cy _ _=true from by decide +kernel)) rfl (aN (ae 0)) (aC (i:=1) (show(cy++_).Nodup from by decide +kernel) rfl rfl) (fun _ _ _ _=>aT) (fun _ _ _ _=>(bt (cm (Tn:="tuple") (by decide) rfl T.b_isinstance rfl T.b_tuple (by kernel_rfl) (ae 1)) (cv (cV (pE hr.units) (aB bM rfl T.b_len (by kernel_rfl) (aa (ae 1) ag)) aj nbh))))) ag)))) (au (aI dR)) bN)
   (au (aI (aB (eU rfl) rfl T.b_all (by kernel_rfl) (aa (cX (ms:=[false]) (ao:=["_law_low","_law_high"]) (aA (n0:=0) rfl (show aF (ah c7) cy _ _=true from by decide +kernel)) rfl (aN (ae 0)) (ik (n:=2) rfl (bS (aC (i:=1) (show(cy++_).Nodup from by decide +kernel) rfl rfl) (bS (aC (i:=2) (show(cy++_).Nodup from by decide +kernel) rfl rfl) ij))) (fun _ _ _ _=>aT) (fun _ _ _ _=>(bt (qd G6 hr (aa (ae 1) ag)) (cv (qd G6 hr (aa (ae 2) ag)))))) ag)))))),fun ds M R _ hS bk=>?_⟩)
 obtain⟨d,rfl,hd,k⟩:=hS;refine bk ?_;clear bk;walk_at "rd";simp only[bj hd];cases d with
 |tup ds =>
  refine⟨true,rfl,?_⟩;rw[if_neg (by simp)];walk_at "rd";have hds:∀d∈ds,ai d=true:=aQ.mp (by simpa[ai]using hd);refine b6 (fun h1=>?_) (fun h1 hz=>⟨hz,?_⟩)
  ·rw[show gI (.tup ds)=false by simp only[gI,decide_eq_false (by lia:¬ ds.length<=8),H0]]at k;exact k
  have eo:gI (.tup ds)=ds.all fC:=by simp only[gI,decide_eq_true (by lia:ds.length<=8),N9]
  refine ju (f:=fun d=>fw d 2) (Δ0:=[none]) (n:=1) (fun d hd' x Q2 q=>?_) ?_
  ·walk_at "rd";simp only[bj (hds d hd')];cases d with
   |tup ss =>
    refine⟨true,rfl,?_⟩;rw[if_pos rfl];exact⟨_,rfl,_,wf,q⟩
   |scr _=>have:=hds _ hd';simp[ai]at this
   |ref _=>have:=hds _ hd';simp[ai]at this
   |box _ _=>have:=hds _ hd';simp[ai]at this
   |_=>exact⟨false,rfl,by rw[if_neg (by simp)];exact q⟩
  ·refine⟨_,bZ,_,rfl,b6 (fun h2=>?_) (fun h2 hz2=>⟨hz2,?_⟩)⟩
   ·have:ds.all fC=false:=by
     refine eq_false_of_ne_true fun z=>?_;have h3:((ds.map fun d=>fw d 2).all id)=true:=by
      rw[Q6,N5];intro d hd';have:=N5.mp z d hd'
      match d,this with
      |.tup [_,_],_=>rfl
     rw[h3]at h2;cases h2
    rw[eo,this]at k;exact k
   have h3:((ds.map fun d=>fw d 2).all id)=true:=by simpa using h2
   rw[Q6,N5]at h3;obtain⟨ps,rfl⟩:=rZ (fun d hd'=>h3 d hd');refine cU eD (fun _=>true) (fun p=>D.bl (fC (eD p))) (fun Δ=>∃x y,Δ=[none,x,y]) ps _ _ (fun p hp Δ hΔ=>?_) ⟨none,none,rfl⟩ ?_
   ·obtain⟨x,y,rfl⟩:=hΔ;have hg:ai p.1=true/\ai p.2=true:=by simpa[eD,ai,bg]using hds _ (O2.mpr ⟨p,hp,rfl⟩)
    refine⟨_,rfl,⟨_,_,rfl⟩,fun Q1 q=>q,fun _ Q2 q=>?_⟩;walk_at "rd";have ep:fC (eD p)=(aJ p.1&&aJ p.2):=rfl;rw[ep]at q;refine aG.mpr ⟨hg.1,_,rfl,b6 (fun h=>aG.mpr ⟨hg.2,?_⟩) (fun h=>?_)⟩
    ·rw[h,N9]at q;exact q
    ·rw[show aJ p.1=false by simpa using h,H0]at q;exact q
   rw[M9,N4.mpr (fun _ _=>rfl)];have:=bZ (bs:=ps.map fun p=>fC (eD p));rw[S5,Q6]at this;refine⟨_,this,?_⟩;rw[eo,Q6]at k;exact k
 |scr _=>simp[ai]at hd
 |ref _=>simp[ai]at hd
 |box _ _=>simp[ai]at hd
 |_=>exact⟨false,rfl,by rw[if_pos (show(!false)=true from rfl)];exact k⟩
def i6:SpD:=ec gX
theorem mv(F:Fun K "_law_are_kinds" "_law_are_kinds" cL f fd) (T:Txt mg) (Y4:FnD P w K mg base "_law_is_row" 3 1 jx):a7 P w K mg base CX0 4 f fd ["_law_thing"] (spD K 1 i6):=by
 have nd:=iG.nd;refine F.okR rfl iG (fun cdv A outer s H E hr=>⟨_,(ak (cn (mE (dM (bC (bw (cm (Tn:="tuple") (by decide) rfl T.b_isinstance rfl T.b_tuple (by kernel_rfl) (ae 0)))) (dM (cf xM (aB bM rfl T.b_len (by kernel_rfl) (aa (ae 0) ag)) aj nbh) (fH (cf vy (aB bM rfl T.b_len (by kernel_rfl) (aa (ae 0) ag)) aj nbh))))) (au (aI dR)) bN)
   (ak (cn (bC (bw (aB (eU rfl) rfl T.b_all (by kernel_rfl) (aa (cX (ms:=[false]) (ao:=["_law_row"]) (aA rfl (show aF (ah cL) cH _ _=true from by decide +kernel)) rfl (aN (ae 0)) (aC (i:=1) (show(cH++_).Nodup from by decide +kernel) rfl rfl) (fun _ _ _ _=>aT) (fun _ _ _ _=>(bt (qd Y4 hr (aa (ae 1) ag)) (cv (cV xM (aB bM rfl T.b_len (by kernel_rfl) (aa (ae 1) ag)) aj nbh))))) ag)))) (au (aI dR)) bN)
   (au (aI (aB (eU rfl) rfl T.b_all (by kernel_rfl) (aa (cX (ms:=[true]) (ao:=["_law_k"]) (aA rfl (show aF (ah cL) cH _ _=true from by decide +kernel)) rfl (dG rfl T.b_range (aa (aB bM rfl T.b_len (by kernel_rfl) (aa (ae 0) ag)) ag)) (aC (i:=1) (show(cH++_).Nodup from by decide +kernel) rfl rfl) (fun _ _ _ _=>aT) (fun _ _ _ _=>(cV (sd hr.units) (bp bo (ae 0) (ae 1) (fun _ _=>rfl)) (aU (ae 0) bq (br (ae 1))) rfl))) ag)))))),fun ds M R _ hS bk=>?_⟩)
 obtain⟨d,rfl,hd,k⟩:=hS;refine bk ?_;clear bk;walk_at "rd";simp only[bj hd];cases d with
 |tup ks =>
  refine⟨true,rfl,?_⟩;rw[if_neg (by simp)];walk_at "rd";have hds:∀d∈ks,ai d=true:=aQ.mp (by simpa[ai]using hd);have e:gX (.tup ks)=(decide (1<=ks.length)&&decide (ks.length<=4)&&ks.all cT&&gY ks):=rfl;refine b6 (fun h1=>?_) (fun h1=>b6 (fun h2=>?_) (fun h2 hz=>⟨hz,?_⟩))
  ·rw[e,decide_eq_false (by lia:¬ 1<=ks.length),H0,H0,H0]at k;exact k
  ·rw[e,decide_eq_false (by lia:¬ ks.length<=4),P7,H0,H0]at k;exact k
  rw[e,decide_eq_true (by lia:1<=ks.length),decide_eq_true (by lia:ks.length<=4),N9,N9]at k;refine ju (f:=cT) (Δ0:=[none]) (n:=1) (fun d hd' x Q2 q=>?_) ?_
  ·walk_at "rd";refine aG.mpr ⟨hds d hd',_,rfl,?_⟩;cases d with
   |tup ss =>
    have ek:cT (.tup ss)=(kl (.tup ss)&&decide (ss.length<=5)):=rfl;rw[ek]at q;refine b6 (fun h=>⟨_,rfl,_,rfl,?_⟩) (fun h=>?_)
    ·rw[h,N9]at q;rw[show decide ((ss.length:Int)<6)=decide (ss.length<=5)by rw[S0,decide_eq_true_eq,decide_eq_true_eq];lia];exact q
    ·rw[show kl (.tup ss)=false by simpa using h,H0]at q;exact q
   |scr _=>have:=hds _ hd';simp[ai]at this
   |ref _=>have:=hds _ hd';simp[ai]at this
   |box _ _=>have:=hds _ hd';simp[ai]at this
   |_=>exact q
  ·refine⟨_,bZ,_,rfl,?_⟩;have e2:(ks.map cT).all id=ks.all cT:=by rw[Q6];rfl
   rw[e2];refine b6 (fun h=>?_) (fun h=>?_)
   ·rw[show ks.all cT=false by simpa using h,H0]at k;exact k
   have h:ks.all cT=true:=by simpa using h
   rw[h,N9]at k;obtain⟨rs,rfl⟩:=uo h;rw[F3,W1]at *
   refine⟨by lia,by lia,by rw[cx];exact sz3 _ (by lia),?_⟩;refine jF (fun j acc Δ M2=>∃x,Δ=[some (D.tup (rs.map aS)),x]/\M2=M/\acc=((P0 j).map (jt rs)).map D.bl) ⟨none,rfl,rfl,rfl⟩ ?_ ?_
   ·rintro j d acc Δ M2 Y hd2 ⟨x,rfl,rfl,rfl⟩ k2;obtain⟨hj,rfl⟩:=gb hd2;refine⟨_,rfl,?_⟩;rw[Int.zero_add];simp only[nR];walk_at "rd";obtain⟨r,hr⟩:∃r,rs[j]?=some r:=⟨_,F4 hj⟩;refine⟨aS r,dA (by rw[N0,hr];rfl),?_⟩;rw[ki,<-aq4];have hle:cz ((rs.take j).map aS) 59=true:=gc.mpr fun d hd=>by
     obtain⟨x,_,rfl⟩:=O2.mp hd;exact hV x
    refine⟨_,if_pos ⟨hV r,hle⟩,k2 _ _ _ ⟨_,rfl,rfl,?_⟩⟩;rw[ad6,U5,U5,show rdM M2 (aS r)=aS r from rfl,u7 mO];simp only[N8,ap0,jt,hr]
   ·rintro acc Δ M2 ⟨x,rfl,rfl,rfl⟩;rw[cx];refine⟨_,bZ,?_⟩;rw[n9,<-gf oC];exact k
 |scr _=>simp[ai]at hd
 |ref _=>simp[ai]at hd
 |box _ _=>simp[ai]at hd
 |_=>exact⟨false,rfl,by rw[if_pos (show(!false)=true from rfl)];exact k⟩
def lU:SpD:=ec iL
theorem qK(F:Fun K "_law_formed" "_law_formed" eW f fd) (T:Txt mg) (Y2:FnD P w K mg base "_law_is_order" 2 1 gE) (G6:FnD P w K mg base "_law_is_mark" 1 1 fv) (ga3:FnD P w K mg base "_law_are_kinds" 4 1 i6):a7 P w K mg base CX0 5 f fd ["_law_thing"] (spD K 1 lU):=by
 have nd:=kZ.nd;refine F.okR rfl kZ (fun cdv A outer s H E hr=>⟨_,(ak (cn (mE (dM (bC (bw (cm (Tn:="tuple") (by decide) rfl T.b_isinstance rfl T.b_tuple (by kernel_rfl) (ae 0)))) (dM (cf (xQ hr.units) (aB bM rfl T.b_len (by kernel_rfl) (aa (ae 0) ag)) aj nbh) (dM (bC (bw (qd Y2 hr (aa (bp bo (ae 0) aj (fun _ _=>rfl)) ag)))) (fH (bC (bw (qd G6 hr (aa (bp bo (ae 0) aj (fun _ _=>rfl)) ag))))))))) (au (aI dR)) bN)
   (ak (aL (i:=1) nd rfl (Q9 rfl) (bp bo (ae 0) aj (fun _ _=>rfl)))
   (ak (cn (mE (dM (bC (bw (cm (Tn:="tuple") (by decide) rfl T.b_isinstance rfl T.b_tuple (by kernel_rfl) (ae 1)))) (dM (cf xM (aB bM rfl T.b_len (by kernel_rfl) (aa (ae 1) ag)) aj nbh) (fH (cf vy (aB bM rfl T.b_len (by kernel_rfl) (aa (ae 1) ag)) aj nbh))))) (au (aI dR)) bN)
   (ak (gP U6 rfl (aN (ae 1)) (bD (i:=2) nd rfl (Q9 rfl)) (ak (cn (mE (dM (bC (bw (cm (Tn:="tuple") (by decide) rfl T.b_isinstance rfl T.b_tuple (by kernel_rfl) (ae 2)))) (dM (cf (xQ hr.units) (aB bM rfl T.b_len (by kernel_rfl) (aa (ae 2) ag)) aj nbh) (fH (bC (bw (qd G6 hr (aa (bp bo (ae 2) aj (fun _ _=>rfl)) ag)))))))) (au (aI dR)) bN)
   (au (cn (bC (bw (qd ga3 hr (aa (bp bo (ae 2) aj (fun _ _=>rfl)) ag)))) (au (aI dR)) bN))))
   (ak (aL (i:=3) nd rfl (ao0 rfl) (cX (ms:=[false,false,false,false]) (ao:=[]) (aA rfl (show aF (ah eW) fj _ _=true from by decide +kernel)) rfl (aN (ae 1)) (aC (i:=2) (show(fj++_).Nodup from by decide +kernel) rfl rfl) (fun _ _ _ _=>aT) (fun _ _ _ _=>(bp bo (ae 2) aj (fun _ _=>rfl)))))
   (au (aI (aB (eU rfl) rfl T.b_all (by kernel_rfl) (aa (cX (ms:=[false,false,false,true]) (ao:=["_law_k"]) (aA rfl (show aF (ah eW) fj _ _=true from by decide +kernel)) rfl (dG rfl T.b_range (aa (aB bM rfl T.b_len (by kernel_rfl) (aa (ae 3) ag)) ag)) (aC (i:=4) (show(fj++_).Nodup from by decide +kernel) rfl rfl) (fun _ _ _ _=>aT) (fun _ _ _ _=>(cV rq (bp bo (ae 3) (ae 4) (fun _ _=>rfl)) (aU (ae 3) bq (br (ae 4))) rfl))) ag))))))))),fun ds M R _ hS bk=>?_⟩)
 obtain⟨d,rfl,hd,k⟩:=hS;refine bk ?_;clear bk;walk_at "rd";simp only[bj hd];cases d with
 |tup ks =>
  refine⟨true,rfl,?_⟩;rw[if_neg (by simp)];walk_at "rd";have hds:∀d∈ks,ai d=true:=aQ.mp (by simpa[ai]using hd)
  by_cases h3:ks.length=3
  ·obtain⟨o,g,es,rfl⟩:∃o g es,ks=[o,g,es]:=by
    match ks,h3 with
    |[o,g,es],_=>exact⟨o,g,es,rfl⟩
   rw[if_neg (by simp)];have hg:ai o=true/\ai g=true/\ai es=true:=⟨hds o (by simp),hds g (by simp),hds es (by simp)⟩;simp only[iL]at k;refine⟨_,rfl,aG.mpr ⟨hg.1,_,rfl,b6 (fun h=>?_) (fun h=>⟨_,rfl,aG.mpr ⟨hg.2.1,_,rfl,b6 (fun h'=>?_) (fun h'=>⟨_,rfl,?_⟩)⟩⟩)⟩⟩
   ·rw[show gI o=false by simpa using h,H0,H0]at k;exact k
   ·rw[show aJ g=false by simpa using h',P7,H0]at k;exact k
   rw[show gI o=true by simpa using h,show aJ g=true by simpa using h',N9,N9]at k;rw[bj hg.2.2];cases es with
   |tup es =>
    refine⟨true,rfl,?_⟩;rw[if_neg (by simp)];have hge:∀d∈es,ai d=true:=aQ.mp (by simpa[ai]using hg.2.2);have e:fN (.tup es)=(decide (1<=es.length)&&decide (es.length<=10)&&es.all dn&&gY (es.map vo)):=rfl;refine⟨_,rfl,_,rfl,_,rfl,b6 (fun h1=>?_) (fun h1=>⟨_,rfl,_,rfl,_,rfl,b6 (fun h2=>?_) (fun h2=>⟨_,rfl,fun hz=>?_⟩)⟩)⟩
    ·have h1:((es.length:Int)<1):=by simpa using h1
     rw[e,decide_eq_false (by lia:¬ 1<=es.length),H0,H0,H0]at k;exact k
    ·have h2:(10:Int)<((es.length:Int)):=by simpa using h2
     rw[e,decide_eq_false (by lia:¬ es.length<=10),P7,H0,H0]at k;exact k
    have h1:¬ ((es.length:Int)<1):=by simpa using h1
    have h2:¬ (10:Int)<((es.length:Int)):=by simpa using h2
    rw[e,decide_eq_true (by lia:1<=es.length),decide_eq_true (by lia:es.length<=10),N9,N9]at k;refine b7 (fun i Δ M'=>∃x2,Δ=[some (D.tup [o,g,D.tup es]),some (D.tup es),x2,none]/\M'=M/\(es.take i).all dn=true) ⟨none,rfl,rfl,rfl⟩ ?_ ?_
    ·rintro i d Δ M' X hdi ⟨x2,rfl,rfl,hall⟩ k';have hdm:=R4 hdi;have hgd:=hge d hdm;have next:dn d=true->X [some (D.tup [o,g,D.tup es]),some (D.tup es),some d,none] M':=fun h=>k' _ _ ⟨_,rfl,rfl,by rw[V2,hdi,List.all_append,hall];simpa using h⟩;have stop:dn d=false->R (.bl false) M':=fun h=>by
      have:es.all dn=false:=by
       rw[X9];intro z;rw[N5.mp z d hdm]at h;cases h
      rw[this,H0]at k;exact k
     refine⟨_,rfl,?_⟩;walk_at "rd";rw[bj hgd];cases d with
     |tup ss =>
      refine⟨true,rfl,?_⟩;rw[if_neg (by simp)]
      by_cases hl:ss.length=2
      ·obtain⟨a,b,rfl⟩:∃a b,ss=[a,b]:=by
        match ss,hl with
        |[a,b],_=>exact⟨a,b,rfl⟩
       have hab:ai a=true/\ai b=true:=by simpa[ai,bg]using hgd
       have eab:dn (.tup [a,b])=(aJ a&&gX b):=rfl;rw[eab]at next stop;refine⟨_,rfl,_,sO,_,rfl,?_⟩;rw[if_neg (by simp)];refine⟨_,rfl,aG.mpr ⟨hab.1,_,rfl,b6 (fun h=>stop ?_) (fun h=>⟨_,rfl,aG.mpr ⟨hab.2,_,rfl,b6 (fun h'=>stop ?_) (fun h'=>next ?_)⟩⟩)⟩⟩
       ·rw[show aJ a=false by simpa using h,H0]
       ·rw[show gX b=false by simpa using h',P7]
       ·rw[show aJ a=true by simpa using h,show gX b=true by simpa using h'];rfl
      ·refine⟨_,rfl,_,sO,_,rfl,?_⟩;rw[if_pos (by simpa using fun e:(ss.length:Int)=2=>hl (by lia))];exact stop (qG hl)
     |scr _=>simp[ai]at hgd
     |ref _=>simp[ai]at hgd
     |box _ _=>simp[ai]at hgd
     |_=>exact⟨false,rfl,by rw[if_pos (show(!false)=true from rfl)];exact stop rfl⟩
    ·rintro Δ M' ⟨x2,rfl,rfl,hall⟩;rw[aa0]at hall;rw[hall,N9]at k;obtain⟨qs,rfl⟩:=pU hall;rw[xO,gf pZ]at k;rw[F3]at h1 h2;walk_at "rd";refine fun hz2=>⟨hz2,?_⟩;refine cU eS (fun _=>true) (fun p=>D.str p.1) (fun Δ=>∃x,Δ=[none,none,x,none]) qs _ _ (fun p hp Δ hΔ=>?_) ⟨none,rfl⟩ ?_
     ·obtain⟨x,rfl⟩:=hΔ;refine⟨_,rfl,⟨_,rfl⟩,fun Q1 q=>q,fun _ Q2 q=>?_⟩;walk_at "rd";exact⟨_,rfl,q⟩
     rw[M9,N4.mpr (fun _ _=>rfl)];have ew:(qs.map fun p=>D.str p.1)=(qs.map (·.1)).map D.str:=by rw[S5];rfl
     have hwl:(qs.map (·.1)).length=qs.length:=F3 ..;rw[ew];generalize qs.map (·.1)=ws at *
     rw[F3,W1];refine⟨by lia,by lia,by rw[cx];exact sz3 _ (by lia),?_⟩;refine jF (fun j acc Δ M2=>∃x,Δ=[none,none,none,some (D.lst (ws.map D.str)),x]/\M2=M'/\acc=((P0 j).map (jt ws)).map D.bl) ⟨none,rfl,rfl,rfl⟩ ?_ ?_
     ·rintro j d acc Δ M2 Y hd2 ⟨x,rfl,rfl,rfl⟩ k2;obtain⟨hj,rfl⟩:=gb hd2;refine⟨_,rfl,?_⟩;rw[Int.zero_add];simp only[nR];walk_at "rd";obtain⟨r,hr⟩:∃r,ws[j]?=some r:=⟨_,F4 hj⟩;refine⟨.str r,dA (by rw[N0,hr];rfl),?_⟩;rw[ki,<-aq4];have hsc:((ws.take j).map D.str).all bz=true:=by rw[Q6,N5];intro _ _;rfl
      refine⟨_,if_pos ⟨rfl,hsc⟩,k2 _ _ _ ⟨_,rfl,rfl,?_⟩⟩;rw[ad6,U5,U5,show rdM M2 (D.str r)=D.str r from rfl,u7 (fun x y=>by rw[S0];simp[eqD])];simp only[N8,ap0,jt,hr,Bool.true_xor]
     ·rintro acc Δ M2 ⟨x,rfl,rfl,rfl⟩;rw[cx];refine⟨_,bZ,?_⟩;rw[n9];exact k
   |scr _=>simp[ai]at hg
   |ref _=>simp[ai]at hg
   |box _ _=>simp[ai]at hg
   |_=>exact⟨false,rfl,by rw[if_pos (show(!false)=true from rfl)];exact k⟩
  ·rw[if_pos (by simpa using fun e:(ks.length:Int)=3=>h3 (by lia))];rw[qH h3]at k;exact k
 |scr _=>simp[ai]at hd
 |ref _=>simp[ai]at hd
 |box _ _=>simp[ai]at hd
 |_=>exact⟨false,rfl,by rw[if_pos (show(!false)=true from rfl)];exact k⟩
def oQ:SpD:=fun ds M R=>∃(p:F9) (l:List D) (ba:List Str) (most:Int),ds=[.ref p,.lst (ba.map .str),.int most]/\M p=some (.lst l)/\bc l/\ba≠[]/\ba.length<=1000/\0<=most/\most<=500 /\
 ∀(ord:List (Str×Str)) l',ord.length<=most.toNat->(∀x∈ord,x.1∈ba/\x.2∈ba)->bc l'->R (.tup (ord.map bK)) (av M p (.lst l'))
abbrev Bh:TEd:=dOp ixD (iu 1) (lM 2 cK (ix (iu 0) (ix (dCB (o5 sY) (ix (iu 1) tS)) tS)))
theorem oD{p q:F9}{E:dQ}(hpq:p≠q) (ba:List Str) (most:Int) (hm:ba≠[]) (hml:ba.length<=1000):∀(ds:List D) (x4 x5:Option D) (M:DH) (l:List D) (ord:List (Str×Str)),M q=none->bc l->(∀x∈ord,x.1∈ba/\x.2∈ba)->ord.length+ds.length<=1000 ->
  (∀(y4 y5:Option D) (l':List D) (ord':List (Str×Str)),bc l'->(∀x∈ord',x.1∈ba/\x.2∈ba)->ord'.length=ord.length+ds.length->E.nx [some (.ref p),some (.lst (ba.map .str)),some (.int most),some (.ref q),y4,y5] (av (av M p (.lst l')) q (.lst (ord'.map bK)))) ->
  cF (cR 4) (yb (qj 5 Bh) (u5 (zP (iu 3) (Dx (ix (iu 5) (ix Bh tS)))))) E ds [some (.ref p),some (.lst (ba.map .str)),some (.int most),some (.ref q),x4,x5] (av (av M p (.lst l)) q (.lst (ord.map bK)))
 |[],x4,x5,M,l,ord,hq,hP,ho,hl,k=>by
  simp only[cF];exact k x4 x5 l ord hP ho (by simp)
 |d::ds,x4,x5,M,l,ord,hq,hP,ho,hl,k=>by
  have bX:(0:Int)<((ba.map D.str).length:Int):=by
   rw[F3];have:=List.length_pos_iff.mpr hm
   lia
  have hlen2:((ba.map D.str).length:Int)<1073741824:=by
   rw[F3];lia
  have hol:(ord.map bK).length<I0:=by
   rw[F3];simp only[T0]at hl;exact J9 (by lia:ord.length<1000) (sz3 1000)
  simp only[cF,cR];walk_at "rd";refine⟨p,l,_,rfl,by rw[az hpq,aq],hP,bX,hlen2,fun v l1 h0 h1 hP1=>?_⟩;rw[F3]at h1;obtain⟨m,hm1,e1⟩:=jX h0 h1;refine⟨_,e1,?_⟩;have em:av (av (av M p (.lst l)) q (.lst (ord.map bK))) p (.lst l1)=av (av M p (.lst l1)) q (.lst (ord.map bK)):=by
   rw[<-dq hpq,aR]
  rw[em];refine⟨_,aq,?_⟩;refine⟨p,l1,_,rfl,by rw[az hpq,aq],hP1,bX,hlen2,fun v2 l2 h2 h3 hP2=>?_⟩;rw[F3]at h3;obtain⟨m2,hm2,e2⟩:=jX h2 h3;refine⟨_,e2,sz3 2,?_⟩;have em2:av (av (av M p (.lst l1)) q (.lst (ord.map bK))) p (.lst l2)=av (av M p (.lst l2)) q (.lst (ord.map bK)):=by
   rw[<-dq hpq,aR]
  rw[em2];refine⟨_,aq,hol,?_⟩;rw[aR];have ea:ord.map bK++[D.tup [.str m,.str m2]]=(ord++[(m,m2)]).map bK:=by simp[bK]
  rw[ea];refine oD hpq ba most hm hml ds (some d) (some (.str m)) M l2 (ord++[(m,m2)]) hq hP2 (fun x hx=>?_) (by simp at hl ⊢;lia) (fun y4 y5 l' ord' hP' ho' hl'=>k y4 y5 l' ord' hP' ho' (by simp at hl' ⊢;lia));rcases K0.mp hx with h|h
  ·exact ho x h
  ·have:x=(m,m2):=by simpa using h
   subst this;exact⟨hm1,hm2⟩
theorem tG(F:Fun K "_law_order" "_law_order" kn f fd) (T:Txt mg) (G0:FnD P w K mg base "_law_draw" 1 2 cK):a7 P w K mg base CX0 2 f fd ["_law_pool_here","_law_marks_here","_law_most"] (spD K 3 oQ):=by
 have nd:=me.nd;refine F.okR rfl me (fun cdv A outer s H E hr=>⟨_,(ak (aL (i:=3) nd rfl (Q9 rfl) (jm ag))
   (ak (gP U6 rfl (dG rfl T.b_range (aa (qd G0 hr (aa (ae 0) (aa (aO aM (ae 2) aj) ag))) ag)) (bD (i:=4) nd rfl (Q9 rfl)) (ak (aL (i:=5) nd rfl (Q9 rfl) (bp bo (ae 1) (qd G0 hr (aa (ae 0) (aa (aB bM rfl T.b_len (by kernel_rfl) (aa (ae 1) ag)) ag))) (fun _ _=>rfl)))
   (au (gn (jY (ae 3) (aD (aa (ae 5) (aa (bp bo (ae 1) (qd G0 hr (aa (ae 0) (aa (aB bM rfl T.b_len (by kernel_rfl) (aa (ae 1) ag)) ag))) (fun _ _=>rfl)) ag))))))))
   (au (jr (bG gO rfl T.b_tuple (by kernel_rfl) (aa (ae 3) ag)))))),fun ds M R _ hS bk=>?_⟩)
 obtain⟨p,l,ba,most,rfl,hM,hP,hm,hml,h0,h1,k⟩:=hS;refine bk ?_;clear bk;walk_at "rd";refine⟨sz3 0,fun q hq=>?_⟩;have hpq:p≠q:=by rintro rfl;rw[hM]at hq;cases hq
 refine⟨p,l,_,rfl,by rw[az hpq];exact hM,hP,by lia,by lia,fun v l1 h2 h3 hP1=>?_⟩;refine⟨v,rfl,by lia,by lia,?_⟩;have e:av (av M q (.lst [])) p (.lst l1)=av (av M p (.lst l1)) q (.lst (([]:List (Str×Str)).map bK)):=by
  rw[dq hpq];rfl
 rw[e];refine oD hpq ba most hm hml _ none none M l1 [] hq hP1 (fun x hx=>absurd hx (by simp)) (by rw[cx];simp;lia) (fun y4 y5 l' ord' hP' ho' hl'=>?_);walk_at "rd";refine⟨_,fA (by rw[az (V0 hpq)];exact hq),k ord' l' (by rw[cx]at hl';simp at hl';lia) ho' hP'⟩
def ot:SpD:=fun ds M R=>∃(p:F9) (l:List D) (ba:List Str) (most bJ turns:Nat),ds=[.ref p,.lst (ba.map .str),.int (most:Int),.int (bJ:Int),.int (turns:Int)]/\M p=some (.lst l)/\bc l/\ba≠[]/\ba.length<=1000/\1<=most/\most<=8/\bJ<=8/\turns<=99 /\
 ∀(ks:List Row) l',1<=ks.length->ks.length<=most->(∀r∈ks,r.length<=bJ/\∀x∈r,x.1∈ba/\-(turns:Int)<=x.2/\x.2<=(turns:Int))->ks.Nodup->bc l'->R (cb ks) (av M p (.lst l'))
theorem tE(F:Fun K "_law_kinds" "_law_kinds" kL f fd) (T:Txt mg) (G0:FnD P w K mg base "_law_draw" 1 2 cK):a7 P w K mg base CX0 2 f fd ["_law_pool_here","_law_marks_here","_law_most","_law_signs","_law_turns"] (spD K 5 ot):=by
 have nd:=mw.nd;refine F.okR rfl mw (fun cdv A outer s H E hr=>⟨_,(ak (aL (i:=5) nd rfl (Q9 rfl) (jm ag))
   (ak (gP U6 rfl (dG rfl T.b_range (aa (aO aM aj (qd G0 hr (aa (ae 0) (aa (ae 2) ag)))) ag)) (bD (i:=6) nd rfl (Q9 rfl)) (ak (aL (i:=7) nd rfl (Q9 rfl) (jm ag))
   (ak (gP U6 rfl (dG rfl T.b_range (aa (qd G0 hr (aa (ae 0) (aa (aO aM (ae 3) aj) ag))) ag)) (bD (i:=8) nd rfl (Q9 rfl)) (ak (aL (i:=9) nd rfl (Q9 rfl) (bp bo (ae 1) (qd G0 hr (aa (ae 0) (aa (aB bM rfl T.b_len (by kernel_rfl) (aa (ae 1) ag)) ag))) (fun _ _=>rfl)))
   (au (gn (jY (ae 7) (aD (aa (ae 9) (aa (aO wa (qd G0 hr (aa (ae 0) (aa (aO aM (aO gm aj (ae 4)) aj) ag))) (ae 4)) ag))))))))
   (au (cn (cf (sd hr.units) (bG gO rfl T.b_tuple (by kernel_rfl) (aa (ae 7) ag)) (ae 5) rfl) (au (gn (jY (ae 5) (bG gO rfl T.b_tuple (by kernel_rfl) (aa (ae 7) ag))))) bN)))))
   (au (jr (bG gO rfl T.b_tuple (by kernel_rfl) (aa (ae 5) ag)))))),fun ds M R _ hS bk=>?_⟩)
 obtain⟨p,l,ba,most,bJ,turns,rfl,hM,hP,hm,hml,hmo,hmo8,hs8,ht8,k⟩:=hS;refine bk ?_;clear bk;walk_at "rd";refine⟨Q5 _,fun q hq=>?_⟩;have hpq:p≠q:=by rintro rfl;rw[hM]at hq;cases hq
 refine⟨p,l,_,rfl,by rw[az hpq];exact hM,hP,by lia,by lia,fun v l1 h0 h1 hP1=>?_⟩;obtain⟨n,rfl⟩:=W7 h0;refine⟨.int (1+(n:Int)),rfl,_,rfl,by lia,by lia,?_⟩;rw[show(1+(n:Int)).toNat=n+1 by lia];refine b7 (fun i Δ M'=>∃x6 x7 x8 x9 l ks,Δ=[some (D.ref p),some (D.lst (ba.map D.str)),some (D.int (most:Int)),some (D.int (bJ:Int)),some (D.int (turns:Int)),some (D.ref q),x6,x7,x8,x9]/\M' p=some (.lst l)/\bc l/\M' q=some (.lst (ks.map aS))/\(∀a u,a≠p->M a=some u->M' a=some u)/\ks.length<=i/\(0<i->1<=ks.length)/\ks.Nodup/\∀r∈ks,r.length<=bJ/\∀x∈r,x.1∈ba/\-(turns:Int)<=x.2/\x.2<=(turns:Int))
  ⟨_,_,_,_,l1,[],rfl,aq,hP1,by rw[az (V0 hpq),aq];rfl,fun a u ha e=>?_,Q5 _,fun h=>absurd h (by lia),by simp,fun _ h=>by cases h⟩ ?_ ?_
 ·have haq:a≠q:=fun z=>by rw[z,hq]at e;cases e
  rw[az ha,az haq];exact e
 ·rintro i d Δ M' X hd ⟨x6,x7,x8,x9,l2,ks,rfl,hMp,hP2,hMq,hold,hkl,hk1,hkn,hkr⟩ k';obtain⟨hi,rfl⟩:=gb hd;simp only[cR];walk_at "rd";refine⟨Q5 _,fun r hr2=>?_⟩;have hpr:p≠r:=by rintro rfl;rw[hMp]at hr2;cases hr2
  have hqr:q≠r:=by rintro rfl;rw[hMq]at hr2;cases hr2
  refine⟨p,l2,_,rfl,by rw[az hpr];exact hMp,hP2,by lia,by lia,fun v l3 g0 g1 hP3=>⟨v,rfl,by lia,by lia,?_⟩⟩;obtain⟨m,rfl⟩:=W7 g0;rw[W1];refine b7 (fun t Δ M2=>∃x8 x9 l row,Δ=[some (D.ref p),some (D.lst (ba.map D.str)),some (D.int (most:Int)),some (D.int (bJ:Int)),some (D.int (turns:Int)),some (D.ref q),some (D.int (0+(i:Int))),some (D.ref r),x8,x9]/\M2=av (av M' p (.lst l)) r (.lst (row.map bH))/\bc l/\row.length<=t/\∀x∈row,x.1∈ba/\-(turns:Int)<=x.2/\x.2<=(turns:Int))
   ⟨_,_,l3,[],rfl,dq (V0 hpr),hP3,F7 _,fun _ h=>by cases h⟩ ?_ ?_
  ·rintro t d Δ M2 X2 hd2 ⟨y8,y9,l4,row,rfl,rfl,hP4,hrow,hrx⟩ k2;obtain⟨ht,rfl⟩:=gb hd2;have bX:(0:Int)<((ba.map D.str).length:Int):=by
    rw[F3];have:=List.length_pos_iff.mpr hm
    lia
   have hlen2:((ba.map D.str).length:Int)<1073741824:=by
    rw[F3];lia
   have hcm:∀l5,av (av (av M' p (.lst l4)) r (.lst (row.map bH))) p (.lst l5)=av (av M' p (.lst l5)) r (.lst (row.map bH)):=fun l5=>by
    rw[<-dq hpr,aR]
   simp only[cR];walk_at "rd";refine⟨p,l4,_,rfl,by rw[az hpr,aq],hP4,bX,hlen2,fun v1 l5 a0 a1 hP5=>?_⟩;rw[F3]at a1;obtain⟨m1,hm1,e1⟩:=jX a0 a1;rw[hcm];refine⟨_,e1,_,aq,p,l5,_,rfl,by rw[az hpr,aq],hP5,by lia,by lia,fun v2 l6 b0 b1 hP6=>?_⟩;have hcm2:av (av (av M' p (.lst l5)) r (.lst (row.map bH))) p (.lst l6)=av (av M' p (.lst l6)) r (.lst (row.map bH)):=by
    rw[<-dq hpr,aR]
   rw[hcm2];refine⟨.int (v2-(turns:Int)),rfl,sz3 2,_,aq,?_,k2 _ _ ⟨_,_,l6,row++[(m1,v2-(turns:Int))],rfl,?_,hP6,by simp;lia,fun x hx=>?_⟩⟩
   ·rw[F3,ab0];lia
   ·rw[aR];simp[bH]
   ·rcases K0.mp hx with h|h
    ·exact hrx x h
    ·rw[J5.mp h];exact⟨hm1,by simp only;lia,by simp only;lia⟩
  ·rintro Δ M2 ⟨y8,y9,l4,row,rfl,rfl,hP4,hrow,hrx⟩;rw[cx]at hrow;walk_at "rd";have eq:av (av M' p (.lst l4)) r (.lst (row.map bH)) q=some (.lst (ks.map aS)):=by rw[az hqr,az (V0 hpq)];exact hMq
   have ep:av (av M' p (.lst l4)) r (.lst (row.map bH)) p=some (.lst l4):=by rw[az hpr,aq]
   have eo:∀a u,a≠p->M a=some u->av (av M' p (.lst l4)) r (.lst (row.map bH)) a=some u:=fun a u ha e=>by
    have h:=hold a u ha e;have har:a≠r:=by rintro rfl;rw[hr2]at h;cases h
    rw[az har,az ha];exact h
   generalize av (av M' p (.lst l4)) r (.lst (row.map bH))=M3 at *
   refine⟨.bl (!((ks.map aS).any fun d=>eqD d (aS row))),?_,_,rfl,?_⟩
   ·rw[show rdM M3 (D.ref q)=D.lst (ks.map aS)by simp[rdM,eq]];show mK (aS row) _=_;rw[xm,if_pos ⟨hV row,fU aS fun r=>hV r⟩]
   refine b6 (fun c=>?_) (fun c=>?_)
   ·refine⟨_,eq,_,eq,by rw[F3,ab0];lia,k' _ _ ⟨_,_,_,_,l4,ks++[row],rfl,?_,hP4,?_,fun a u ha e=>?_,by simp;lia,fun _=>by simp,?_,fun x hx=>?_⟩⟩
    ·rw[az hpq];exact ep
    ·rw[aq,U5];rfl
    ·have haq:a≠q:=fun z=>by rw[z,hq]at e;cases e
     rw[az haq];exact eo a u ha e
    ·have hrk:row∉ks:=fun z=>by
      have:((ks.map aS).any fun d=>eqD d (aS row))=true:=ab9.mpr ⟨aS row,List.mem_map_of_mem z,by rw[mO];simp⟩;rw[this]at c;cases c
     rw[Z0];refine⟨hkn,by simp,fun u hu v hv=>?_⟩;obtain rfl:v=row:=by simpa using hv
     rintro rfl;exact hrk hu
    ·rcases K0.mp hx with h|h
     ·exact hkr x h
     ·rw[J5.mp h];exact⟨by lia,hrx⟩
   ·refine k' _ _ ⟨_,_,_,_,l4,ks,rfl,ep,hP4,eq,eo,by lia,fun _=>?_,hkn,hkr⟩;cases ks with
    |nil=>exact absurd rfl c
    |cons _ _=>simp
 ·rintro Δ M' ⟨x6,x7,x8,x9,l2,ks,rfl,hMp,hP2,hMq,hold,hkl,hk1,hkn,hkr⟩;rw[cx]at hkl hk1;walk_at "rd";refine⟨cb ks,by simp[rdM,hMq,yD,cb],av M p (.lst l2),fun a u e=>?_,k ks l2 (hk1 (by lia)) (by lia) hkr hkn hP2⟩
  by_cases c:a=p
  ·rw[c,aq]at e;rw[c,hMp];exact e
  ·rw[az c]at e;exact hold a u c e
theorem eN{α:Type}{g:GD}{B:BKd}{M:DH}(enc:α->D) (out:α->List D) (Ok:DE->Prop):∀(xs:List α) (Δ:DE) (acc:List D) (Q:List D->DE->DH->Prop),
  (∀x∈xs,∀ Δ,Ok Δ->∃ Δ',g (enc x) Δ=some Δ'/\∀(acc:List D) (Q2:List D->DE->DH->Prop),acc.length+(out x).length<=I0->(∀ Δ'',Ok Δ''->Q2 (acc++out x) Δ'' M)->B Δ' M acc Q2)->Ok Δ ->
  acc.length+(xs.flatMap out).length<=I0->(∀ Δ',Ok Δ'->Q (acc++xs.flatMap out) Δ' M)->ie g nR B (xs.map enc) Δ M acc Q
 |[],Δ,acc,Q,_,ok,_,q=>by
  simp only[ap0,ie];have:=q Δ ok
  rwa [List.flatMap_nil,ab1]at this
 |x::xs,Δ,acc,Q,h,ok,hz,q=>by
  rw[List.flatMap_cons,J1]at hz;rw[N8];simp only[ie,nR,if_true];obtain⟨Δ',e,h1⟩:=h x (.head _) Δ ok;refine⟨Δ',e,h1 acc _ (by lia) fun Δ'' ok'=>⟨by rw[J1];lia,?_⟩⟩;refine eN enc out Ok xs Δ'' _ Q (fun z hz=>h z (.tail _ hz)) ok' (by rw[J1];lia) fun Δ3 ok3=>?_;have:=q Δ3 ok3
  rwa [List.flatMap_cons,<-aa6]at this
theorem my{α β:Type}{f:α->List β}{c:Nat}{l:List α}(h:∀x∈l,(f x).length<=c):(l.flatMap f).length<=l.length*c:=by
 induction l with
 |nil=>simp
 |cons a l ih =>
  rw[List.flatMap_cons,J1,T0,Nat.succ_mul];have:=h a (.head _);have:=ih fun x hx=>h x (.tail _ hx)
  lia
def inO(ord:List (Str×Str)):List Str:=ord.flatMap fun p=>[p.1,p.2]
def inK(aw:List (Str×List Row)):List Str:=aw.flatMap fun e=>e.2.flatMap fun r=>r.map (·.1)
def mks(ord:List (Str×Str)) (ax:Str) (aw:List (Str×List Row)):List Str:=cG (cp (inO ord++[ax]++inK aw))
theorem pN{ord:List (Str×Str)}:(inO ord).length<=ord.length*2:=my fun x _=>F7 _
theorem uz{aw:List (Str×List Row)}(h:wJ aw):(inK aw).length<=200:=by
 have h1:(inK aw).length<=aw.length*20:=my fun e he=>by
  have hk:=(h.2.2.2 e he).2;have h2:(e.2.flatMap fun r=>r.map (·.1)).length<=e.2.length*5:=my fun r hr=>by
   rw[F3];exact(hk.2.2.2 r hr).1
  have:=hk.2.1
  lia
 have:=h.2.1
 lia
def Du(ms:List Str) (ord:List (Str×Str)) (g:Str) (es:List (Str×List Row)):Prop:=ms.length<=4/\(∀x∈ord,x.1∈ms/\x.2∈ms)/\g∈ms/\∀e∈es,∀r∈e.2,∀s∈r,s.1∈ms
structure LxK(ord:List (Str×Str)) (ax:Str) (aw:List (Str×List Row)):Prop where
 o:DX ord
 g:bB ax
 e:wJ aw
 m:∃ms,Du ms ord ax aw
theorem Du.mem{ms:List Str}{ord:List (Str×Str)}{g:Str}{es:List (Str×List Row)}(h:Du ms ord g es):∀x∈inO ord++[g]++inK es,x∈ms:=fun x hx=>by
 obtain⟨_,h1,h2,h3⟩:=h;simp only[K0,J5]at hx;rcases hx with(hx|rfl)|hx
 ·obtain⟨p,hp,q⟩:=List.mem_flatMap.mp hx;simp only[J3,L9,or_false]at q;rcases q with rfl|rfl
  ·exact(h1 p hp).1
  ·exact(h1 p hp).2
 ·exact h2
 ·obtain⟨e,he,q⟩:=List.mem_flatMap.mp hx;obtain⟨r,hr,q⟩:=List.mem_flatMap.mp q;obtain⟨s,hs,rfl⟩:=O2.mp q;exact h3 e he r hr s hs
theorem LxK.met{ord:List (Str×Str)}{g:Str}{es:List (Str×List Row)}(h:LxK ord g es) {xs:List Str}(hx:∀x∈xs,x∈inO ord++[g]++inK es):(cp xs).length<=4:=by
 obtain⟨ms,hm⟩:=h.m;refine O4 (kN _ ms (qp _) fun x hx'=>hm.mem x (hx x ?_)) hm.1;rw[ml]at hx';exact hx'
theorem rO{α β:Type}{f:α->β}{l:List α}:(l.flatMap fun x=>[f x])=l.map f:=by induction l<;>simp_all
theorem yu{aw:List (Str×List Row)}{n:Nat}(h:(inK aw).length<=n) (i:Nat):(inK (aw.take i)).length<=n:=by
 refine O4 ?_ h;have:inK aw=inK (aw.take i)++inK (aw.drop i):=by unfold inK;rw[<-List.flatMap_append,ag7]
 rw[this,J1];lia
def kR:SpD:=fun ds M R=>∃(p:F9) (l:List D),ds=[.ref p,.int 10]/\M p=some (.lst l)/\bc l/\(∀a k,M a=some k->a≠p->noC k=true) /\
 ∀(ord:List (Str×Str)) (g:Str) (es:List (Str×List Row)) l',LxK ord g es->bc l'->R (dY ord g es) (av M p (.lst l'))
theorem qq(F:Fun K "_law_lexicon" "_law_lexicon" g7 f fd) (T:Txt mg) (Y5:FnD P w K mg base "_law_some_words" 3 2 iq) (gb9:FnD P w K mg base "_law_order" 2 3 oQ) (G0:FnD P w K mg base "_law_draw" 1 2 cK) (gb7:FnD P w K mg base "_law_kinds" 2 5 ot):a7 P w K mg base CX0 4 f fd ["_law_pool_here","_law_most"] (spD K 2 kR):=by
 have nd:=ke.nd;refine F.okR rfl ke (fun cdv A outer s H E hr=>⟨_,(ak (aL (i:=2) nd rfl (Q9 rfl) (qd Y5 hr (aa (ae 0) (aa (aO aM aj (qd G0 hr (aa (ae 0) (aa aj ag)))) ag))))
   (ak (aL (i:=3) nd rfl (Q9 rfl) (qd gb9 hr (aa (ae 0) (aa (ae 2) (aa aj ag)))))
   (ak (aL (i:=4) nd rfl (Q9 rfl) (jm ag))
   (ak (gP U6 rfl (aN (qd Y5 hr (aa (ae 0) (aa (aO aM aj (qd G0 hr (aa (ae 0) (aa (ae 1) ag)))) ag)))) (bD (i:=5) nd rfl (Q9 rfl)) (au (gn (jY (ae 4) (aD (aa (ae 5) (aa (qd gb7 hr (aa (ae 0) (aa (ae 2) (aa aj (aa aj (aa (bp bo (bI (aa aj (aa aj (aa aj ag)))) (qd G0 hr (aa (ae 0) (aa aj ag))) (fun _ _=>rfl)) ag)))))) ag)))))))
   (au (jr (aD (aa (ae 3) (aa (bp bo (ae 2) (qd G0 hr (aa (ae 0) (aa (aB bM rfl T.b_len (by kernel_rfl) (aa (ae 2) ag)) ag))) (fun _ _=>rfl)) (aa (bG gO rfl T.b_tuple (by kernel_rfl) (aa (ae 4) ag)) ag)))))))))),fun ds M R _ hS bk=>?_⟩)
 obtain⟨p,l,rfl,hM,hP,hno,k⟩:=hS;refine bk ?_;clear bk;walk_at "rd";refine⟨p,l,4,rfl,hM,hP,by lia,by lia,fun v1 l1 a0 a1 hP1=>?_⟩;refine⟨_,rfl,p,l1,1+v1,rfl,aq,hP1,by lia,by lia,fun a u e ha=>hno a u (by rw[az ha]at e;exact e) ha,fun ba l2 hmw hmn hml hP2=>?_⟩;rw[aR];have hm:ba≠[]:=fun z=>by rw[z]at hml;simp at hml;lia
 walk_at "rd";refine⟨p,l2,ba,8,rfl,aq,hP2,hm,by lia,by lia,by lia,fun ord l3 hol hom hP3=>?_⟩;rw[aR];walk_at "rd";refine⟨Q5 _,fun q hq=>?_⟩;have hqp:q≠p:=by rintro rfl;rw[aq]at hq;cases hq
 have hMq:M q=none:=by rw[az hqp]at hq;exact hq
 have c1:∀l4 l5 ds,av (av (av M p (.lst l4)) q (.lst ds)) p (.lst l5)=av (av M p (.lst l5)) q (.lst ds):=fun l4 l5 ds=>by rw[<-dq (V0 hqp),aR]
 have c2:∀l4 ds,av (av M p (.lst l4)) q (.lst ds) p=some (.lst l4):=fun l4 ds=>by rw[az (V0 hqp),aq]
 refine⟨p,l3,10,rfl,c2 _ _,hP3,by lia,by lia,fun v4 l4 b0 b1 hP4=>?_⟩;rw[c1];refine⟨_,rfl,p,l4,1+v4,rfl,c2 _ _,hP4,by lia,by lia,fun a u e ha=>?_,fun ws l5 hww hwn hwl hP5=>?_⟩
 ·by_cases haq:a=q
  ·subst haq;rw[aq]at e;cases e;rfl
  ·rw[az haq,az ha]at e;exact hno a u e ha
 rw[c1];refine⟨_,rfl,fun hz=>?_⟩;have hmp:=List.length_pos_iff.mpr hm;have hwl10:ws.length<=10:=by lia
 have hwl1:1<=ws.length:=by lia
 refine b7 (fun i Δ M'=>∃(x5:Option D) (l6:List D) (es:List (Str×List Row)),Δ=[some (D.ref p),some (D.int 10),some (D.lst (ba.map D.str)),some (D.tup (ord.map bK)),some (D.ref q),x5]/\M'=av (av M p (.lst l6)) q (.lst (es.map cA))/\bc l6/\es.map (·.1)=ws.take i/\∀e∈es,(bB e.1/\oY e.2)/\∀r∈e.2,∀s∈r,s.1∈ba)
  ⟨_,l5,[],rfl,rfl,hP5,by simp,fun _ h=>by cases h⟩ ?_ ?_
 ·intro i d Δ M' X hd hI k';refine shr fun _ bk=>?_;obtain⟨x5,l6,es,rfl,rfl,hP6,hes,heo⟩:=hI;refine bk ?_;clear bk;obtain⟨wd,hwd,rfl⟩:=j0 hd;have hi:i<ws.length:=(N1.mp hwd).1;have hel:es.length<=10:=by
   have:=congrArg an8 hes;rw[F3,P4]at this
   lia
  simp only[cR];walk_at "rd";refine⟨sz3 3,p,l6,3,rfl,c2 _ _,hP6,by lia,by lia,fun v7 l7 d0 d1 hP7=>?_⟩;rw[c1];obtain⟨tn,htn,et⟩:∃tn:Nat,tn<=99/\ixD (.lst [.int 2,.int 2,.int 99]) (.int v7)=some (.int (tn:Int)):=by
   have:v7=0∨v7=1∨v7=2:=by lia
   rcases this with rfl|rfl|rfl
   ·exact⟨2,by lia,rfl⟩
   ·exact⟨2,by lia,rfl⟩
   ·exact⟨99,by lia,rfl⟩
  refine⟨_,et,p,l7,ba,4,5,tn,rfl,c2 _ _,hP7,hm,by lia,by lia,by lia,by lia,by lia,fun ks l8 hk1 hk4 hkr hkn hP8=>?_⟩;rw[c1];refine⟨sz3 2,_,aq,by rw[F3,ab0];lia,?_⟩;rw[aR];refine k' _ _ ⟨_,l8,es++[(wd,ks)],rfl,by rw[U5];rfl,hP8,?_,fun e he=>?_⟩
  ·rw[U5,hes,V2,hwd];rfl
  ·rcases K0.mp he with z|z
   ·exact heo e z
   ·obtain rfl:e=(wd,ks):=by simpa using z
    refine⟨⟨hww wd (R4 hwd),hk1,hk4,hkn,fun r hr=>⟨(hkr r hr).1,fun x hx=>?_⟩⟩,fun r hr s hs=>((hkr r hr).2 s hs).1⟩;have hxx:=(hkr r hr).2 x hx;exact⟨hmw _ hxx.1,by lia,by lia⟩
 ·intro Δ M' hI;refine shr fun _ bk=>?_;obtain⟨x5,l6,es,rfl,rfl,hP6,hes,heo⟩:=hI;refine bk ?_;clear bk;rw[F3,X5 (F7 _)]at hes;walk_at "rd";rw[F3];refine⟨p,l6,_,rfl,c2 _ _,hP6,by lia,by lia,fun v9 l9 f0 f1 hP9=>?_⟩;rw[c1];obtain⟨g,hgm,eg⟩:=jX f0 f1;have hel:es.length=ws.length:=by rw[<-hes,F3]
  refine⟨_,eg,_,(show yD (rdM (av (av M p (.lst l9)) q (.lst (es.map cA))) (.ref q))=some (.tup (es.map cA))by rw[dF aq];rfl),sz3 3,av M p (.lst l9),fA (by rw[az hqp];exact hMq),k ord g es l9 ⟨⟨by lia,fun x hx=>⟨hmw _ (hom x hx).1,hmw _ (hom x hx).2⟩⟩,hmw _ hgm,⟨by lia,by lia,by rw[hes];exact hwn,fun e he=>(heo e he).1⟩,ba,by lia,fun x hx=>hom x hx,hgm,fun e he=>(heo e he).2⟩ hP9⟩
def jL:SpD:=fun ds M R=>∃(ord:List (Str×Str)) (ax:Str) (aw:List (Str×List Row)),ds=[dY ord ax aw]/\LxK ord ax aw/\∀p,M p=none->R (.ref p) (av M p (.lst ((mks ord ax aw).map .str)))
theorem nP(F:Fun K "marks_of" "marks_of" c8 f fd) (T:Txt mg) :a7 P w K mg base CX0 1 f fd ["lexicon"] (spD K 1 jL):=by
 have nd:=je.nd;refine F.okR rfl je (fun cdv A outer s H E hr=>⟨_,(ak (uT (ae 0) (qA rfl (du (bD (i:=1) nd rfl (Q9 rfl)) (du (bD (i:=2) nd rfl (Q9 rfl)) (du (bD (i:=3) nd rfl (Q9 rfl)) qz)))))
   (ak (xR (i:=4) nd rfl rfl rfl (ms:=[false,false,false,false,false,false]) (ao:=["pair","mark"]) (aA (n0:=0) rfl (show aF (ah c8) bx _ _=true from by decide +kernel)) rfl (aN (ae 1)) (aC (i:=6) (show(bx++_).Nodup from by decide +kernel) rfl rfl) (fun _ _ _ _=>aT) (fun _ _ _ _=>(aN (ae 6))) (aC (i:=7) (show(bx++_).Nodup from by decide +kernel) rfl rfl) (fun _ _ _ _=>aT) (fun _ _ _ _=>(ae 7)))
   (ak (wY (i:=5) nd rfl rfl rfl (ms:=[false,false,false,false,false,false]) (ao:=["word","kinds","kind","mark","turn"]) (aA (n0:=0) rfl (show aF (ah c8) bx _ _=true from by decide +kernel)) rfl (aN (ae 3)) (ik (n:=2) rfl (bS (aC (i:=6) (show(bx++_).Nodup from by decide +kernel) rfl rfl) (bS (aC (i:=7) (show(bx++_).Nodup from by decide +kernel) rfl rfl) ij))) (fun _ _ _ _=>aT) (fun _ _ _ _=>(aN (ae 7))) (aC (i:=8) (show(bx++_).Nodup from by decide +kernel) rfl rfl) (fun _ _ _ _=>aT) (fun _ _ _ _=>(aN (ae 8))) (ik (n:=2) rfl (bS (aC (i:=9) (show(bx++_).Nodup from by decide +kernel) rfl rfl) (bS (aC (i:=10) (show(bx++_).Nodup from by decide +kernel) rfl rfl) ij))) (fun _ _ _ _=>aT) (fun _ _ _ _=>(ae 9)))
   (au (aI (Dk rfl rfl T.b_sorted rfl T.b_set (aO aM (aO aM (ae 4) (bI (aa (ae 2) ag))) (ae 5)))))))),fun ds M R _ hS bk=>?_⟩)
 obtain⟨ord,ax,aw,rfl,hL,k⟩:=hS;have ho:=hL.o.1;refine bk ?_;clear bk;have ho2:=pN (ord:=ord);have hk2:=uz hL.e;have eO:(ord.flatMap fun p=>[D.str p.1,D.str p.2])=(inO ord).map D.str:=by unfold inO;rw[List.map_flatMap];rfl
 have eK:(aw.flatMap fun e=>e.2.flatMap fun r=>r.map fun s=>D.str s.1)=(inK aw).map D.str:=by
  unfold inK;simp only[List.map_flatMap,S5];rfl
 simp only[dY];walk_at "rd";refine⟨_,rfl,_,rfl,_,rfl,fun _=>?_⟩;refine eN bK (fun p=>[D.str p.1,D.str p.2]) (fun Δ=>∃a b,Δ=[none,none,none,none,none,none,a,b]) ord _ _ _ ?_ ⟨_,_,rfl⟩ ?_ ?_
 ·rintro⟨x,y⟩ hp Δ ⟨a,b,rfl⟩;refine⟨_,rfl,fun acc Q2 hz q2=>?_⟩;simp only[jC,rG,iu];refine⟨_,rfl,_,rfl,fun _=>?_⟩;refine eN D.str (fun x=>[D.str x]) (fun Δ=>∃b,Δ=[none,none,none,none,none,none,some (bK (x,y)),b]) [x,y] _ _ _ ?_ ⟨_,rfl⟩ hz (by rintro Δ' ⟨b,rfl⟩;exact q2 _ ⟨_,_,rfl⟩);rintro z hz' Δ ⟨b,rfl⟩;refine⟨_,rfl,fun acc2 Q3 hz3 q3=>?_⟩;simp only[lX,iu];exact⟨_,rfl,q3 _ ⟨_,rfl⟩⟩
 ·rw[eO,F3];exact sz3 _ (by simp;lia)
 rintro Δ' -
 rw[eO,M9];refine⟨_,rfl,_,rfl,fun _=>?_⟩;refine eN cA (fun e=>e.2.flatMap fun r=>r.map fun s=>D.str s.1) (fun Δ=>∃a b c d e,Δ=[none,none,none,none,none,none,a,b,c,d,e]) aw _ _ _ ?_ ⟨_,_,_,_,_,rfl⟩ ?_ ?_
 ·rintro e he' Δ ⟨a,b,c,d,e5,rfl⟩;refine⟨_,rfl,fun acc Q2 hz q2=>?_⟩;simp only[jC,rG,iu];refine⟨_,rfl,_,rfl,fun _=>?_⟩;refine eN aS (fun r=>r.map fun s=>D.str s.1) (fun Δ=>∃c d e5,Δ=[none,none,none,none,none,none,some (.str e.1),some (cb e.2),c,d,e5]) e.2 _ _ _ ?_ ⟨_,_,_,rfl⟩ hz (by rintro Δ' ⟨c,d,e5,rfl⟩;exact q2 _ ⟨_,_,_,_,_,rfl⟩);rintro r hr Δ ⟨c,d,e5,rfl⟩;refine⟨_,rfl,fun acc2 Q3 hz3 q3=>?_⟩;simp only[jC,rG,iu];refine⟨_,rfl,_,rfl,fun _=>?_⟩;refine eN bH (fun s=>[D.str s.1]) (fun Δ=>∃d e5,Δ=[none,none,none,none,none,none,some (.str e.1),some (cb e.2),some (aS r),d,e5]) r _ _ _ ?_ ⟨_,_,rfl⟩ (by rw[rO];exact hz3) (by rintro Δ' ⟨d,e5,rfl⟩;rw[rO];exact q3 _ ⟨_,_,_,rfl⟩);rintro s hs Δ ⟨d,e5,rfl⟩;refine⟨_,rfl,fun acc3 Q4 hz4 q4=>?_⟩;simp only[lX,iu];exact⟨_,rfl,q4 _ ⟨_,_,rfl⟩⟩
 ·rw[eK,F3];exact sz3 _ (by simp;lia)
 rintro Δ' -
 rw[eK,M9];refine⟨_,rfl,_,rfl,sz3 1,_,if_pos (sz3 _ (by simp;lia)),_,rfl,_,if_pos (sz3 _ (by simp;lia)),inO ord++[ax]++inK aw,?_,by simp;lia,aj5 (hL.met fun x hx=>hx) (by decide),k⟩;simp[rdM]
def nV:SpD:=fun ds M R=>∃(ord:List (Str×Str)) (ax:Str) (aw:List (Str×List Row)),ds=[dY ord ax aw]/\LxK ord ax aw/\R (.lst ((mks ord ax aw).map .str)) M
theorem su(F:Fun K "_law_marks" "_law_marks" iT f fd) (T:Txt mg) :a7 P w K mg base CX0 1 f fd ["_law_lexicon_here"] (spD K 1 nV):=by
 have nd:=lP.nd;refine F.okR rfl lP (fun cdv A outer s H E hr=>⟨_,(ak (aL (i:=1) nd rfl (Q9 rfl) (bI (aa (bp bo (ae 0) aj (fun _ _=>rfl)) ag)))
   (ak (gP U6 rfl (aN (bp bo (ae 0) aj (fun _ _=>rfl))) (bD (i:=2) nd rfl (Q9 rfl)) (au (aL (i:=1) nd rfl (Q9 rfl) (aO aM (ae 1) (bG jn rfl T.b_list (by kernel_rfl) (aa (ae 2) ag))))))
   (ak (gP U6 rfl (aN (bp bo (ae 0) aj (fun _ _=>rfl))) (qA rfl (du (bD (i:=3) nd rfl (Q9 rfl)) (du (bD (i:=4) nd rfl (Q9 rfl)) qz))) (au (gP U6 rfl (aN (ae 4)) (bD (i:=5) nd rfl (Q9 rfl)) (au (aL (i:=1) nd rfl (Q9 rfl) (aO aM (ae 1) (cX (ms:=[false,false,false,false,false,false]) (ao:=["_law_mark","_law_turn"]) (aA (n0:=0) rfl (show aF (ah iT) iS _ _=true from by decide +kernel)) rfl (aN (ae 5)) (ik (n:=2) rfl (bS (aC (i:=6) (show(iS++_).Nodup from by decide +kernel) rfl rfl) (bS (aC (i:=7) (show(iS++_).Nodup from by decide +kernel) rfl rfl) ij))) (fun _ _ _ _=>aT) (fun _ _ _ _=>(ae 6)))))))))
   (au (aI (Ez rfl rfl T.b_sorted rfl T.b_set (ae 1))))))),fun ds M R _ hS bk=>?_⟩)
 obtain⟨ord,ax,aw,rfl,hL,k⟩:=hS;have ho:=hL.o.1;refine bk ?_;clear bk;have ho2:=pN (ord:=ord);have hk2:=uz hL.e;simp only[dY];walk_at "rd";refine⟨sz3 1,fun _=>?_⟩;refine b7 (fun i Δ M'=>∃x2,Δ=[some (D.tup [D.tup (ord.map bK),D.str ax,D.tup (aw.map cA)]),some (.lst ((ax::inO (ord.take i)).map D.str)),x2,none,none,none]/\M'=M) ⟨none,rfl,rfl⟩ ?_ ?_
 ·rintro i d Δ M' X hd ⟨x2,rfl,rfl⟩ k';obtain⟨p,hp,rfl⟩:=j0 hd;have hi:i<ord.length:=(N1.mp hp).1;have hl2:=pN (ord:=ord.take i);rw[P4]at hl2;refine⟨_,rfl,?_⟩;simp only[bK];walk_at "rd";have e:inO (ord.take (i+1))=inO (ord.take i)++[p.1,p.2]:=by rw[V2,hp];simp[inO]
  refine⟨_,rfl,_,if_pos (sz3 _ (by simp;lia)),k' _ _ ⟨some (.tup [.str p.1,.str p.2]),?_,rfl⟩⟩;rw[e];simp
 rintro Δ M' ⟨x2,rfl,rfl⟩;rw[F3,aa0];walk_at "rd";refine fun _=>?_;refine b7 (fun i Δ M1=>∃x2 x3 x4 x5,Δ=[some (D.tup [D.tup (ord.map bK),D.str ax,D.tup (aw.map cA)]),some (.lst ((ax::inO ord++inK (aw.take i)).map D.str)),x2,x3,x4,x5]/\M1=M') ⟨x2,none,none,none,by simp[inK],rfl⟩ ?_ ?_
 ·rintro i d Δ M1 X hd ⟨x2,x3,x4,x5,rfl,rfl⟩ k';obtain⟨e,hp,rfl⟩:=j0 hd;have hlk:=yu hk2 (i+1);simp only[cA];refine⟨_,rfl,?_⟩;simp only[cb];walk_at "rd";refine fun _=>?_;refine b7 (fun j Δ M2=>∃x2 x5,Δ=[some (D.tup [D.tup (ord.map bK),D.str ax,D.tup (aw.map cA)]),some (.lst ((ax::inO ord++inK (aw.take i)++(e.2.take j).flatMap fun r=>r.map (·.1)).map D.str)),x2,some (D.str e.1),some (D.tup (e.2.map aS)),x5]/\M2=M1) ⟨x2,x5,by simp,rfl⟩ ?_ ?_
  ·rintro j d Δ M2 X2 hd2 ⟨y2,y5,rfl,rfl⟩ k2;obtain⟨r,hr,rfl⟩:=j0 hd2;have hfl:(inK (aw.take i)).length+((e.2.take (j+1)).flatMap fun r=>r.map (·.1)).length<=200:=by
    refine O4 ?_ hlk;have e3:inK (aw.take (i+1))=inK (aw.take i)++((e.2.take (j+1)).flatMap fun r=>r.map (·.1))++(e.2.drop (j+1)).flatMap fun r=>r.map (·.1):=by
     rw[V2,hp,aa6,<-List.flatMap_append,ag7];simp[inK]
    rw[e3,J1,J1];lia
   have e4:((e.2.take (j+1)).flatMap fun r=>r.map (·.1))=((e.2.take j).flatMap fun r=>r.map (·.1))++r.map (·.1):=by rw[V2,hr];simp
   rw[e4,J1,F3]at hfl;refine⟨_,rfl,?_⟩;simp only[aS];walk_at "rd";refine fun hz=>⟨hz,cU bH (fun _=>true) (fun s=>D.str s.1) (fun Δ=>∃x y,Δ=[none,none,none,none,none,none,x,y]) r _ _ (fun s hs Δ hΔ=>?_) ⟨none,none,rfl⟩ ?_⟩
   ·obtain⟨x,y,rfl⟩:=hΔ;refine⟨_,rfl,⟨_,_,rfl⟩,fun Q1 q=>q,fun _ Q2 q=>?_⟩;walk_at "rd";exact q
   ·rw[M9,N4.mpr (fun _ _=>rfl)];refine⟨_,if_pos (sz3 _ (by simp only[F3,J1,T0];lia)),k2 _ _ ⟨y2,some (D.tup (r.map bH)),?_,rfl⟩⟩;rw[e4];simp[Function.comp_def]
  ·rintro Δ M2 ⟨y2,y5,rfl,rfl⟩;rw[F3,aa0];have e3:inK (aw.take (i+1))=inK (aw.take i)++e.2.flatMap fun r=>r.map (·.1):=by rw[V2,hp];simp[inK]
   refine k' _ _ ⟨y2,some (D.str e.1),some (D.tup (e.2.map aS)),y5,?_,rfl⟩;rw[e3,<-aa6]
 ·rintro Δ M1 ⟨x2,x3,x4,x5,rfl,rfl⟩;rw[F3,aa0];walk_at "rd";have hmm:∀x,x∈ax::inO ord++inK aw↔x∈inO ord++[ax]++inK aw:=fun x=>by simp only[List.cons_append,J3,K0,L9,or_false];rw[<-or_assoc,or_comm (a:=x=ax)]
  refine⟨ax::inO ord++inK aw,rfl,by simp;lia,aj5 (hL.met fun x hx=>(hmm x).mp hx) (by decide),?_⟩;have e:cG (cp (ax::inO ord++inK aw))=mks ord ax aw:=ve hmm;rw[e];exact k
def eL:SpD:=fun ds M R=>∃(ord:List (Str×Str)) (ax:Str) (aw:List (Str×List Row)),ds=[dY ord ax aw]/\aw.length<=10/\R (.lst (aw.map fun e=>D.str e.1)) M
theorem nk(F:Fun K "words_of" "words_of" eA f fd) (T:Txt mg) :a7 P w K mg base CX0 1 f fd ["lexicon"] (spD K 1 eL):=by
 have nd:=jc.nd;refine F.okR rfl jc (fun cdv A outer s H E hr=>⟨_,(au (aI (cX (ms:=[false]) (ao:=["word","kinds"]) (aA (n0:=0) rfl (show aF (ah eA) eE _ _=true from by decide +kernel)) rfl (aN (bp bo (ae 0) aj (fun _ _=>rfl))) (ik (n:=2) rfl (bS (aC (i:=1) (show(eE++_).Nodup from by decide +kernel) rfl rfl) (bS (aC (i:=2) (show(eE++_).Nodup from by decide +kernel) rfl rfl) ij))) (fun _ _ _ _=>aT) (fun _ _ _ _=>(ae 1))))),fun ds M R _ hS bk=>?_⟩);obtain⟨ord,ax,aw,rfl,hl,k⟩:=hS;refine bk ?_;clear bk;simp only[dY];walk_at "rd";refine fun hz=>⟨hz,?_⟩;refine cU cA (fun _=>true) (fun e=>D.str e.1) (fun Δ=>∃x y,Δ=[none,x,y]) aw _ _ (fun e he Δ hΔ=>?_) ⟨none,none,rfl⟩ ?_
 ·obtain⟨x,y,rfl⟩:=hΔ;refine⟨_,rfl,⟨_,_,rfl⟩,fun Q1 q=>q,fun _ Q2 q=>?_⟩;walk_at "rd";exact q
 ·rw[M9,N4.mpr (fun _ _=>rfl)];exact k
theorem Am{w:Str}{aw:List (Str×List Row)}:((aw.map fun e=>D.str e.1).any fun d=>eqD d (.str w))=decide (w∈aw.map (·.1)):=by
 rw[S0,List.any_map,ab9,decide_eq_true_eq,O2];constructor
 ·rintro⟨e,he,h⟩;exact⟨e,he,by simpa[eqD]using h⟩
 ·rintro⟨e,he,h⟩;exact⟨e,he,by simp[eqD,h]⟩
theorem vP{aw:List (Str×List Row)}:(aw.map fun e=>D.str e.1).all bz=true:=by rw[Q6,N5];intro _ _;rfl
def gG:SpD:=fun ds M R=>∃(ord:List (Str×Str)) (ax:Str) (aw:List (Str×List Row)) (w:Str),ds=[dY ord ax aw,.str w]/\aw.length<=10/\bB w/\R (.bl (decide (w∈aw.map (·.1)))) M
theorem ni(F:Fun K "has_word" "has_word" gD f fd) (T:Txt mg) (G4:FnD P w K mg base "is_short_word" 1 1 bA) (G8:FnD P w K mg base "words_of" 1 1 eL):a7 P w K mg base CX0 2 f fd ["lexicon","thing"] (spD K 2 gG):=by
 have nd:=i8.nd;refine F.okR rfl i8 (fun cdv A outer s H E hr=>⟨_,(au (aI (bt (qd G4 hr (aa (ae 1) ag)) (cv (cV yB (ae 1) (qd G8 hr (aa (ae 0) ag)) rfl))))),fun ds M R _ hS bk=>?_⟩);obtain⟨ord,ax,aw,w,rfl,hl,ok,k⟩:=hS;refine bk ?_;clear bk;walk_at "rd";refine bT.mpr ⟨iU ok,?_⟩;rw[show aJ (.str w)=true from dw ok];walk_at "rd";refine⟨ord,ax,aw,rfl,hl,?_⟩;walk_at "rd";refine⟨_,if_pos ⟨rfl,vP⟩,?_⟩;rw[Am,Bool.false_xor];exact k
theorem ym{w:Str}:∀{aw:List (Str×List Row)},aw.length<2 ^ 62->w∈aw.map (·.1)->∃j e,qE (aw.map fun e=>D.str e.1) (.str w)=some j/\aw[j]?=some e/\e.2=kin aw w:=by
 intro aw hl hw;have hd:cz (aw.map fun e=>D.str e.1) 59=true:=fU _ fun _=>rfl;have h1:dLe (.str w) 59=true:=rfl;unfold qE;rw[if_pos ⟨h1,hd,by rw[F3];exact hl⟩];clear hd h1 hl
 induction aw with
 |nil=>cases hw
 |cons e l ih =>
  obtain⟨a,ks⟩:=e;rw[N8,List.findIdx?_cons]
  by_cases h:a=w
  ·subst h;exact⟨0,_,by simp[eqD],rfl,by simp[kin]⟩
  ·have hne:eqD (.str a) (.str w)=false:=by simp[eqD,h]
   have hw':w∈l.map (·.1):=by
    rw[N8]at hw;rcases J3.mp hw with q|q
    ·exact absurd q.symm h
    ·exact q
   obtain⟨j,e,q1,q2,q3⟩:=ih hw';refine⟨j+1,e,?_,by rw[aa2];exact q2,?_⟩
   ·simp only[hne,F6,if_false];rw[q1];rfl
   ·rw[q3];unfold kin;rw[S2];have:(w==a)=false:=by simpa using fun q:w=a=>h q.symm
    rw[this]
theorem vk{w:Str}{aw:List (Str×List Row)}(h:w∈aw.map (·.1)) (hl:aw.length<=10):∃j e,qE (aw.map fun e=>D.str e.1) (.str w)=some j/\atI (aw.map cA) (j:Int)=some (cA e)/\e.2=kin aw w:=by
 obtain⟨j,e,q1,q2,q3⟩:=ym (aj5 hl (by decide)) h;exact⟨j,e,q1,dA (by rw[N0,q2];rfl),q3⟩
def jH:SpD:=fun ds M R=>∃(ord:List (Str×Str)) (ax:Str) (aw:List (Str×List Row)) (w:Str),ds=[dY ord ax aw,.str w]/\aw.length<=10/\bB w/\w∉aw.map (·.1)/\∀dd,M dd=none->R (xA 0 (some dd)) (av M dd (nK "word" dd (.str w)))
theorem nu(F:Fun K "kinds_of" "kinds_of" eF f fd) (T:Txt mg) {C0 W fI0:F9} (Y:zN K mg C0 W fI0) {fdI0:K4} (FI0:a7 P w K mg base CX0 1 fI0 fdI0 ["self","word"] (spF "word" C0)) (hbI0:cZ K fdI0 ["self","word"] []) (hfI0:∃oI,K.lookup fI0=some oI/\oI.cls=O6 "function") (Y3:FnD P w K mg base "has_word" 2 2 gG) (G8:FnD P w K mg base "words_of" 1 1 eL):a7 P w K mg base (CX2 P w [C0]) 3 f fd ["lexicon","word"] (spY K 2 jH [C0]):=by
 have nd:=dB.nd;refine F.okY rfl dB (fun cdv A outer s H E hr=>⟨_,(AY (FL (bC (bw (qd Y3 hr (aa (ae 0) (aa (ae 1) ag))))) (xK (FF 0 rfl Y.p0 FI0 hbI0 hfI0 (hr.mono (by decide)) rfl rfl (ae 1) fun af σ H s a x I q h1 h2 h3=>BU (i:=0) I rfl q h1 h2 h3)) Df)
   (xK (FG (aI (bp bo (bp bo (bp bo (ae 0) aj (fun _ _=>rfl)) (wG hr.units (qd G8 hr (aa (ae 0) ag)) (ae 1)) (fun _ _=>rfl)) aj (fun _ _=>rfl)))))),fun ds M R hl hS=>?_⟩)
 obtain⟨ord,ax,aw,w,rfl,hl,hw,hno,k⟩:=hS;walk_at "rd";refine⟨ord,ax,aw,w,rfl,hl,hw,_,rfl,?_⟩;rw[if_pos (by simp[hno])];exact fun dd hd=>⟨_,fun _ _ e=>e,k dd hd⟩
def kc:SpD:=fun ds M R=>∃(ord:List (Str×Str)) (ax:Str) (aw:List (Str×List Row)) (w:Str),ds=[dY ord ax aw,.str w]/\aw.length<=10/\bB w/\w∈aw.map (·.1)/\R (cb (kin aw w)) M
theorem nA(F:Fun K "kinds_of" "kinds_of" eF f fd) (T:Txt mg) (Y3:FnD P w K mg base "has_word" 2 2 gG) (G8:FnD P w K mg base "words_of" 1 1 eL):a7 P w K mg base CX0 3 f fd ["lexicon","word"] (spD K 2 kc):=by
 have nd:=dB.nd;refine F.okR rfl dB (fun cdv A outer s H E hr=>⟨_,(ak (cn (bC (bw (qd Y3 hr (aa (ae 0) (aa (ae 1) ag))))) (au zq) bN)
   (au (aI (bp bo (bp bo (bp bo (ae 0) aj (fun _ _=>rfl)) (wG hr.units (qd G8 hr (aa (ae 0) ag)) (ae 1)) (fun _ _=>rfl)) aj (fun _ _=>rfl))))),fun ds M R _ hS bk=>?_⟩)
 obtain⟨ord,ax,aw,w,rfl,hl,hw,hm,k⟩:=hS;refine bk ?_;clear bk;walk_at "rd";refine⟨ord,ax,aw,w,rfl,hl,hw,_,rfl,?_⟩;rw[if_neg (by simp[hm])];simp only[dY];walk_at "rd";refine⟨ord,ax,aw,rfl,hl,⟨_,rfl⟩,_,rfl,?_⟩;obtain⟨j,e,q1,q2,q3⟩:=vk hm hl;refine⟨j,q1,_,q2,?_⟩;simp only[cA];refine⟨_,rfl,?_⟩;rw[q3];exact k
def oq(C0:F9):SpD:=fun ds M R=>∃(a dd:F9),ds=[.ref a,.int 1]/\M a=some (exY [C0] 0 (some dd) a)/\R (.bl true) M
theorem sx(F:Fun K "_law_alone" "_law_alone" iO f fd) (T:Txt mg) {C0 W fI0:F9} (Y:zN K mg C0 W fI0) :a7 P w K mg base CX0 1 f fd ["_law_e","_law_sort"] (spD K 2 (oq C0)):=by
 have nd:=mG.nd;refine F.okR rfl mG (fun cdv A outer s H E hr=>⟨_,(ak (aL (i:=2) nd rfl (Q9 rfl) (jm (aa (gF Y.z rfl T.b_isinstance rfl Y.k_NoText (ae 0)) (aa (gF Y.z rfl T.b_isinstance rfl Y.k_NoWord (ae 0)) (aa (gF Y.z rfl T.b_isinstance rfl Y.k_NoLexicon (ae 0)) (aa (gF Y.z rfl T.b_isinstance rfl Y.k_NoStep (ae 0)) ag))))))
   (bL (ak (aL (i:=2) nd rfl (Q9 rfl) (mh (ae 2) (bI (aa (gF Y.z rfl T.b_isinstance rfl Y.k_NoNumber (ae 0)) (aa (gF Y.z rfl T.b_isinstance rfl Y.k_NoDrawing (ae 0)) (aa (gF Y.z rfl T.b_isinstance rfl Y.k_NoWorld (ae 0)) (aa (gF Y.z rfl T.b_isinstance rfl Y.k_NoRow (ae 0)) ag)))))))
   (ak (gn (jY (ae 2) (gF Y.z rfl T.b_isinstance rfl Y.k_NoKept (ae 0))))
   (au (jr (bt (Ca Y.z rfl T.b_isinstance rfl T.b_ValueError rfl Y.k_ValueError (ae 0)) (cv (cV (pE hr.units) (ae 2) (cX (ms:=[false,true,false]) (ao:=["_law_k"]) (aA rfl (show aF (ah iO) kO _ _=true from by decide +kernel)) rfl (dG rfl T.b_range (aa aj ag)) (aC (i:=3) (show(kO++_).Nodup from by decide +kernel) rfl rfl) (fun _ _ _ _=>aT) (fun _ _ _ _=>(cV (pE hr.units) (ae 3) (ae 1) nbh))) nbh))))))))),fun ds M R _ hS bk=>?_⟩)
 obtain⟨a,dd,rfl,hM,k⟩:=hS;refine bk ?_;clear bk;walk_at "rd";refine⟨_,_,hM,_,_,hM,_,_,hM,_,_,hM,sz3 4,fun p hp=>aP ?_⟩;have hap:a≠p:=fun z=>by rw[z,hp]at hM;cases hM
 have h1:av M p (HD.lst [D.bl ([false].getD 0 false),D.bl ([true].getD 0 false),D.bl ([false].getD 0 false),D.bl ([false].getD 0 false)]) a=some (exY [C0] 0 (some dd) a):=by rw[az hap];exact hM
 walk_at "rd";refine⟨_,_,h1,_,_,h1,_,_,h1,_,_,h1,sz3 4,sz3 8,fun p1 hp1=>?_⟩;have hap1:a≠p1:=fun z=>by rw[z,hp1]at h1;cases h1
 refine⟨_,_,by rw[az hap1];exact h1,J9 (by decide:8<1000) (sz3 1000),_,_,by rw[az hap1];exact h1,?_⟩;rw[if_pos (by rfl)];refine⟨sz3 9,?_⟩;generalize hM3:av (av M p _) p1 _=M3;have h3:rdM M3 (.ref p1)=.lst [D.bl false,D.bl true,D.bl false,D.bl false,D.bl false,D.bl false,D.bl false,D.bl false,D.bl false]:=by rw[<-hM3];exact dF aq
 have hle:LeM M M3:=by
  rw[<-hM3];refine fun b o e=>?_;have hb:b≠p:=fun z=>by rw[z,hp]at e;cases e
  have hb1:b≠p1:=fun z=>by rw[z]at e;rw[az (fun z2=>hb (by rw[z,z2])),e]at hp1;cases hp1
  rw[az hb1,az hb];exact e
 refine jF (fun i acc Δ M'=>∃x,Δ=[none,some (D.int 1),none,x]/\M'=M3/\acc=(P0 i).map fun(k:Nat)=>D.bl ((k:Int)==1)) ⟨none,rfl,rfl,rfl⟩ ?_ ?_
 ·rintro i d acc Δ M' X hd ⟨x,rfl,rfl,rfl⟩ k';obtain⟨hi,rfl⟩:=gb hd;refine⟨_,rfl,?_⟩;rw[Int.zero_add];simp only[nR];walk_at "rd";refine k' _ _ _ ⟨_,rfl,rfl,?_⟩;rw[ad6,U5];rfl
 ·rintro acc Δ M' ⟨x,rfl,rfl,rfl⟩;rw[h3];exact⟨_,rfl,M,hle,k⟩
def kS:SpD:=fun ds M R=>∃(ord:List (Str×Str)) (ax:Str) (aw:List (Str×List Row)) (w:Str),ds=[dY ord ax aw,.str w]/\aw.length<=10/\bB w/\w∉aw.map (·.1)/\R (.bl true) M
theorem pP(F:Fun K "_law_refused" "_law_refused" iw f fd) (T:Txt mg) {C0 W fI0:F9} (Y:zN K mg C0 W fI0) (ga6:FnY P w K mg base "kinds_of" 3 2 jH [C0]) (gc0:FnD P w K mg base "_law_alone" 1 2 (oq C0)):a7 P w K mg base CX0 4 f fd ["_law_lexicon_here","_law_word_here"] (spD K 2 kS):=by
 have nd:=j9.nd;refine F.okR rfl j9 (fun cdv A outer s H E hr=>⟨_,(ak (aL (i:=2) nd rfl (Q9 rfl) eh)
   (ak (Ck (j:=3) (fun _ _ h=>h) rfl rfl rfl rfl Y.gH Y.lC Y.lW nd rfl rfl (z8 (zy ga6 (hr.mono (by decide)) rfl (fun _ _ h=>h) (aa (ae 0) (aa (ae 1) ag)))) fun a=>(au (aL (i:=2) nd rfl (Q9 rfl) (ae 3))))
   (au (jr (bt (cV zT (ae 2) eh nbh) (bt (qd gc0 hr (aa (ae 2) (aa aj ag))) (cv (cV (pE hr.units) (EY (Cs:=[C0]) 0 rfl (Y.z _ (by simp)) Y.g0 (ae 2)) (ae 1) nbh)))))))),fun ds M R _ hS bk=>?_⟩)
 obtain⟨ord,ax,aw,w,rfl,hl,hw,hno,k⟩:=hS;refine bk ?_;clear bk;walk_at "rd";refine⟨ord,ax,aw,w,rfl,hl,hw,hno,fun dd hdd=>⟨fun e=>?_,fun i x e a ha=>?_⟩⟩
 ·rw[sH]at e;cases e
 ·rw[sH]at e;cases e;have hda:dd≠a:=fun z=>by rw[<-z,aq]at ha;cases ha
  have hma:av (av M dd (nK (F5 "word") dd (D.str w))) a (exY [C0] 0 (some dd) a) a=some (exY [C0] 0 (some dd) a):=aq;have hmd:av (av M dd (nK (F5 "word") dd (D.str w))) a (exY [C0] 0 (some dd) a) dd=some (nK (F5 "word") dd (D.str w)):=by rw[az hda,aq]
  have hle:LeM M (av (av M dd (nK (F5 "word") dd (D.str w))) a (exY [C0] 0 (some dd) a)):=fun b u e=>by
   have h1:b≠dd:=fun z=>by rw[z,hdd]at e;cases e
   have h2:b≠a:=fun z=>by rw[z]at e;rw[az (V0 hda)]at ha;rw[ha]at e;cases e
   rw[az h2,az h1];exact e
  generalize av (av M dd (nK (F5 "word") dd (D.str w))) a (exY [C0] 0 (some dd) a)=M3 at *
  refine⟨M3,fun _ _ e=>e,?_⟩;have hr:rdM M3 (.ref a)=.ref a:=by simp only[rdM,hma,exY]
  rw[hr,if_pos (by rfl)];refine⟨a,dd,rfl,hma,?_⟩;refine⟨_,rfl,?_⟩;rw[if_pos rfl];refine⟨_,hma,_,hmd,_,rfl,M,hle,?_⟩;rw[show eqD (rdM M3 (D.str w)) (D.str w)=true by simp[rdM,eqD]];exact k
def tH:SpD:=fun ds M R=>∃a b:Bool,ds=[.bl a,.bl b]/\R (.bl (a==b)) M
theorem zx(F:Fun K "_law_is" "_law_is" tY f fd) (T:Txt mg) :a7 P w K mg base CX0 1 f fd ["_law_found","_law_due"] (spD K 2 tH):=by
 have nd:=um.nd;refine F.okR rfl um (fun cdv A outer s H E hr=>⟨_,(au (aI (bt (cm (Tn:="bool") (by decide) rfl T.b_isinstance rfl T.b_bool (by kernel_rfl) (ae 0)) (cv (cV (pE hr.units) (ae 0) (ae 1) nbh))))),fun ds M R _ hS bk=>?_⟩);obtain⟨a,b,rfl,k⟩:=hS;refine bk ?_;clear bk;walk_at "rd";exact k
theorem xV{ds:List D}{i:Int}(h0:0<=i) (h1:i<(ds.length:Int)):∃d∈ds,atI ds i=some d:=by
 obtain⟨n,rfl⟩:=W7 h0;have hn:n<ds.length:=by lia
 exact⟨ds[n],R6 hn,dA (by rw[F4 hn])⟩
theorem pd(x:Str):x.length=x.cps.toList.length:=by show x.cps.size=_;simp
theorem vg(a b:Str):(a++b).cps.toList=a.cps.toList++b.cps.toList:=by show(a.cps++b.cps).toList=_;simp
theorem gZ{a b:Str}:(a++b).length=a.length+b.length:=by rw[pd,vg,J1,<-pd,<-pd]
theorem aZ{l:List D}(h:∀d∈l,ai d=true):ai (.tup l)=true:=aQ.mpr h
theorem eV{ds:List D}{lo hi:Option Int}:(L2.eJ ds lo hi).length<=ds.length:=by unfold L2.eJ;rw[P4,af3];lia
theorem dh{ds:List D}{lo hi:Option Int}{d:D}(h:d∈L2.eJ ds lo hi):d∈ds:=List.mem_of_mem_drop (ad0 h)
theorem qo{l:List D}{n:Nat}{d:D}(h:d∈(J7 n l).flatten):d∈l:=by
 obtain⟨m,hm,hd⟩:=List.mem_flatten.mp h;rw[(List.mem_replicate.mp hm).2]at hd;exact hd
theorem Ep{t:Int}(h0:-99<=t) (h1:t<=99):ai (.str (at3 t))=true/\t.natAbs.log2<1920:=by
 have h:∀n:Fin 199,ai (.str (at3 ((n.1:Int)-99)))=true/\((n.1:Int)-99).natAbs.log2<1920:=by decide +kernel
 have:=h ⟨(t+99).toNat,by lia⟩;have e:(((t+99).toNat:Nat):Int)-99=t:=by lia
 simp only[e]at this;exact this
def L34:Str:=F5 "abcdefghijklmnopqrstuvwxyzAZ09 .-_"
theorem lG:L34.length=34:=by decide +kernel
theorem B0{v:Int}(h0:0<=v) (h1:v<34):∃c,ixD (.str L34) (.int v)=some (.str c)/\c.length<=1:=by
 have h:∀n:Fin 34,(match ixD (.str L34) (.int (n.1:Int))with|some (.str c)=>decide (c.length<=1)|_=>false)=true:=by decide +kernel
 have:=h ⟨v.toNat,by lia⟩;have e:((v.toNat:Nat):Int)=v:=by lia
 simp only[e]at this
 split at this
 ·rename_i c e2;exact⟨c,e2,of_decide_eq_true this⟩
 ·cases this
theorem yG{x:Str}{n:Int}(h1:x.length<=16777216) (h2:-(2 ^ 63)<=n) (h3:n<=16777216) (h4:x.length*n.toNat<=16777216):nG (.str x) (.int n)=some (.str (Txt.mul x n)):=if_pos ⟨h1,h2,h3,h4⟩
theorem AF{v:Int}:∃y,vS (.str (F5 "a")) (.int (8+v % 2))=some (.str y)/\y.length<=9:=by
 have:v % 2=0∨v % 2=1:=by lia
 have h8:(Txt.mul (F5 "a") 8).length<=9:=by decide +kernel
 have h9:(Txt.mul (F5 "a") 9).length<=9:=by decide +kernel
 have h1:(F5 "a").length=1:=by decide +kernel
 rcases this with e|e<;>rw[e]
 ·exact⟨_,by rw[xD];exact yG (by rw[h1];decide) (by decide) (by decide) (by rw[h1];decide),h8⟩
 ·exact⟨_,by rw[xD];exact yG (by rw[h1];decide) (by decide) (by decide) (by rw[h1];decide),h9⟩
inductive Tb:Nat->D->Prop
 |int (n:Nat) (i:Int) (h0:-99<=i) (h1:i<=99):Tb n (.int i)
 |str (n:Nat) (x:Str) (h:x.length<=8):Tb n (.str x)
 |tup (n:Nat) (ds:List D) (hl:ds.length<=10) (h:∀d,d∈ds->Tb n d):Tb (n+1) (.tup ds)
theorem Tb.good{n:Nat}{d:D}(h:Tb n d):ai d=true:=by
 induction h with
 |int n i h0 h1=>rfl
 |str n x h=>exact decide_eq_true (by lia)
 |tup n ds _ _ ih=>exact aQ.mpr ih
theorem Tb.le{n:Nat}{d:D}(h:Tb n d):∀k,n<=k->dLe d k=true:=by
 induction h with
 |int n i _ _=>intro k _;cases k<;>rfl
 |str n x _=>intro k _;cases k<;>rfl
 |tup n ds _ _ ih =>
  intro k hk;obtain⟨k',rfl⟩:∃k',k=k'+1:=⟨k-1,by lia⟩;exact gc.mpr fun d hd=>ih d hd k' (by lia)
theorem Tb.up{n:Nat}{d:D}(h:Tb n d):Tb (n+1) d:=by
 induction h with
 |int n i h0 h1=>exact .int _ i h0 h1
 |str n x h=>exact .str _ x h
 |tup n ds hl _ ih=>exact .tup _ ds hl ih
def dE:SpD:=fun ds M R=>∃(p:F9) (l:List D) (n:Nat) (d:D),ds=[.ref p,d]/\M p=some (.lst l)/\bc l/\Tb n d/\∀d' l',ai d'=true->bc l'->R d' (av M p (.lst l'))
theorem ma(F:Fun K "_law_otherwise" "_law_otherwise" fK f fd) (T:Txt mg) (G0:FnD P w K mg base "_law_draw" 1 2 cK):a7 P w K mg base CX0 2 f fd ["_law_pool_here","_law_thing"] (spD K 2 dE):=by
 have nd:=iF.nd;refine F.okR rfl iF (fun cdv A outer s H E hr=>⟨_,(ak (aL (i:=2) nd rfl (Q9 rfl) bV)
   (bL (ak (cn (bw (cm (Tn:="str") (by decide) rfl T.b_isinstance rfl T.b_str (by kernel_rfl) (ae 1))) (ak (aL (i:=3) nd rfl (Q9 rfl) (qd G0 hr (aa (ae 0) (aa (aO aM (aB bM rfl T.b_len (by kernel_rfl) (aa (ae 1) ag)) aj) ag))))
   (ak (aL (i:=4) nd rfl (Q9 rfl) (bp bo (ae 2) (qd G0 hr (aa (ae 0) (aa (aB bM rfl T.b_len (by kernel_rfl) (aa (ae 2) ag)) ag))) (fun _ _=>rfl)))
   (ak (aL (i:=5) nd rfl (Q9 rfl) (bI (aa (aO aM (aO aM (aU (ae 1) bq (br (ae 3))) (ae 4)) (aU (ae 1) (br (ae 3)) bq)) (aa (aO aM (aO aM (aU (ae 1) bq (br (ae 3))) (ae 4)) (aU (ae 1) (br (aO aM (ae 3) aj)) bq)) (aa (aO aM (aU (ae 1) bq (br (ae 3))) (aU (ae 1) (br (aO aM (ae 3) aj)) bq)) ag)))))
   (au (aL (i:=5) nd rfl (Q9 rfl) (aO aM (ae 5) (bI (aa bV (aa (aD (aa (ae 1) ag)) (aa (bI (aa (ae 1) ag)) (aa eh (aa (aO sL bV (aO aM aj (aO kT (ae 3) aj))) ag)))))))))))) (au (cn (bw (cm (Tn:="int") (by decide) rfl T.b_isinstance rfl T.b_int (by kernel_rfl) (ae 1))) (ak (aL (i:=5) nd rfl (Q9 rfl) (bI (aa (aO aM (ae 1) aj) (aa (aO wa (ae 1) aj) (aa (aO wa aj (ae 1)) (aa aj (aa aj (aa (qP rJ aj) (aa (qP rJ aj) (aa dR (aa dR (aa eh (aa (bG Cg rfl T.b_str (by kernel_rfl) (aa (ae 1) ag)) ag)))))))))))))
   (au (aL (i:=5) nd rfl (Q9 rfl) (aO aM (ae 5) (bI (aa (aD (aa (ae 1) ag)) (aa (bI (aa (ae 1) ag)) (aa lT ag)))))))) (ak (aL (i:=5) nd rfl (Q9 rfl) (bI (aa (bG jn rfl T.b_list (by kernel_rfl) (aa (ae 1) ag)) (aa (aO aM (ae 1) (aU (ae 1) (br (qP rJ aj)) bq)) (aa (aU (ae 1) bq (br (qP rJ aj))) (aa (yX (ae 1) (qP rJ aj)) (aa (aD ag) (aa eh (aa (aD (aa (ae 1) ag)) (aa lT (aa (aO aM (ae 1) (aD (aa (ae 1) ag))) ag)))))))))))
   (au (aL (i:=5) nd rfl (Q9 rfl) (aO aM (ae 5) (bI (aa (aU (ae 1) (br aj) bq) (aa (aO sL (ae 1) aj) (aa (aO sL (ae 1) aj) (aa (aO aM (aU (ae 1) (br aj) bq) (aU (ae 1) bq (br aj))) ag))))))))))))
   (bL (au (aI (bp bo (ae 5) (qd G0 hr (aa (ae 0) (aa (aB bM rfl T.b_len (by kernel_rfl) (aa (ae 5) ag)) ag))) (fun _ _=>rfl)))))))),fun ds M R _ hS bk=>?_⟩)
 obtain⟨p,l,n,d,rfl,hM,hP,hd,k⟩:=hS;refine bk ?_;clear bk;walk_at "rd";refine aP (Dy (fun Δ' M2=>∃(L:List D) (x3 x4:Option D) (l2:List D),Δ'=[some (.ref p),some d,some (.str (F5 "abcdefghijklmnopqrstuvwxyzAZ09 .-_")),x3,x4,some (.lst L)]/\M2=av M p (.lst l2)/\bc l2/\0<L.length/\L.length<=100/\∀d∈L,ai d=true) (fun nx knx=>?_) ?_)
 ·walk_at "rd";rw[bj hd.good];cases hd with
  |int n i h0 h1 =>
   refine⟨false,rfl,?_⟩;rw[if_neg (by simp)];refine⟨true,rfl,?_⟩;rw[if_pos rfl];obtain⟨g1,g2⟩:=Ep h0 h1;refine⟨_,rfl,_,rfl,_,rfl,_,if_pos g2,sz3 11,sz3 1,sz3 1,sz3 3,_,if_pos (sz3 14),knx _ _ ⟨_,_,_,l,rfl,(iP hM).symm,hP,by simp,by simp,fun d hd=>?_⟩⟩;simp only[J3,L9,or_false]at hd;rcases hd with rfl|rfl|rfl|rfl|rfl|rfl|rfl|rfl|rfl|rfl|rfl|rfl|rfl|rfl
   all_goals first|exact g1|rfl
  |str n x h =>
   refine⟨true,rfl,?_⟩;rw[if_pos rfl];have hgx:ai (.str x)=true:=decide_eq_true (by lia);have hzx:x.length<=I0:=O4 (by lia:x.length<=1000) (sz3 1000);refine⟨_,if_pos hzx,_,rfl,p,l,_,rfl,hM,hP,by lia,by lia,fun at_ l1 a0 a1 hP1=>?_⟩;refine⟨_,if_pos (by rw[show(F5 "abcdefghijklmnopqrstuvwxyzAZ09 .-_")=L34 from rfl,lG];exact sz3 34),p,l1,_,rfl,aq,hP1,by rw[show(F5 "abcdefghijklmnopqrstuvwxyzAZ09 .-_")=L34 from rfl,lG];decide,by rw[show(F5 "abcdefghijklmnopqrstuvwxyzAZ09 .-_")=L34 from rfl,lG];decide,fun v l2 v0 v1 hP2=>?_⟩;rw[show(F5 "abcdefghijklmnopqrstuvwxyzAZ09 .-_")=L34 from rfl,lG]at v1;rw[aR];obtain⟨c,hc,hcl⟩:=B0 v0 v1;obtain⟨y,hy,hyl⟩:=AF (v:=at_);have s1:=ai8 x none (some at_);have s2:=ai8 x (some at_) none;have s3:=ai8 x (some (at_+1)) none;have z:∀n:Nat,n<=1000->n<=I0:=fun n h=>O4 h (sz3 1000);have gs:∀x:Str,x.length<=100->ai (.str x)=true:=fun x h=>decide_eq_true (by lia);have z:∀n:Nat,n<=1000->n<=I0:=fun n h=>O4 h (sz3 1000);have gs:∀x:Str,x.length<=100->ai (.str x)=true:=fun x h=>decide_eq_true (by lia);have z1:(ab4 x none (some at_)++c).length<=9:=by rw[gZ];lia
   have z2:(ab4 x none (some at_)++c++ab4 x (some at_) none).length<=17:=by rw[gZ];lia
   have z3:(ab4 x none (some at_)++c++ab4 x (some (at_+1)) none).length<=17:=by rw[gZ];lia
   have z4:(ab4 x none (some at_)++ab4 x (some (at_+1)) none).length<=16:=by rw[gZ];lia
   refine⟨_,hc,_,rfl,_,if_pos hzx,_,if_pos (z _ (by lia)),_,rfl,_,if_pos hzx,_,if_pos (z _ (by lia)),_,rfl,_,if_pos hzx,_,if_pos (z _ (by lia)),_,rfl,_,rfl,_,if_pos hzx,_,if_pos (z _ (by lia)),_,rfl,_,if_pos hzx,?_⟩;refine⟨_,rfl,_,rfl,_,if_pos hzx,_,if_pos (z _ (by lia)),sz3 3,sz3 1,sz3 1,_,rfl,_,rfl,_,hy,sz3 5,_,if_pos (sz3 8),knx _ _ ⟨_,_,_,l2,rfl,rfl,hP2,by simp,by simp,fun d hd=>?_⟩⟩;simp only[J3,L9,or_false]at hd;rcases hd with rfl|rfl|rfl|rfl|rfl|rfl|rfl|rfl
   ·exact gs _ (by lia)
   ·exact gs _ (by lia)
   ·exact gs _ (by lia)
   ·rfl
   ·exact aZ fun d hd=>by rw[J5.mp hd];exact hgx
   ·exact aZ fun d hd=>by rw[J5.mp hd];exact hgx
   ·rfl
   ·exact gs _ (by lia)
  |tup n es hl hes =>
   refine⟨false,rfl,?_⟩;rw[if_neg (by simp)];refine⟨false,rfl,?_⟩;rw[if_neg (by simp)];have hg:∀d∈es,ai d=true:=fun d hd=>(hes d hd).good;have hgt:=aZ hg;have z:∀n:Nat,n<=1000->n<=I0:=fun n h=>O4 h (sz3 1000);have c1:=eV (ds:=es) (lo:=some (-1)) (hi:=none);have c2:=eV (ds:=es) (lo:=some 1) (hi:=none);have c3:=eV (ds:=es) (lo:=none) (hi:=some 1);refine⟨_,rfl,_,kQ,_,if_pos (z _ (by lia)),_,kQ,es,rfl,sz3 0,sz3 1,sz3 1,_,if_pos (z _ (by simp;lia)),sz3 9,_,kQ,_,wc ⟨by lia,by lia,z _ (by simp;lia)⟩,_,wc ⟨by lia,by lia,z _ (by simp;lia)⟩,_,kQ,_,kQ,_,if_pos (z _ (by lia)),sz3 4,_,if_pos (sz3 13),knx _ _ ⟨_,_,_,l,rfl,(iP hM).symm,hP,by simp,by simp,fun d hd=>?_⟩⟩;simp only[J3,L9,or_false]at hd;rcases hd with rfl|rfl|rfl|rfl|rfl|rfl|rfl|rfl|rfl|rfl|rfl|rfl|rfl
   ·exact hgt
   ·exact aZ fun d hd=>(K0.mp hd).elim (hg d) fun h=>hg d (dh h)
   ·exact aZ fun d hd=>hg d (dh hd)
   ·exact aZ fun d hd=>hg d (by simpa using hd)
   ·rfl
   ·rfl
   ·exact aZ fun d hd=>by rw[J5.mp hd];exact hgt
   ·rfl
   ·exact aZ fun d hd=>(K0.mp hd).elim (hg d) fun h=>by rw[J5.mp h];exact hgt
   ·exact aZ fun d hd=>hg d (dh hd)
   ·exact aZ fun d hd=>hg d (qo hd)
   ·exact aZ fun d hd=>hg d (qo hd)
   ·exact aZ fun d hd=>(K0.mp hd).elim (fun h=>hg d (dh h)) fun h=>hg d (dh h)
 rintro Δ' M2 ⟨L,x3,x4,l2,rfl,rfl,hP2,h0,h1,hg⟩;refine aP ?_;walk_at "rd";refine⟨p,l2,_,rfl,aq,hP2,by lia,by lia,fun v l3 v0 v1 hP3=>?_⟩;obtain⟨d',hd',ev⟩:=xV v0 v1;refine⟨d',ev,?_⟩;rw[aR];exact k d' l3 (hg d' hd') hP3
def jJ:Nat->SpD
 |0=>xf
 |m+1=>fun ds M R=>∃(p:F9) (l:List D) (d:D),ds=[.ref p,d]/\M p=some (.lst l)/\bc l/\Tb m d/\m<=50/\∀d' l',ai d'=true->bc l'->R d' (av M p (.lst l'))
theorem cW(F:Fun K "_law_bent" "_law_bent" m7 f fd) (T:Txt mg) {m:Nat} (G5:FnD P w K mg base "_law_otherwise" 2 2 dE) (G0:FnD P w K mg base "_law_draw" 1 2 cK) (G2:FnD P w K mg base "_law_bent" (m+2) 2 (jJ m)):a7 P w K mg base CX0 (m+2+1) f fd ["_law_pool_here","_law_thing"] (spD K 2 (jJ (m+1))):=by
 have nd:=oN.nd;refine F.okR rfl oN (fun cdv A outer s H E hr=>⟨_,(ak (cn (mE (wB (bw (cm (Tn:="tuple") (by decide) rfl T.b_isinstance rfl T.b_tuple (by kernel_rfl) (ae 1))) (wB (cf (xQ hr.units) (ae 1) (aD ag) nbh) (zZ (cf vy (qc G0 (hr.mono (by lia)) rfl (aa (ae 0) (aa aj ag))) aj nbh))))) (ak (aL (i:=2) nd rfl (Q9 rfl) (qc G0 (hr.mono (by lia)) rfl (aa (ae 0) (aa (aB bM rfl T.b_len (by kernel_rfl) (aa (ae 1) ag)) ag))))
   (au (aI (aO aM (aO aM (aU (ae 1) bq (br (ae 2))) (aD (aa (qc G2 (hr.mono (by lia)) rfl (aa (ae 0) (aa (bp bo (ae 1) (ae 2) (fun _ _=>rfl)) ag))) ag))) (aU (ae 1) (br (aO aM (ae 2) aj)) bq))))) bN)
   (au (aI (qc G5 (hr.mono (by lia)) rfl (aa (ae 0) (aa (ae 1) ag)))))),fun ds M R _ hS bk=>?_⟩)
 obtain⟨p,l,d,rfl,hM,hP,hd,hm50,k⟩:=hS;refine bk ?_;clear bk;have oth:∀l,bc l->dE [D.ref p,d] (av M p (.lst l)) R:=fun l hP=>⟨p,l,_,d,rfl,aq,hP,hd,fun d' l' g1 g2=>by rw[aR];exact k d' l' g1 g2⟩;have oth0:dE [D.ref p,d] M R:=⟨p,l,_,d,rfl,hM,hP,hd,k⟩;walk_at "rd";rw[bj hd.good];cases hd with
 |int n i h0 h1=>exact⟨false,rfl,by rw[if_neg (by simp)];exact oth0⟩
 |str n x h=>exact⟨false,rfl,by rw[if_neg (by simp)];exact oth0⟩
 |tup n es hl hes =>
  have hle:dLe (.tup es) 60=true:=(Tb.tup n es hl hes).le 60 (by lia);refine⟨true,rfl,?_⟩;rw[if_pos rfl];refine⟨sz3 0,_,if_pos ⟨hle,rfl⟩,_,rfl,b6 (fun c1=>?_) (fun c1=>oth0)⟩;have hne:0<es.length:=by cases es<;>first|(simp[eqD,eI]at c1;done)|simp
  refine⟨p,l,5,rfl,hM,hP,by lia,by lia,fun v l1 v0 v1 hP1=>⟨_,rfl,_,rfl,b6 (fun c2=>?_) (fun c2=>oth _ hP1)⟩⟩;refine⟨_,rfl,p,l1,_,rfl,aq,hP1,by lia,by lia,fun at_ l2 a0 a1 hP2=>?_⟩;rw[aR];obtain⟨dv,hdv,eat⟩:=xV a0 a1;obtain⟨m',rfl⟩:∃m',n=m':=⟨n,rfl⟩;have z:∀n:Nat,n<=1000->n<=I0:=fun n h=>O4 h (sz3 1000);have q1:=eV (ds:=es) (lo:=none) (hi:=some at_);have q2:=eV (ds:=es) (lo:=some (at_+1)) (hi:=none);refine⟨_,rfl,_,kQ,dv,eat,p,l2,dv,rfl,aq,hP2,hes dv hdv,by lia,fun d' l3 g1 hP3=>⟨sz3 1,_,if_pos (z _ (by simp;lia)),_,rfl,_,rfl,_,kQ,_,if_pos (z _ (by simp;lia)),?_⟩⟩;rw[aR];refine k _ _ (aZ fun d hd=>?_) hP3;have hg:∀d∈es,ai d=true:=fun d hd=>(hes d hd).good;rcases K0.mp hd with h|h
  ·rcases K0.mp h with h|h
   ·exact hg d (dh h)
   ·rw[J5.mp h];exact g1
  ·exact hg d (dh h)
theorem uv{r:Row}(h:uN r):Tb 2 (aS r):=.tup 1 _ (by rw[F3];have:=h.1;lia) fun d hd=>by
 obtain⟨x,hx,rfl⟩:=O2.mp hd;refine .tup 0 _ (by simp) fun d hd=>?_;have:=h.2 x hx;simp only[J3,L9,or_false]at hd;rcases hd with rfl|rfl
 ·exact .str 0 _ (eX this.1)
 ·exact .int 0 _ this.2.1 this.2.2
theorem LxK.tb{ord:List (Str×Str)}{ax:Str}{aw:List (Str×List Row)}(h:LxK ord ax aw):Tb 7 (dY ord ax aw)/\Tb 7 (.tup (ord.map bK))/\∀e∈aw,∀r∈e.2,Tb 7 (aS r):=by
 have ho:Tb 2 (.tup (ord.map bK)):=.tup 1 _ (by rw[F3];have:=h.o.1;lia) fun d hd=>by
  obtain⟨x,hx,rfl⟩:=O2.mp hd;refine .tup 0 _ (by simp) fun d hd=>?_;have:=h.o.2 x hx;simp only[J3,L9,or_false]at hd;rcases hd with rfl|rfl
  ·exact .str 0 _ (eX this.1)
  ·exact .str 0 _ (eX this.2)
 have he:=h.e;refine⟨.tup 6 _ (by simp) fun d hd=>?_,ho.up.up.up.up.up,fun e hem r hr=>(uv ((he.2.2.2 e hem).2.2.2.2 r hr)).up.up.up.up.up⟩;simp only[J3,L9,or_false]at hd;rcases hd with rfl|rfl|rfl
 ·exact ho.up.up.up.up
 ·exact .str _ _ (eX h.g)
 ·refine .tup 5 _ (by rw[F3];exact he.2.1) fun d hd=>?_;obtain⟨e,hem,rfl⟩:=O2.mp hd;have hk:=he.2.2.2 e hem;refine .tup 4 _ (by simp) fun d hd=>?_;simp only[J3,L9,or_false]at hd;rcases hd with rfl|rfl
  ·exact .str _ _ (eX hk.1)
  ·refine .tup 3 _ (by rw[F3];have:=hk.2.2.1;lia) fun d hd=>?_;obtain⟨r,hr,rfl⟩:=O2.mp hd;exact(uv (hk.2.2.2.2 r hr)).up
def ig:SpD:=fun ds M R=>∃(p:F9) (l:List D) (ord:List (Str×Str)) (ax:Str) (aw:List (Str×List Row)),ds=[.ref p,dY ord ax aw]/\M p=some (.lst l)/\bc l/\LxK ord ax aw/\∀l',bc l'->R (.bl true) (av M p (.lst l'))
theorem ly(F:Fun K "_law_bent_right" "_law_bent_right" fb f fd) (T:Txt mg) (G2:FnD P w K mg base "_law_bent" 10 2 (jJ 8)) (G1:FnD P w K mg base "_law_is" 1 2 tH) (G9:FnD P w K mg base "is_lexicon" 9 1 fe) (gb6:FnD P w K mg base "_law_formed" 5 1 lU) (Y1:FnD P w K mg base "is_order" 4 1 eG) (Y2:FnD P w K mg base "_law_is_order" 2 1 gE) (Y6:FnD P w K mg base "is_row" 4 1 jA) (Y4:FnD P w K mg base "_law_is_row" 3 1 jx):a7 P w K mg base CX0 11 f fd ["_law_pool_here","_law_lexicon_here"] (spD K 2 ig):=by
 have nd:=gU.nd;refine F.okR rfl gU (fun cdv A outer s H E hr=>⟨_,(ak (aL (i:=2) nd rfl (Q9 rfl) (qd G2 hr (aa (ae 0) (aa (ae 1) ag))))
   (ak (aL (i:=3) nd rfl (Q9 rfl) (qd G2 hr (aa (ae 0) (aa (bp bo (ae 1) aj (fun _ _=>rfl)) ag))))
   (ak (aL (i:=4) nd rfl (Q9 rfl) (qd G2 hr (aa (ae 0) (aa (bp bo (bp bo (bp bo (bp bo (ae 1) aj (fun _ _=>rfl)) aj (fun _ _=>rfl)) aj (fun _ _=>rfl)) aj (fun _ _=>rfl)) ag))))
   (ak (cn (bC (bw (qd G1 hr (aa (qd G9 hr (aa (ae 2) ag)) (aa (qd gb6 hr (aa (ae 2) ag)) ag))))) (au (aI dR)) bN)
   (au (aI (bt (qd G1 hr (aa (qd Y1 hr (aa (ae 3) ag)) (aa (qd Y2 hr (aa (ae 3) ag)) ag))) (cv (qd G1 hr (aa (qd Y6 hr (aa (ae 4) ag)) (aa (qd Y4 hr (aa (ae 4) ag)) ag))))))))))),fun ds M R _ hS bk=>?_⟩)
 obtain⟨p,l,ord,ax,aw,rfl,hM,hP,hL,k⟩:=hS;obtain⟨tl,to,tr⟩:=hL.tb;refine bk ?_;clear bk;walk_at "rd";refine⟨p,l,_,rfl,hM,hP,tl,by decide,fun d1 l1 g1 hP1=>⟨_,rfl,p,l1,_,rfl,aq,hP1,to,by decide,fun d2 l2 g2 hP2=>?_⟩⟩;rw[aR];obtain⟨e0,es',rfl⟩:∃e0 es',aw=e0::es':=by
  cases aw with
  |nil=>have:=hL.e.1;simp at this
  |cons e0 es'=>exact⟨e0,es',rfl⟩
 have hk0:=(hL.e.2.2.2 e0 (.head _)).2;obtain⟨w0,ks0⟩:=e0;obtain⟨r0,ks',rfl⟩:∃r0 ks',ks0=r0::ks':=by
  cases ks0 with
  |nil=>have:=hk0.1;simp at this
  |cons e0 es'=>exact⟨e0,es',rfl⟩
 refine⟨_,rfl,?_⟩;refine⟨cA (w0,r0::ks'),by rw[pR,yK,N8,uQ],?_⟩;refine⟨cb (r0::ks'),rfl,?_⟩;refine⟨aS r0,by rw[cb,pR,yK,N8,uQ],?_⟩;refine⟨p,l2,aS r0,rfl,aq,hP2,tr (w0,r0::ks') (.head _) r0 (.head _),by decide,fun d3 l3 g3 hP3=>?_⟩;rw[aR];refine aG.mpr ⟨g1,?_⟩;refine aG.mpr ⟨g1,?_⟩;refine⟨_,_,rfl,_,rfl,?_⟩;rw[if_neg (by simp)];refine g9.mpr ⟨g2,?_⟩;refine aG.mpr ⟨g2,?_⟩;refine⟨_,_,rfl,_,rfl,?_⟩;rw[if_pos (by simp)];refine aG.mpr ⟨g3,?_⟩;refine aG.mpr ⟨g3,?_⟩;refine⟨_,_,rfl,?_⟩;rw[beq_self_eq_true];exact k _ hP3
theorem yQ{ds:List D}{n:Int}(h2:2<=n) (h3:n<2 ^ 62) (hne:ds≠[]) (h4:ds.length*n.toNat<=I0):nG (.tup ds) (.int n)=some (.tup (J7 n.toNat ds).flatten):=if_pos ⟨h2,h3,hne,h4⟩
theorem cM{a b:D}(h1:ai a=true) (h2:ai b=true):ai (.tup [a,b])=true:=by
 simp only[ai,bg,h1,h2,an4]
theorem wC{es:List D}(h:1<=es.length):fN (.tup (es++es.take 1))=false:=by
 cases es with
 |nil=>simp at h
 |cons e l =>
  have:gY (((e::l)++(e::l).take 1).map vo)=false:=by
   rw[X9];intro z;have:=c9.mp z;simp at this
  simp only[fN,this,P7]
theorem AQ{ks:List D}(h:1<=ks.length):gX (.tup (ks++ks.take 1))=false:=by
 cases ks with
 |nil=>simp at h
 |cons e l =>
  have:gY ((e::l)++(e::l).take 1)=false:=by
   rw[X9];intro z;have:=c9.mp z;simp at this
  simp only[gX,this,P7]
theorem xq{ks:List D}{d:D}(h:d∈ks) (hd:cT d=false):gX (.tup ks)=false:=by
 have:ks.all cT=false:=by
  rw[X9];intro z;rw[N5.mp z d h]at hd;cases hd
 simp only[gX,this,P7,H0]
theorem yZ{o g e:D}(h:gI o=false):iL (.tup [o,g,e])=false:=by simp only[iL,h,H0]
theorem DR{o g e:D}(h:aJ g=false):iL (.tup [o,g,e])=false:=by simp only[iL,h,P7,H0]
theorem yq{o g e:D}(h:fN e=false):iL (.tup [o,g,e])=false:=by simp only[iL,h,P7]
theorem bR{a b c:D}(h1:ai a=true) (h2:ai b=true) (h3:ai c=true):ai (.tup [a,b,c])=true:=by simp only[ai,bg,h1,h2,h3,an4]
def Aj(d:D):D:=match d with|.str y=>.tup [.str (F5 "w"++y),.tup [.tup []]]|_=>.non
def nB(d:D):Prop:=ai d=true/\iL d=false
def tQ(d:D):Prop:=ai d=true/\dn d=false
def fX:SpD:=fun ds M R=>∃(ord:List (Str×Str)) (ax:Str) (aw:List (Str×List Row)),ds=[dY ord ax aw]/\LxK ord ax aw/\∀L:List D,L.length<=200->(∀d∈L,nB d)->∀p,M p=none->R (.ref p) (av M p (.lst L))
theorem jG(F:Fun K "_law_outer_things" "_law_outer_things" bv f fd) (T:Txt mg) :a7 P w K mg base CX0 1 f fd ["_law_lexicon_here"] (spD K 1 fX):=by
 have nd:=fB.nd;refine F.okR rfl fB (fun cdv A outer s H E hr=>⟨_,(ak (uT (ae 0) (qA rfl (du (bD (i:=1) nd rfl (ao0 rfl)) (du (bD (i:=2) nd rfl (ao0 rfl)) (du (bD (i:=3) nd rfl (ao0 rfl)) qz)))))
   (bL (ak (xF (i:=4) nd rfl rfl rfl (ms:=[false,false,true,true,false,false]) (ao:=["_law_one"]) (aA rfl (show aF (ah bv) aV _ _=true from by decide +kernel)) rfl (aN (bI (aa (bG jn rfl T.b_list (by kernel_rfl) (aa (ae 1) ag)) (aa eh (aa (ae 2) (aa (aD (aa (aD (aa (ae 2) ag)) ag)) (aa (aD (aa (ae 2) (aa (ae 2) ag))) (aa aj ag)))))))) (aC (i:=6) (show(aV++_).Nodup from by decide +kernel) rfl rfl) (fun _ _ _ _=>aT) (fun _ _ _ _=>(aD (aa (ae 6) (aa (ae 2) (aa (ae 3) ag))))))
   (bL (ak (gn (jY (ae 4) (aD (aa (aO gm (aD (aa (aD (aa (ae 2) (aa (ae 2) ag))) ag)) aj) (aa (ae 2) (aa (ae 3) ag))))))
   (bL (ak (aL (i:=4) nd rfl (Q9 rfl) (mh (ae 4) (cX (ms:=[false,true,false,true,false,false]) (ao:=["_law_one"]) (aA rfl (show aF (ah bv) aV _ _=true from by decide +kernel)) rfl (aN (bI (aa bV (aa bV (aa bV (aa eh (aa aj (aa (aD (aa (ae 2) ag)) (aa dR (aa bV (aa (bI (aa (ae 2) ag)) (aa lT ag)))))))))))) (aC (i:=6) (show(aV++_).Nodup from by decide +kernel) rfl rfl) (fun _ _ _ _=>aT) (fun _ _ _ _=>(aD (aa (ae 1) (aa (ae 6) (aa (ae 3) ag))))))))
   (bL (ak (aL (i:=4) nd rfl (Q9 rfl) (mh (ae 4) (cX (ms:=[false,true,true,false,false,false]) (ao:=["_law_one"]) (aA rfl (show aF (ah bv) aV _ _=true from by decide +kernel)) rfl (aN (bI (aa (aD ag) (aa (bG jn rfl T.b_list (by kernel_rfl) (aa (ae 3) ag)) (aa eh (aa (ae 2) (aa lT (aa (aD (aa (aD ag) ag)) (aa (aD (aa eh ag)) (aa (aD (aa (ae 2) ag)) ag)))))))))) (aC (i:=6) (show(aV++_).Nodup from by decide +kernel) rfl rfl) (fun _ _ _ _=>aT) (fun _ _ _ _=>(aD (aa (ae 1) (aa (ae 2) (aa (ae 6) ag))))))))
   (bL (ak (aL (i:=5) nd rfl (Q9 rfl) (bG gO rfl T.b_tuple (by kernel_rfl) (aa (cX (ms:=[false,false,false,false,false,false]) (ao:=["_law_sign"]) (aA rfl (show aF (ah bv) aV _ _=true from by decide +kernel)) rfl (aN bV) (aC (i:=6) (show(aV++_).Nodup from by decide +kernel) rfl rfl) (fun _ _ _ _=>aT) (fun _ _ _ _=>(aD (aa (aO aM bV (ae 6)) (aa (aD (aa (aD ag) ag)) ag))))) ag)))
   (bL (ak (aL (i:=4) nd rfl (Q9 rfl) (mh (ae 4) (bI (aa (aD (aa (ae 1) (aa (ae 2) (aa (ae 5) ag)))) (aa (aD (aa (ae 1) (aa (ae 2) (aa (aO aM (ae 3) (aU (ae 3) bq (br aj))) ag)))) (aa (aD (aa (ae 1) (aa (ae 2) ag))) (aa (aO aM (ae 0) (aD (aa aj ag))) ag)))))))
   (bL (au (jr (mh (ae 4) (bI (aa (bG jn rfl T.b_list (by kernel_rfl) (aa (ae 0) ag)) (aa eh (aa dR (aa (ae 2) (aa (aD ag) (aa lT (aa (bI (aa (ae 0) ag)) (aa (aD (aa (ae 2) (aa (ae 1) (aa (ae 3) ag)))) ag)))))))))))))))))))))))))),fun ds M R _ hS bk=>?_⟩)
 obtain⟨ord,ax,aw,rfl,hL,k⟩:=hS;obtain⟨tl,to,_⟩:=hL.tb;refine bk ?_;clear bk;have hO:ai (.tup (ord.map bK))=true:=to.good;have hG:ai (.str ax)=true:=iU hL.g;have hE:ai (.tup (aw.map cA))=true:=by have:=tl.good;simp only[dY,ai,bg,K1]at this;exact this.2.2.1
 have he1:1<=(aw.map cA).length:=by rw[F3];exact hL.e.1
 have he2:(aw.map cA).length<=10:=by rw[F3];exact hL.e.2.1
 simp only[dY];generalize ord.map bK=os at *
 generalize aw.map cA=es at *
 have lx:∀d,ai d=true->iL d=false->nB d:=fun d a b=>⟨a,b⟩;walk_at "rd";simp only[lR,jB,cR,rj,Option.bind_some];refine⟨_,if_pos rfl,aP ?_⟩;walk_at "rd";refine⟨_,rfl,sz3 1,sz3 1,sz3 2,sz3 6,fun _=>⟨sz3 6,?_⟩⟩;refine bf (fun _=>true) (fun d=>.tup [d,.str ax,.tup es]) (fun Δ=>∃u,Δ=[none,none,some (.str ax),some (.tup es),none,none,u]) _ _ _ (fun d hd Δ hΔ=>?_) ⟨none,rfl⟩ ?_
 ·obtain⟨u,rfl⟩:=hΔ;refine⟨_,rfl,⟨_,rfl⟩,fun Q1 q=>q,fun _ Q2 q=>?_⟩;walk_at "rd";exact⟨sz3 3,q⟩
 rw[M9,N4.mpr (fun _ _=>rfl)];have a1:∀d∈[D.lst os,D.non,D.str ax,D.tup [D.tup [D.str ax]],D.tup [D.str ax,D.str ax],D.int 7].map fun d=>D.tup [d,.str ax,.tup es],nB d:=by
  intro d hd;obtain⟨x,hx,rfl⟩:=O2.mp hd;simp only[J3,L9,or_false]at hx;rcases hx with rfl|rfl|rfl|rfl|rfl|rfl
  all_goals refine lx _ (bR ?_ hG hE) (yZ ?_)
  all_goals first|rfl|(simp[ai,bg]at *;assumption)|(simp[gI,fC];done)|(simpa[ai,bg]using hG)|(simpa[ai,bg]using hO)
 have hl1:([D.lst os,D.non,D.str ax,D.tup [D.tup [D.str ax]],D.tup [D.str ax,D.str ax],D.int 7].map fun d=>D.tup [d,.str ax,.tup es]).length<=6:=by simp
 generalize [D.lst os,D.non,D.str ax,D.tup [D.tup [D.str ax]],D.tup [D.str ax,D.str ax],D.int 7].map (fun d=>D.tup [d,.str ax,.tup es])=L1 at a1 hl1;have z:∀n:Nat,n<=1000->n<=I0:=fun n h=>O4 h (sz3 1000);have zl:∀n:Nat,n<1000->n<I0:=fun n h=>J9 h (sz3 1000);refine fun p hp=>aP ?_;walk_at "rd";refine⟨sz3 2,sz3 1,_,yQ (by lia) (by lia) (by simp) (sz3 9),sz3 3,zl _ (by lia),aP ?_⟩;have a2:∀d∈L1++[D.tup [D.tup (J7 (9:Int).toNat [D.tup [D.str ax,D.str ax]]).flatten,D.str ax,D.tup es]],nB d:=rD a1 (lx _ (bR (aZ fun d hd=>by rw[J5.mp (qo hd)];exact cM hG hG) hG hE) (yZ rfl));have hl2:(L1++[D.tup [D.tup (J7 (9:Int).toNat [D.tup [D.str ax,D.str ax]]).flatten,D.str ax,D.tup es]]).length<=7:=by rw[J1,Z7];lia
 generalize L1++[D.tup [D.tup (J7 (9:Int).toNat [D.tup [D.str ax,D.str ax]]).flatten,D.str ax,D.tup es]]=L2' at a2 hl2;have le1:LeM M (av M p (.lst L2')):=fA hp;have hM1:av M p (.lst L2') p=some (.lst L2'):=aq;generalize av M p (.lst L2')=M1 at le1 hM1;walk_at "rd";refine⟨sz3 1,sz3 1,sz3 10,fun _=>⟨sz3 10,?_⟩⟩;refine bf (fun _=>true) (fun d=>.tup [.tup os,d,.tup es]) (fun Δ=>∃u,Δ=[none,some (.tup os),none,some (.tup es),none,none,u]) _ _ _ (fun d hd Δ hΔ=>?_) ⟨none,rfl⟩ ?_
 ·obtain⟨u,rfl⟩:=hΔ;refine⟨_,rfl,⟨_,rfl⟩,fun Q1 q=>q,fun _ Q2 q=>?_⟩;walk_at "rd";exact⟨sz3 3,q⟩
 rw[M9,N4.mpr (fun _ _=>rfl)];have c3:∀d∈[D.str (F5 ""),D.str (F5 "A"),D.str (F5 "abcdefghi"),D.non,D.int 7,D.tup [D.str ax],D.bl true,D.str (F5 "a b"),D.lst [D.str ax],D.emp].map fun d=>D.tup [.tup os,d,.tup es],nB d:=by
  intro d hd;obtain⟨x,hx,rfl⟩:=O2.mp hd;simp only[J3,L9,or_false]at hx;rcases hx with rfl|rfl|rfl|rfl|rfl|rfl|rfl|rfl|rfl|rfl
  all_goals refine lx _ (bR hO ?_ hE) (DR ?_)
  all_goals first|rfl|(decide +kernel)|(simpa[ai,bg]using hG)
 have a3:∀d∈L2'++[D.str (F5 ""),D.str (F5 "A"),D.str (F5 "abcdefghi"),D.non,D.int 7,D.tup [D.str ax],D.bl true,D.str (F5 "a b"),D.lst [D.str ax],D.emp].map fun d=>D.tup [.tup os,d,.tup es],nB d:=fun d hd=>(K0.mp hd).elim (a2 d) (c3 d);have hl3:(L2'++[D.str (F5 ""),D.str (F5 "A"),D.str (F5 "abcdefghi"),D.non,D.int 7,D.tup [D.str ax],D.bl true,D.str (F5 "a b"),D.lst [D.str ax],D.emp].map fun d=>D.tup [.tup os,d,.tup es]).length<=17:=by rw[J1,F3];show _+10<=17;lia
 refine⟨L2',dF hM1,z _ (by rw[J1]at hl3;lia),fun p3 hp3=>aP ?_⟩;clear c3;generalize L2'++[D.str (F5 ""),D.str (F5 "A"),D.str (F5 "abcdefghi"),D.non,D.int 7,D.tup [D.str ax],D.bl true,D.str (F5 "a b"),D.lst [D.str ax],D.emp].map (fun d=>D.tup [.tup os,d,.tup es])=L3 at a3 hl3 ⊢;have le3:LeM M (av M1 p3 (.lst L3)):=fun b o e=>fA hp3 b o (le1 b o e);have hM3:av M1 p3 (.lst L3) p3=some (.lst L3):=aq;generalize av M1 p3 (.lst L3)=M3 at le3 hM3 ⊢;walk_at "rd";refine⟨sz3 0,_,rfl,sz3 0,sz3 1,sz3 1,sz3 1,sz3 8,fun _=>⟨sz3 8,?_⟩⟩;refine bf (fun _=>true) (fun d=>.tup [.tup os,.str ax,d]) (fun Δ=>∃u,Δ=[none,some (.tup os),some (.str ax),none,none,none,u]) _ _ _ (fun d hd Δ hΔ=>?_) ⟨none,rfl⟩ ?_
 ·obtain⟨u,rfl⟩:=hΔ;refine⟨_,rfl,⟨_,rfl⟩,fun Q1 q=>q,fun _ Q2 q=>?_⟩;walk_at "rd";exact⟨sz3 3,q⟩
 rw[M9,N4.mpr (fun _ _=>rfl)];have c4:∀d∈[D.tup [],D.lst es,D.non,D.str ax,D.emp,D.tup [D.tup []],D.tup [D.non],D.tup [D.str ax]].map fun d=>D.tup [.tup os,.str ax,d],nB d:=by
  intro d hd;obtain⟨x,hx,rfl⟩:=O2.mp hd;simp only[J3,L9,or_false]at hx;rcases hx with rfl|rfl|rfl|rfl|rfl|rfl|rfl|rfl
  all_goals refine lx _ (bR hO hG ?_) (yq ?_)
  all_goals first|rfl|(simp[fN,dn];done)|(simpa[ai,bg]using hG)|(simpa[ai,bg]using hE)
 have a4:∀d∈L3++[D.tup [],D.lst es,D.non,D.str ax,D.emp,D.tup [D.tup []],D.tup [D.non],D.tup [D.str ax]].map fun d=>D.tup [.tup os,.str ax,d],nB d:=fun d hd=>(K0.mp hd).elim (a3 d) (c4 d);have hl4:(L3++[D.tup [],D.lst es,D.non,D.str ax,D.emp,D.tup [D.tup []],D.tup [D.non],D.tup [D.str ax]].map fun d=>D.tup [.tup os,.str ax,d]).length<=25:=by rw[J1,F3];show _+8<=25;lia
 refine⟨L3,dF hM3,z _ (by rw[J1]at hl4;lia),fun p4 hp4=>aP ?_⟩;clear c4;generalize L3++[D.tup [],D.lst es,D.non,D.str ax,D.emp,D.tup [D.tup []],D.tup [D.non],D.tup [D.str ax]].map (fun d=>D.tup [.tup os,.str ax,d])=L4 at a4 hl4 ⊢;have le4:LeM M (av M3 p4 (.lst L4)):=fun b o e=>fA hp4 b o (le3 b o e);have hM4:av M3 p4 (.lst L4) p4=some (.lst L4):=aq;generalize av M3 p4 (.lst L4)=M4 at le4 hM4 ⊢;walk_at "rd";have hw1:(F5 "w").length=1:=by decide +kernel
 have h11:(L2.bJ (F5 "abcdefghijk")).length=11:=by decide +kernel
 have hs11:(F5 "abcdefghijk").length<=I0:=by rw[show(F5 "abcdefghijk").length=11 by decide +kernel];exact sz3 11
 refine⟨_,if_pos hs11,fun _=>⟨by rw[h11];exact sz3 11,?_⟩⟩;refine bf (fun _=>true) Aj (fun Δ=>∃u,Δ=[none,none,none,none,none,none,u]) _ _ _ (fun d hd Δ hΔ=>?_) ⟨none,rfl⟩ ?_
 ·obtain⟨u,rfl⟩:=hΔ;obtain⟨c,_,rfl⟩:=O2.mp (show d∈(F5 "abcdefghijk").cps.toList.map fun c=>D.str (tx [c])from hd);refine⟨_,rfl,⟨_,rfl⟩,fun Q1 q=>q,fun _ Q2 q=>?_⟩;walk_at "rd";exact⟨_,if_pos (by rw[fh,hw1];exact z _ (by simp)),sz3 0,sz3 1,sz3 2,q⟩
 rw[M9,N4.mpr (fun _ _=>rfl)];have hA:ai (.tup ((L2.bJ (F5 "abcdefghijk")).map Aj))=true:=aZ fun d hd=>by
  obtain⟨x,hx,rfl⟩:=O2.mp hd;obtain⟨c,_,rfl⟩:=O2.mp (show x∈(F5 "abcdefghijk").cps.toList.map fun c=>D.str (tx [c])from hx);refine cM (a:=.str (F5 "w"++tx [c])) (b:=.tup [.tup []]) (by simp only[ai,decide_eq_true_eq];rw[gZ,fh,hw1];simp) rfl
 have hA2:fN (.tup ((L2.bJ (F5 "abcdefghijk")).map Aj))=false:=by
  simp only[fN,F3,h11,show decide (11<=10)=false from rfl,P7,H0]
 generalize (L2.bJ (F5 "abcdefghijk")).map Aj=am at hA hA2 ⊢;refine aP ?_;walk_at "rd";rw[show L2.eJ es none (some 1)=es.take 1 from ki (n:=1)];refine⟨sz3 3,_,if_pos (z _ (by rw[P4];lia)),sz3 3,sz3 2,sz3 1,_,if_pos (sz3 4),sz3 4,L4,dF hM4,z _ (by lia),fun p5 hp5=>aP ?_⟩;have hge:∀d∈es,ai d=true:=aQ.mp hE;have a5:∀d∈L4++[D.tup [D.tup os,D.str ax,D.tup am],D.tup [D.tup os,D.str ax,D.tup (es++es.take 1)],D.tup [D.tup os,D.str ax],D.tup [D.tup os,D.str ax,D.tup es,D.int 1]],nB d:=by
  intro d hd;rcases K0.mp hd with h|h
  ·exact a4 d h
  simp only[J3,L9,or_false]at h;rcases h with rfl|rfl|rfl|rfl
  ·exact lx _ (bR hO hG hA) (yq hA2)
  ·exact lx _ (bR hO hG (aZ fun d hd=>(K0.mp hd).elim (hge d) fun h=>hge d (ad0 h))) (yq (wC he1))
  ·exact lx _ (cM hO hG) rfl
  ·exact lx _ (by have h1:=hO;have h2:=hE;simp only[ai,bg]at h1 h2 hG ⊢;simp[h1,h2,hG]) rfl
 have hl5:(L4++[D.tup [D.tup os,D.str ax,D.tup am],D.tup [D.tup os,D.str ax,D.tup (es++es.take 1)],D.tup [D.tup os,D.str ax],D.tup [D.tup os,D.str ax,D.tup es,D.int 1]]).length<=29:=by rw[J1];show _+4<=29;lia
 generalize L4++[D.tup [D.tup os,D.str ax,D.tup am],D.tup [D.tup os,D.str ax,D.tup (es++es.take 1)],D.tup [D.tup os,D.str ax],D.tup [D.tup os,D.str ax,D.tup es,D.int 1]]=L5 at a5 hl5 ⊢;have le5:LeM M (av M4 p5 (.lst L5)):=fun b o e=>fA hp5 b o (le4 b o e);have hM5:av M4 p5 (.lst L5) p5=some (.lst L5):=aq;generalize av M4 p5 (.lst L5)=M5 at le5 hM5 ⊢;walk_at "rd";refine⟨_,rfl,sz3 0,sz3 1,sz3 3,sz3 8,L5,dF hM5,z _ (by simp;lia),fun p6 hp6=>?_⟩;have hp6':M p6=none:=by
  cases e:M p6 with
  |none=>rfl
  |some o=>have:=le5 _ _ e;rw[hp6]at this;cases this
 refine⟨av M p6 (.lst (L5++[D.lst [.tup os,.str ax,.tup es],D.non,D.bl true,D.str ax,D.tup [],D.emp,D.lst [D.tup [D.tup os,D.str ax,D.tup es]],D.tup [D.str ax,D.tup os,D.tup es]])),fun b o e=>?_,k _ (by rw[J1];simp;lia) (fun d hd=>?_) p6 hp6'⟩
 ·by_cases hb:b=p6
  ·rw[hb,aq]at e ⊢;exact e
  ·rw[az hb]at e ⊢;exact le5 _ _ e
 have hLX:ai (.tup [.tup os,.str ax,.tup es])=true:=bR hO hG hE;rcases K0.mp hd with h|h
 ·exact a5 d h
 simp only[J3,L9,or_false]at h;rcases h with rfl|rfl|rfl|rfl|rfl|rfl|rfl|rfl
 ·exact lx _ hLX rfl
 ·exact lx _ rfl rfl
 ·exact lx _ rfl rfl
 ·exact lx _ hG rfl
 ·exact lx _ rfl rfl
 ·exact lx _ rfl rfl
 ·exact lx _ (by simpa[ai,bg]using hLX) rfl
 ·exact lx _ (bR hG hO hE) (yZ rfl)
def fR:SpD:=fun ds M R=>∃e:Str×List Row,ds=[cA e]/\bB e.1/\oY e.2/\∀L:List D,L.length<=200->(∀d∈L,tQ d)->R (.lst L) M
theorem jE(F:Fun K "_law_entry_things" "_law_entry_things" bE f fd) (T:Txt mg) :a7 P w K mg base CX0 1 f fd ["_law_entry"] (spD K 1 fR):=by
 have nd:=fF.nd;refine F.okR rfl fF (fun cdv A outer s H E hr=>⟨_,(ak (uT (ae 0) (qA rfl (du (bD (i:=1) nd rfl (ao0 rfl)) (du (bD (i:=2) nd rfl (ao0 rfl)) qz))))
   (bL (ak (aL (i:=3) nd rfl (Q9 rfl) (bp bo (ae 2) aj (fun _ _=>rfl)))
   (bL (ak (Au (i:=4) nd rfl rfl rfl (ms:=[false,false,true,false,false,false,false,false]) (ao:=["_law_one"]) (aA rfl (show aF (ah bE) bu _ _=true from by decide +kernel)) rfl (aN (bI (aa bV (aa bV (aa bV (aa bV (aa eh (aa aj (aa (aD (aa bV ag)) (aa dR (aa (bI (aa bV ag)) (aa lT (aa (aD (aa (bI (aa bV ag)) ag)) ag))))))))))))) (aC (i:=8) (show(bu++_).Nodup from by decide +kernel) rfl rfl) (fun _ _ _ _=>aT) (fun _ _ _ _=>(aD (aa (ae 8) (aa (ae 2) ag)))))
   (bL (ak (aL (i:=4) nd rfl (Q9 rfl) (aO aM (ae 4) (cX (ms:=[false,true,false,false,false,false,false,false]) (ao:=["_law_one"]) (aA rfl (show aF (ah bE) bu _ _=true from by decide +kernel)) rfl (aN (bI (aa (aD ag) (aa (bG jn rfl T.b_list (by kernel_rfl) (aa (ae 2) ag)) (aa eh (aa (ae 1) (aa lT (aa (aO aM (ae 2) (aU (ae 2) bq (br aj))) (aa (aD (aa (aD (aa eh ag)) ag)) (aa (aD (aa (ae 1) ag)) ag)))))))))) (aC (i:=8) (show(bu++_).Nodup from by decide +kernel) rfl rfl) (fun _ _ _ _=>aT) (fun _ _ _ _=>(aD (aa (ae 1) (aa (ae 8) ag)))))))
   (bL (ak (aL (i:=5) nd rfl (Q9 rfl) (bG gO rfl T.b_tuple (by kernel_rfl) (aa (cX (ms:=[false,false,false,false,false,false,false,false]) (ao:=["_law_k"]) (aA rfl (show aF (ah bE) bu _ _=true from by decide +kernel)) rfl (dG rfl T.b_range (aa aj ag)) (aC (i:=8) (show(bu++_).Nodup from by decide +kernel) rfl rfl) (fun _ _ _ _=>aT) (fun _ _ _ _=>(aD (aa (aD (aa bV (aa (ae 8) ag))) ag)))) ag)))
   (bL (ak (aL (i:=4) nd rfl (Q9 rfl) (aO aM (ae 4) (bI (aa (aD (aa (ae 1) (aa (ae 5) ag))) (aa (aD (aa (ae 1) ag)) (aa (aD (aa (ae 1) (aa (ae 2) (aa aj ag)))) (aa (bI (aa (ae 1) (aa (ae 2) ag))) (aa eh (aa (ae 1) (aa (aD (aa (ae 2) (aa (ae 1) ag))) ag))))))))))
   (bL (ak (aL (i:=6) nd rfl (Q9 rfl) (aO gm (aD (aa (aD (aa bV (aa aj ag))) ag)) aj))
   (bL (ak (gP U6 rfl (aN (bI (aa (bG jn rfl T.b_list (by kernel_rfl) (aa (ae 3) ag)) (aa (aO aM (ae 3) (aD (aa eh ag))) (aa (aD (aa (aD (aa bV (aa aj ag))) ag)) (aa (aD (aa (aD (aa bV (aa aj ag))) ag)) (aa (ae 6) (aa (aD (aa (aD (aa bV (aa dR ag))) ag)) (aa (aD (aa (bI (aa bV (aa aj ag))) ag)) (aa eh ag)))))))))) (bD (i:=7) nd rfl (Q9 rfl)) (au (aL (i:=4) nd rfl (Q9 rfl) (aO aM (ae 4) (bI (aa (aD (aa (ae 1) (aa (aO aM (aD (aa (ae 7) ag)) (aU (ae 2) (br aj) bq)) ag))) (aa (aD (aa (ae 1) (aa (aO aM (aU (ae 2) bq (br (qP rJ aj))) (aD (aa (ae 7) ag))) ag))) ag)))))))
   (bL (au (aI (ae 4))))))))))))))))))),fun ds M R _ hS bk=>?_⟩)
 obtain⟨⟨w0,ks⟩,rfl,hw,hk,k⟩:=hS;refine bk ?_;clear bk;have hW:ai (.str w0)=true:=iU hw;have hK:ai (.tup (ks.map aS))=true:=tW hk.2.2.2;have hk1:1<=(ks.map aS).length:=by rw[F3];exact hk.1
 have hk4:(ks.map aS).length<=4:=by rw[F3];exact hk.2.1
 obtain⟨r0,ks',e0⟩:∃r0 ks',ks=r0::ks':=by
  cases ks with
  |nil=>have:=hk.1;simp at this
  |cons e0 es'=>exact⟨e0,es',rfl⟩
 have hr0:=hk.2.2.2 r0 (by rw[e0];exact .head _);have hR:ai (.tup (r0.map bH))=true:=nT hr0;have hr5:(r0.map bH).length<=5:=by rw[F3];exact hr0.1
 have eK:ks.map aS=.tup (r0.map bH)::ks'.map aS:=by rw[e0];rfl
 simp only[cA,cb];rw[eK]at hK hk1 hk4 ⊢;clear eK e0;generalize ks'.map aS=kt at *
 generalize r0.map bH=ss at *
 walk_at "rd";simp only[lR,jB,cR,rj,Option.bind_some];refine⟨_,if_pos rfl,aP ?_⟩;walk_at "rd";have z:∀n:Nat,n<=1000->n<=I0:=fun n h=>O4 h (sz3 1000);have hge:∀d∈D.tup ss::kt,ai d=true:=aQ.mp hK;have ex:∀d,ai d=true->dn d=false->tQ d:=fun d a b=>⟨a,b⟩;have en_k:∀{a b:D},gX b=false->dn (.tup [a,b])=false:=fun h=>by simp only[dn,h,P7]
 have en_w:∀{a b:D},aJ a=false->dn (.tup [a,b])=false:=fun h=>by simp only[dn,h,H0]
 generalize D.tup ss::kt=KK at *
 refine aP ?_;walk_at "rd";refine⟨sz3 1,sz3 1,sz3 1,sz3 1,sz3 11,fun _=>⟨sz3 11,?_⟩⟩;refine bf (fun _=>true) (fun d=>.tup [d,.tup KK]) (fun Δ=>∃u,Δ=[none,none,some (.tup KK),none,none,none,none,none,u]) _ _ _ (fun d hd Δ hΔ=>?_) ⟨none,rfl⟩ ?_
 ·obtain⟨u,rfl⟩:=hΔ;refine⟨_,rfl,⟨_,rfl⟩,fun Q1 q=>q,fun _ Q2 q=>?_⟩;walk_at "rd";exact⟨sz3 2,q⟩
 rw[M9,N4.mpr (fun _ _=>rfl)];have a2:∀d∈[D.str (F5 ""),D.str (F5 "A"),D.str (F5 "abcdefghi"),D.str (F5 "a b"),D.non,D.int 7,D.tup [D.str (F5 "a")],D.bl true,D.lst [D.str (F5 "a")],D.emp,D.tup [D.lst [D.str (F5 "a")]]].map fun d=>D.tup [d,.tup KK],tQ d:=by
  intro d hd;obtain⟨x,hx,rfl⟩:=O2.mp hd;simp only[J3,L9,or_false]at hx;rcases hx with rfl|rfl|rfl|rfl|rfl|rfl|rfl|rfl|rfl|rfl|rfl
  all_goals refine ex _ (cM ?_ hK) (en_w ?_)
  all_goals first|rfl|(decide +kernel)
 have hl2:([D.str (F5 ""),D.str (F5 "A"),D.str (F5 "abcdefghi"),D.str (F5 "a b"),D.non,D.int 7,D.tup [D.str (F5 "a")],D.bl true,D.lst [D.str (F5 "a")],D.emp,D.tup [D.lst [D.str (F5 "a")]]].map fun d=>D.tup [d,.tup KK]).length<=11:=by rw[F3];exact F7 _
 generalize [D.str (F5 ""),D.str (F5 "A"),D.str (F5 "abcdefghi"),D.str (F5 "a b"),D.non,D.int 7,D.tup [D.str (F5 "a")],D.bl true,D.lst [D.str (F5 "a")],D.emp,D.tup [D.lst [D.str (F5 "a")]]].map (fun d=>D.tup [d,.tup KK])=L2' at a2 hl2 ⊢;refine aP ?_;walk_at "rd";rw[show L2.eJ KK none (some 1)=KK.take 1 from ki (n:=1)];refine⟨sz3 0,_,rfl,_,if_pos (z _ (by rw[P4];lia)),sz3 1,sz3 1,sz3 1,sz3 8,fun _=>⟨sz3 8,?_⟩⟩;refine bf (fun _=>true) (fun d=>.tup [.str w0,d]) (fun Δ=>∃u,Δ=[none,some (.str w0),none,none,none,none,none,none,u]) _ _ _ (fun d hd Δ hΔ=>?_) ⟨none,rfl⟩ ?_
 ·obtain⟨u,rfl⟩:=hΔ;refine⟨_,rfl,⟨_,rfl⟩,fun Q1 q=>q,fun _ Q2 q=>?_⟩;walk_at "rd";exact⟨sz3 2,q⟩
 rw[M9,N4.mpr (fun _ _=>rfl)];have c3:∀d∈[D.tup [],D.lst KK,D.non,D.str w0,D.emp,D.tup (KK++KK.take 1),D.tup [D.tup [D.non]],D.tup [D.str w0]].map fun d=>D.tup [.str w0,d],tQ d:=by
  intro d hd;obtain⟨x,hx,rfl⟩:=O2.mp hd;simp only[J3,L9,or_false]at hx;rcases hx with rfl|rfl|rfl|rfl|rfl|rfl|rfl|rfl
  all_goals refine ex _ (cM hW ?_) (en_k ?_)
  all_goals first|rfl|(exact AQ hk1)|(simp[gX,cT,dg];done)|(exact aZ fun d hd=>(K0.mp hd).elim (hge d) fun h=>hge d (ad0 h))|(simpa[ai,bg]using hW)|(simpa[ai,bg]using hK)
 have a3:∀d∈L2'++[D.tup [],D.lst KK,D.non,D.str w0,D.emp,D.tup (KK++KK.take 1),D.tup [D.tup [D.non]],D.tup [D.str w0]].map fun d=>D.tup [.str w0,d],tQ d:=fun d hd=>(K0.mp hd).elim (a2 d) (c3 d);have hl3:(L2'++[D.tup [],D.lst KK,D.non,D.str w0,D.emp,D.tup (KK++KK.take 1),D.tup [D.tup [D.non]],D.tup [D.str w0]].map fun d=>D.tup [.str w0,d]).length<=19:=by rw[J1,F3];show _+8<=19;lia
 refine⟨_,if_pos (z _ (by rw[J1]at hl3;lia)),aP ?_⟩;clear c3;generalize L2'++[D.tup [],D.lst KK,D.non,D.str w0,D.emp,D.tup (KK++KK.take 1),D.tup [D.tup [D.non]],D.tup [D.str w0]].map (fun d=>D.tup [.str w0,d])=L3 at a3 hl3 ⊢;walk_at "rd";have h5:pe 0 5=[D.int 0,D.int 1,D.int 2,D.int 3,D.int 4]:=rfl;rw[h5];refine⟨sz3 5,?_⟩;refine bf (fun _=>true) (fun d=>.tup [.tup [.str (F5 "a"),d]]) (fun Δ=>∃u,Δ=[none,none,none,none,none,none,none,none,u]) _ _ _ (fun d hd Δ hΔ=>?_) ⟨none,rfl⟩ ?_
 ·obtain⟨u,rfl⟩:=hΔ;refine⟨_,rfl,⟨_,rfl⟩,fun Q1 q=>q,fun _ Q2 q=>?_⟩;walk_at "rd";exact⟨sz3 2,sz3 1,q⟩
 rw[M9,N4.mpr (fun _ _=>rfl)];have g5:ai (.tup ([D.int 0,D.int 1,D.int 2,D.int 3,D.int 4].map fun d=>.tup [.tup [.str (F5 "a"),d]]))=true:=rfl;have n5:gX (.tup ([D.int 0,D.int 1,D.int 2,D.int 3,D.int 4].map fun d=>.tup [.tup [.str (F5 "a"),d]]))=false:=by simp[gX]
 generalize [D.int 0,D.int 1,D.int 2,D.int 3,D.int 4].map (fun d=>D.tup [.tup [.str (F5 "a"),d]])=wI at g5 n5 ⊢;refine aP ?_;walk_at "rd";refine⟨sz3 2,sz3 1,sz3 3,sz3 2,sz3 2,sz3 7,_,if_pos (z _ (by lia)),aP ?_⟩;have a4:∀d∈L3++[D.tup [D.str w0,D.tup wI],D.tup [D.str w0],D.tup [D.str w0,D.tup KK,D.int 1],D.lst [D.str w0,D.tup KK],D.non,D.str w0,D.tup [D.tup KK,D.str w0]],tQ d:=by
  intro d hd;rcases K0.mp hd with h|h
  ·exact a3 d h
  simp only[J3,L9,or_false]at h;rcases h with rfl|rfl|rfl|rfl|rfl|rfl|rfl
  ·exact ex _ (cM hW g5) (en_k n5)
  ·exact ex _ (aZ fun d hd=>by rw[J5.mp hd];exact hW) rfl
  ·exact ex _ (bR hW hK rfl) rfl
  ·exact ex _ (cM hW hK) rfl
  ·exact ex _ rfl rfl
  ·exact ex _ hW rfl
  ·exact ex _ (cM hK hW) (en_w rfl)
 have hl4:(L3++[D.tup [D.str w0,D.tup wI],D.tup [D.str w0],D.tup [D.str w0,D.tup KK,D.int 1],D.lst [D.str w0,D.tup KK],D.non,D.str w0,D.tup [D.tup KK,D.str w0]]).length<=26:=by rw[J1];show _+7<=26;lia
 generalize L3++[D.tup [D.str w0,D.tup wI],D.tup [D.str w0],D.tup [D.str w0,D.tup KK,D.int 1],D.lst [D.str w0,D.tup KK],D.non,D.str w0,D.tup [D.tup KK,D.str w0]]=L4 at a4 hl4 ⊢;walk_at "rd";refine⟨sz3 2,sz3 1,_,yQ (by lia) (by lia) (by simp) (sz3 6),aP ?_⟩;have g6:ai (.tup (J7 (6:Int).toNat [D.tup [D.str (F5 "a"),D.int 0]]).flatten)=true:=rfl;have n6:cT (.tup (J7 (6:Int).toNat [D.tup [D.str (F5 "a"),D.int 0]]).flatten)=false:=by decide +kernel
 generalize (J7 (6:Int).toNat [D.tup [D.str (F5 "a"),D.int 0]]).flatten=six at g6 n6 ⊢;walk_at "rd";refine⟨_,rfl,sz3 1,_,if_pos (z _ (by lia)),sz3 2,sz3 1,sz3 2,sz3 1,sz3 2,sz3 1,sz3 2,sz3 1,sz3 8,fun _=>?_⟩;have hgs:∀d∈ss,ai d=true:=aQ.mp hR;have oth:∀d∈[D.lst ss,D.tup (ss++[D.non]),D.tup [D.tup [D.str (F5 "a"),D.int 100]],D.tup [D.tup [D.str (F5 "A"),D.int 0]],D.tup six,D.tup [D.tup [D.str (F5 "a"),D.bl true]],D.tup [D.lst [D.str (F5 "a"),D.int 0]],D.non],ai d=true/\cT d=false:=by
  intro d hd;simp only[J3,L9,or_false]at hd;rcases hd with rfl|rfl|rfl|rfl|rfl|rfl|rfl|rfl
  ·exact⟨hR,rfl⟩
  ·refine⟨aZ fun d hd=>(K0.mp hd).elim (hgs d) fun h=>by rw[J5.mp h];rfl,?_⟩;simp[cT,dg]
  ·exact⟨rfl,by decide +kernel⟩
  ·exact⟨rfl,by decide +kernel⟩
  ·exact⟨g6,n6⟩
  ·exact⟨rfl,by decide +kernel⟩
  ·exact⟨rfl,by decide +kernel⟩
  ·exact⟨rfl,rfl⟩
 refine b7 (fun i Δ M'=>∃L u,Δ=[some (D.tup [D.str w0,D.tup KK]),some (D.str w0),some (D.tup KK),some (D.tup ss),some (D.lst L),some (D.tup wI),some (D.tup six),u]/\M'=M/\L.length<=26+2*i/\∀d∈L,tQ d) ⟨L4,none,rfl,rfl,by lia,a4⟩ ?_ ?_
 ·rintro i d Δ M' X hd ⟨L,u,rfl,rfl,hl,ha⟩ k';have hi:i<8:=(N1.mp hd).1;obtain⟨gd,nd⟩:=oth d (R4 hd);refine⟨_,rfl,?_⟩;walk_at "rd";have q1:=eV (ds:=KK) (lo:=some 1) (hi:=none);have q2:=eV (ds:=KK) (lo:=none) (hi:=some (-1));refine⟨sz3 1,_,if_pos (z _ (by lia)),sz3 2,sz3 1,_,if_pos (z _ (by lia)),sz3 2,sz3 2,_,if_pos (z _ (by lia)),k' _ _ ⟨_,_,rfl,rfl,by rw[J1];show _+2<=_;lia,fun d' hd'=>?_⟩⟩;rcases K0.mp hd' with h|h
  ·exact ha d' h
  simp only[J3,L9,or_false]at h;rcases h with rfl|rfl
  ·refine ex _ (cM hW (aZ fun e he=>?_)) (en_k (xq (.head _) nd));rcases J3.mp he with rfl|he
   ·exact gd
   ·exact hge e (dh he)
  ·refine ex _ (cM hW (aZ fun e he=>?_)) (en_k (xq (O5 _ (.head _)) nd));rcases K0.mp he with he|he
   ·exact hge e (dh he)
   ·rw[J5.mp he];exact gd
 ·rintro Δ M' ⟨L,u,rfl,rfl,hl,ha⟩;refine aP ?_;walk_at "rd";exact k L (by simp at hl;lia) ha
theorem yU{ord:List (Str×Str)}{ax:Str}{aw:List (Str×List Row)}(h:LxK ord ax aw):iL (dY ord ax aw)=true:=by
 have ho:gI (.tup (ord.map bK))=true:=by
  simp only[gI,F3,K1,decide_eq_true_eq];refine⟨h.o.1,?_⟩;rw[Q6,N5];intro x hx;have:=h.o.2 x hx;simp only[an3,bK,fC,aJ,dw this.1,dw this.2,an4]
 have hg:aJ (.str ax)=true:=dw h.g;have he:fN (.tup (aw.map cA))=true:=by
  simp only[fN,F3,K1,decide_eq_true_eq];refine⟨⟨⟨h.e.1,h.e.2.1⟩,?_⟩,?_⟩
  ·rw[Q6,N5];intro e hm;have hk:=h.e.2.2.2 e hm;have e1:dn (cA e)=(aJ (.str e.1)&&gX (cb e.2)):=rfl;have e2:gX (cb e.2)=(decide (1<=(e.2.map aS).length)&&decide ((e.2.map aS).length<=4)&&(e.2.map aS).all cT&&gY (e.2.map aS)):=rfl;have e3:(e.2.map aS).all cT=true:=by
    rw[Q6,N5];intro r hr;have hr':=hk.2.2.2.2 r hr;show cT (.tup (r.map bH))=true;simp only[cT,K1,decide_eq_true_eq,F3];refine⟨?_,hr'.1⟩;have:=CL (n:=99) (by lia) hr'.2;exact this
   rw[an3,e1,e2,e3,gf oC,c9.mpr hk.2.2.2.1,F3,decide_eq_true hk.2.1,decide_eq_true hk.2.2.1,show aJ (.str e.1)=true from dw hk.1];rfl
  ·have:(aw.map cA).map vo=(aw.map (·.1)).map D.str:=by rw[S5,S5];rfl
   rw[this,gf pZ];exact c9.mpr h.e.2.2.1
 simp only[dY,iL,ho,hg,he,an4]
theorem BN{aw:List (Str×List Row)}(h:(aw.map (·.1)).Nodup) {e:Str×List Row}(he:e∈aw):kin aw e.1=e.2:=by
 induction aw with
 |nil=>cases he
 |cons a l ih =>
  rw[N8,ad3]at h;unfold kin;rw[S2];rcases J3.mp he with rfl|he
  ·simp
  ·have:(e.1==a.1)=false:=by
    simpa using fun q:e.1=a.1=>h.1 (by rw[<-q];exact List.mem_map_of_mem he)
   rw[this];exact ih h.2 he
theorem vv{a b:List Row}:eqF (cb a) (cb b)=some (.bl (decide (a=b))):=by
 have h1:∀x:List Row,dLe (cb x) 60=true:=fun x=>gc.mpr fun d hd=>by
  obtain⟨r,_,rfl⟩:=O2.mp hd;exact hV r
 simp only[eqF,h1,and_self,if_true];simp only[cb,eqD,jM aS mO]
theorem wK:∀x y:Str,eqD (.str x) (.str y)=decide (x=y):=fun x y=>by rw[S0];simp[eqD]
theorem AX{ord:List (Str×Str)}{ax:Str}{aw:List (Str×List Row)}{d:D}{i:Nat}(hd:dn d=false):iL (.tup [.tup (ord.map bK),.str ax,.tup ((aw.map cA).take i++[d]++(aw.map cA).drop (i+1))])=false:=by
 have:((aw.map cA).take i++[d]++(aw.map cA).drop (i+1)).all dn=false:=by
  rw[X9];intro z;rw[N5.mp z d (by simp)]at hd;cases hd
 simp only[iL,fN,this,P7,H0]
def og:SpD:=fun ds M R=>∃(ord:List (Str×Str)) (ax:Str) (aw:List (Str×List Row)) (i:Int),ds=[dY ord ax aw,.int i]/\LxK ord ax aw/\0<=i/\i<(aw.length:Int)/\R (.bl true) M
theorem tJ(F:Fun K "_law_right" "_law_right" gh f fd) (T:Txt mg) (Y8:FnD P w K mg base "_law_outer_things" 1 1 fX) (Y7:FnD P w K mg base "_law_entry_things" 1 1 fR) (Y9:FnD P w K mg base "marks_of" 1 1 jL) (ga8:FnD P w K mg base "_law_marks" 1 1 nV) (G1:FnD P w K mg base "_law_is" 1 2 tH) (G9:FnD P w K mg base "is_lexicon" 9 1 fe) (g_q_kinds_of:FnD P w K mg base "kinds_of" 3 2 kc):a7 P w K mg base CX0 10 f fd ["_law_lexicon_here","_law_at"] (spD K 2 og):=by
 have nd:=mB.nd;refine F.okR rfl mB (fun cdv A outer s H E hr=>⟨_,(ak (uT (ae 0) (qA rfl (du (bD (i:=2) nd rfl (Q9 rfl)) (du (bD (i:=3) nd rfl (Q9 rfl)) (du (bD (i:=4) nd rfl (Q9 rfl)) qz)))))
   (bL (ak (aL (i:=5) nd rfl (Q9 rfl) (qd Y8 hr (aa (ae 0) ag)))
   (bL (ak (gP U6 rfl (aN (qd Y7 hr (aa (bp bo (ae 4) (ae 1) (fun _ _=>rfl)) ag))) (bD (i:=6) nd rfl (Q9 rfl)) (au (gn (jY (ae 5) (aD (aa (ae 2) (aa (ae 3) (aa (aO aM (aO aM (aU (ae 4) bq (br (ae 1))) (aD (aa (ae 6) ag))) (aU (ae 4) (br (aO aM (ae 1) aj)) bq)) ag))))))))
   (bL (zr 5 (ak (cn (mE (dM (bC (bw (qd G1 hr (aa (qd G9 hr (aa (ae 0) ag)) (aa dR ag))))) (fH (bC (bw (aB (eU rfl) rfl T.b_all (by kernel_rfl) (aa (cX (ms:=[false,false,false,false,false,false,false,false]) (ao:=[]) (aA rfl (show aF (ah gh) eP _ _=true from by decide +kernel)) rfl (aN (ae 5)) (aC (i:=6) (show(eP++_).Nodup from by decide +kernel) rfl rfl) (fun _ _ _ _=>aT) (fun _ _ _ _=>(qd G1 hr (aa (qd G9 hr (aa (ae 6) ag)) (aa dR ag))))) ag))))))) (au (aI dR)) bN)
   (bL (ak (cn (bC (bw (aB (eU rfl) rfl T.b_all (by kernel_rfl) (aa (cX (ms:=[true,false,false,false,false,false,false,false]) (ao:=["_law_word_here","_law_kinds_here"]) (aA rfl (show aF (ah gh) eP _ _=true from by decide +kernel)) rfl (aN (ae 4)) (ik (n:=2) rfl (bS (aC (i:=8) (show(eP++_).Nodup from by decide +kernel) rfl rfl) (bS (aC (i:=9) (show(eP++_).Nodup from by decide +kernel) rfl rfl) ij))) (fun _ _ _ _=>aT) (fun _ _ _ _=>(cV (pE hr.units) (qd g_q_kinds_of hr (aa (ae 0) (aa (ae 8) ag))) (ae 9) nbh))) ag)))) (au (aI dR)) bN)
   (bL (ak (aL (i:=7) nd rfl (Q9 rfl) (qd Y9 hr (aa (ae 0) ag)))
   (bL (ak (cn (mE (dM (bC (bw (cm (Tn:="list") (by decide) rfl T.b_isinstance rfl T.b_list (by kernel_rfl) (ae 7)))) (fH (cf (xQ hr.units) (ae 7) (qd ga8 hr (aa (ae 0) ag)) nbh)))) (au (aI dR)) bN)
   (bL (ak (gn (jY (ae 7) bV))
   (bL (au (jr (cV (pE hr.units) (qd Y9 hr (aa (ae 0) ag)) (qd ga8 hr (aa (ae 0) ag)) nbh)))))))))))))))))))),fun ds M R _ hS bk=>?_⟩)
 obtain⟨ord,ax,aw,i,rfl,hL,i0,i1,k⟩:=hS;refine bk ?_;clear bk;simp only[dY];walk_at "rd";simp only[lR,jB,cR,rj,Option.bind_some];refine⟨_,if_pos rfl,aP ?_⟩;walk_at "rd";refine⟨ord,ax,aw,rfl,hL,fun L hl ha p hp=>aP ?_⟩;obtain⟨j,rfl⟩:=W7 i0;obtain⟨e,he⟩:∃e,aw[j]?=some e:=⟨_,F4 (by lia)⟩;have hem:=R4 he;have hee:=hL.e.2.2.2 e hem;have z:∀n:Nat,n<=1000->n<=I0:=fun n h=>O4 h (sz3 1000);walk_at "rd";refine⟨cA e,dA (by rw[N0,he];rfl),e,rfl,hee.1,hee.2,fun T htl hta=>?_⟩;refine⟨_,rfl,fun _=>?_⟩;refine b7 (fun i Δ M'=>∃A u,Δ=[some (D.tup [D.tup (ord.map bK),D.str ax,D.tup (aw.map cA)]),some (D.int j),some (D.tup (ord.map bK)),some (D.str ax),some (D.tup (aw.map cA)),some (.ref p),u,none]/\M'=av M p (.lst A)/\A.length<=200+i/\∀d∈A,nB d) ⟨L,none,rfl,rfl,by lia,ha⟩ ?_ ?_
 ·rintro i d Δ M' X hd ⟨A,u,rfl,rfl,hal,haa⟩ k';have hi:i<T.length:=(N1.mp hd).1;obtain⟨gd,nd⟩:=hta d (R4 hd);refine⟨_,rfl,?_⟩;walk_at "rd";rw[ki,show(j:Int)+1=((j+1:Nat):Int)by lia,xu];have hel:aw.length<=10:=hL.e.2.1;refine⟨sz3 1,_,if_pos (z _ (by rw[P4,F3];lia)),_,if_pos (z _ (by simp only[J1,P4,af3,F3,Z7];lia)),sz3 3,J9 (by lia:A.length<1000) (sz3 1000),k' _ _ ⟨_,_,rfl,rfl,by rw[J1,Z7];lia,rD haa ⟨?_,AX nd⟩⟩⟩;have hLg:=hL.tb.1.good;have hge:∀d∈aw.map cA,ai d=true:=by
   simp only[dY,ai,bg,K1]at hLg;exact aQ.mp hLg.2.2.1
  refine bR hL.tb.2.1.good (iU hL.g) (aZ fun x hx=>?_);simp only[K0,J5]at hx;rcases hx with(hx|rfl)|hx
  ·exact hge x (ad0 hx)
  ·exact gd
  ·exact hge x (List.mem_of_mem_drop hx)
 rintro Δ M' ⟨A,u,rfl,rfl,hal,haa⟩;refine aP ?_;walk_at "rd";have hlg:=hL.tb.1.good;have hlx:=yU hL;simp only[dY]at hlg hlx;have hM0:ir (av M p (.lst A)) p=M:=by
  funext b;unfold ir av
  by_cases hb:b=p
  ·subst hb;simp[hp]
  ·simp[hb]
 rw[hM0];refine aG.mpr ⟨hlg,?_⟩;rw[hlx];refine⟨_,_,rfl,_,rfl,?_⟩;rw[if_neg (by decide)];refine fun hz=>⟨hz,?_⟩;refine bf (fun _=>true) (fun _=>.bl true) (fun Δ=>∃x,Δ=[none,none,none,none,none,none,x,none]) _ _ _ (fun d hd Δ hΔ=>?_) ⟨none,rfl⟩ ?_
 ·obtain⟨x,rfl⟩:=hΔ;obtain⟨g,n⟩:=haa d hd;refine⟨_,rfl,⟨_,rfl⟩,fun Q1 q=>q,fun _ Q2 q=>?_⟩;walk_at "rd";refine aG.mpr ⟨g,?_⟩;rw[n];exact⟨_,_,rfl,q⟩
 rw[M9,N4.mpr (fun _ _=>rfl)];refine⟨_,m5,_,rfl,?_⟩;rw[if_neg (by decide)];refine aP ?_;walk_at "rd";refine fun hz=>⟨hz,?_⟩;refine cU cA (fun _=>true) (fun _=>D.bl true) (fun Δ=>∃x y,Δ=[some (D.tup [D.tup (ord.map bK),D.str ax,D.tup (aw.map cA)]),none,none,none,none,none,none,none,x,y]) aw _ _ (fun e he Δ hΔ=>?_) ⟨none,none,rfl⟩ ?_
 ·obtain⟨x,y,rfl⟩:=hΔ;refine⟨_,rfl,⟨_,_,rfl⟩,fun Q1 q=>q,fun _ Q2 q=>?_⟩;have hk:=hL.e.2.2.2 e he;walk_at "rd";refine⟨ord,ax,aw,e.1,rfl,hL.e.2.1,hk.1,List.mem_map_of_mem he,_,vv,?_⟩;rw[BN hL.e.2.2.1 he,decide_eq_true rfl];exact q
 rw[M9,N4.mpr (fun _ _=>rfl)];refine⟨_,m5,_,rfl,?_⟩;rw[if_neg (by decide)];refine aP ?_;walk_at "rd";refine⟨ord,ax,aw,rfl,hL,fun p2 hp2=>aP ?_⟩;walk_at "rd";refine⟨true,rfl,?_⟩;rw[if_neg (by decide)];refine⟨ord,ax,aw,rfl,hL,?_⟩;show ∃z,neF (rdM (av M p2 (.lst ((mks ord ax aw).map .str))) (D.ref p2)) _=some z/\_;rw[dF aq];refine⟨_,zh D.str wK (fun _=>rfl),_,rfl,?_⟩;rw[if_neg (by simp)];refine aP ?_;have hml:(mks ord ax aw).length<=4:=by
  unfold mks cG;rw[List.length_mergeSort];exact hL.met fun x hx=>hx
 walk_at "rd";rw[F3];refine⟨J9 (by lia:(mks ord ax aw).length<1000) (sz3 1000),aP ?_⟩;walk_at "rd";refine⟨ord,ax,aw,rfl,hL,fun p3 hp3=>⟨ord,ax,aw,rfl,hL,?_⟩⟩;show ∃z,eqF (rdM (av _ p3 (.lst ((mks ord ax aw).map .str))) (D.ref p3)) _=some z/\_;rw[dF aq];refine⟨_,Aq D.str wK (fun _=>rfl),M,fun b o e=>?_,?_⟩
 ·exact fA hp3 b o (fA hp2 b o e)
 ·rw[decide_eq_true rfl];exact k
def S_law:SpD:=fun ds M R=>∃ns:List Int,ds=[.scr (ns.map .int)]/\M=noM/\ns.length<=63/\∀M',R (.bl true) M'
theorem BE(F:Fun K "law" "law" rL f fd) (T:Txt mg) (gc1:FnD P w K mg base "_law_pool" 1 1 qV) (gb4:FnD P w K mg base "_law_lexicon" 4 2 kR) (gb8:FnD P w K mg base "_law_right" 10 2 og) (ga9:FnD P w K mg base "_law_refused" 4 2 kS) (G0:FnD P w K mg base "_law_draw" 1 2 cK) (ga1:FnD P w K mg base "_law_word" 2 2 j6) (ga2:FnD P w K mg base "_law_bent_right" 11 2 ig):a7 P w K mg base CX0 12 f fd ["_law_script"] (spD K 1 S_law):=by
 have nd:=wt.nd;refine F.okR rfl wt (fun cdv A outer s H E hr=>⟨_,(ak (gP U6 rfl (aN (aO aM (bI (aa aj ag)) (aU (ae 0) bq (br aj)))) (bD (i:=1) nd rfl (Q9 rfl)) (ak (aL (i:=2) nd rfl (ao0 rfl) (qd gc1 hr (aa (ae 1) ag)))
   (bL (ak (aL (i:=3) nd rfl (ao0 rfl) (qd gb4 hr (aa (ae 2) (aa aj ag))))
   (bL (ak (cn (bC (bw (qd gb8 hr (aa (ae 3) (aa (qd G0 hr (aa (ae 2) (aa (aB bM rfl T.b_len (by kernel_rfl) (aa (bp bo (ae 3) aj (fun _ _=>rfl)) ag)) ag))) ag))))) (au (aI dR)) bN)
   (bL (ak (cn (bC (bw (qd ga9 hr (aa (ae 3) (aa (qd ga1 hr (aa (ae 2) (aa (cX (ms:=[false,false,false,false]) (ao:=["_law_word_here","_law_kinds_here"]) (aA rfl (show aF (ah rL) oE _ _=true from by decide +kernel)) rfl (aN (bp bo (ae 3) aj (fun _ _=>rfl))) (ik (n:=2) rfl (bS (aC (i:=4) (show(oE++_).Nodup from by decide +kernel) rfl rfl) (bS (aC (i:=5) (show(oE++_).Nodup from by decide +kernel) rfl rfl) ij))) (fun _ _ _ _=>aT) (fun _ _ _ _=>(ae 4))) ag))) ag))))) (au (aI dR)) bN)
   (bL (au (cn (bC (bw (aB (eU rfl) rfl T.b_all (by kernel_rfl) (aa (cX (ms:=[false,false,true,true]) (ao:=["_law_turn"]) (aA rfl (show aF (ah rL) oE _ _=true from by decide +kernel)) rfl (dG rfl T.b_range (aa aj ag)) (aC (i:=4) (show(oE++_).Nodup from by decide +kernel) rfl rfl) (fun _ _ _ _=>aT) (fun _ _ _ _=>(qd ga2 hr (aa (ae 2) (aa (ae 3) ag))))) ag)))) (au (aI dR)) bN)))))))))))
   (au (aI dR))),fun ds M R _ hS bk=>?_⟩)
 obtain⟨ns,rfl,rfl,hn,k⟩:=hS;refine bk ?_;clear bk;walk_at "rd";obtain⟨ys,hys,hyl⟩:∃ys:List Int,L2.eJ (ns.map D.int) none (some 2)=ys.map D.int/\ys.length<=2:=⟨ns.take 2,by rw[show(2:Int)=((2:Nat):Int)from rfl,ki,aq4],by rw[P4];lia⟩;rw[hys];refine⟨sz3 1,_,if_pos (sz3 _ (by rw[F3];lia)),_,rfl,fun hz=>?_⟩;rw[show D.int 0::ys.map D.int=(0::ys).map D.int from rfl];refine b7 (fun i Δ M'=>∃x1 x2 x3:Option D,Δ=[some (D.scr (ns.map D.int)),x1,x2,x3]/\∀a u,M' a=some u->noC u=true) ⟨_,_,_,rfl,fun a u e=>nomatch e⟩ ?_ ?_
 ·rintro i d Δ M X hd ⟨x1,x2,x3,rfl,hno⟩ k';obtain⟨c,hc,rfl⟩:=j0 hd;refine⟨_,rfl,?_⟩;walk_at "rd";refine⟨c,rfl,fun p l hp hP=>aP ?_⟩;walk_at "rd";refine⟨p,l,rfl,aq,hP,fun a u e ha=>hno a u (by rw[az ha]at e;exact e),fun ord g es l2 hL hP2=>aP ?_⟩;rw[aR];have h1:=hL.e.1;have h2:=hL.e.2.1;simp only[dY];walk_at "rd";rw[F3];refine⟨p,l2,_,rfl,aq,hP2,by lia,by lia,fun v l3 v0 v1 hP3=>?_⟩;rw[aR];refine⟨ord,g,es,v,rfl,hL,v0,v1,_,rfl,?_⟩;rw[if_neg (by decide)];refine aP ?_;walk_at "rd";refine fun hz=>⟨hz,?_⟩;refine cU cA (fun _=>true) (fun e=>D.str e.1) (fun Δ=>∃x y,Δ=[none,none,none,none,x,y]) es _ _ (fun e he Δ hΔ=>?_) ⟨none,none,rfl⟩ ?_
  ·obtain⟨x,y,rfl⟩:=hΔ;refine⟨_,rfl,⟨_,_,rfl⟩,fun Q1 q=>q,fun _ Q2 q=>?_⟩;walk_at "rd";exact q
  rw[M9,N4.mpr (fun _ _=>rfl)];refine⟨p,l3,es.map (·.1),by rw[S5];rfl,aq,hP3,by rw[F3];lia,fun w l4 hw hwn hP4=>?_⟩;rw[aR];refine⟨ord,g,es,w,rfl,h2,hw,hwn,_,rfl,?_⟩;rw[if_neg (by decide)];refine aP ?_;walk_at "rd";refine⟨sz3 12,?_⟩;refine jF (fun i acc Δ M'=>∃x l5,Δ=[none,none,some (D.ref p),some (dY ord g es),x]/\M'=av M p (.lst l5)/\bc l5/\acc=(P0 i).map fun _=>D.bl true) ⟨none,l4,rfl,rfl,hP4,rfl⟩ ?_ ?_
  ·rintro i d acc Δ M' Y hd ⟨x,l5,rfl,rfl,hP5,rfl⟩ k2;refine⟨_,rfl,?_⟩;simp only[nR];walk_at "rd";refine⟨p,l5,ord,g,es,rfl,aq,hP5,hL,fun l6 hP6=>?_⟩;rw[aR];refine k2 _ _ _ ⟨_,l6,rfl,rfl,hP6,?_⟩;rw[ad6,U5];rfl
  ·rintro acc Δ M' ⟨x,l5,rfl,rfl,hP5,rfl⟩;refine⟨_,m5,_,rfl,?_⟩;rw[if_neg (by decide)];refine k' _ _ ⟨_,_,_,rfl,fun a u e=>?_⟩
   by_cases ha:a=p
   ·subst ha;rw[aq]at e;cases e;obtain⟨a1,a2,a3,rfl,_⟩:=hP5;rfl
   ·rw[az ha]at e;exact hno a u e
 ·rintro Δ M ⟨x1,x2,x3,rfl,hno⟩;walk_at "rd";exact k _
end
theorem En:DP S_law:=fun ns R hn hR=>⟨ns,rfl,rfl,hn,hR⟩
theorem BJ{l:PySem.W.OpenLaw}{w:Q7}{K:F0}{h:K5}{mg:Str->Option s0}{fa:F9}(X:K.In h) (G:h.Ns K2 mg) (hfa:mg "law"=some (.ref fa))
  {f0:F9} {d0:K4}
  {f1:F9} {d1:K4}
  {f2:F9} {d2:K4}
  {f3:F9} {d3:K4}
  {f4:F9} {d4:K4}
  {f5:F9} {d5:K4}
  {f6:F9} {d6:K4}
  {f7:F9} {d7:K4}
  {f8:F9} {d8:K4}
  {f9:F9} {d9:K4}
  {f10:F9} {d10:K4}
  {f11:F9} {d11:K4}
  {f12:F9} {d12:K4}
  {f13:F9} {d13:K4}
  {f14:F9} {d14:K4}
  {f15:F9} {d15:K4}
  {f16:F9} {d16:K4}
  {f17:F9} {d17:K4}
  {f18:F9} {d18:K4}
  {f19:F9} {d19:K4}
  {f20:F9} {d20:K4}
  {f21:F9} {d21:K4}
  {f22:F9} {d22:K4}
  {f23:F9} {d23:K4}
  {f24:F9} {d24:K4}
  {f25:F9} {d25:K4}
  {f26:F9} {d26:K4}
  {f27:F9} {d27:K4}
  {f28:F9} {d28:K4}
  {f29:F9} {d29:K4}
  {f30:F9} {d30:K4}
  {f31:F9} {d31:K4}
  {f32:F9} {d32:K4}
  {f33:F9} {d33:K4}
  {f34:F9} {d34:K4}
  {f35:F9} {d35:K4}
  {f36:F9} {d36:K4}
  {f37:F9} {d37:K4}
  {f38:F9} {d38:K4}
  {f39:F9} {d39:K4}
  {f40:F9} {d40:K4}
  {f41:F9} {d41:K4}
  {f42:F9} {d42:K4}
  {tk_SMALL_LETTERS:Tok}
  {tk_MOST_LETTERS:Tok}
  {tk_MOST_PAIRS:Tok}
  {tk_MOST_TURN:Tok}
  {tk_MOST_ENTRIES:Tok}
  {tk_MOST_KINDS:Tok}
  {tk_MOST_SIGNS:Tok}
  {W WN:F9} {wn wq:Str} {wbs:List s0} {wh:Bool} {wsn:List Str} {wsub:List s0} {wab:Bool} {wcol:Option Bool} {wdd:Option F9} {w0 w1 w2 w3 w5:Option s0} {wnew:String} {wnc:s0} {wnd:Option F9} {wes:Array at8} {wep:Nat} {wsl:Array (Option s0)}
  {C_NoText:F9}
  {C_NoWord:F9}
  {C_NoLexicon:F9}
  {C_NoStep:F9}
  {C_NoNumber:F9}
  {C_NoDrawing:F9}
  {C_NoWorld:F9}
  {C_NoRow:F9}
  {C_NoKept:F9}
  {C0 CN0:F9} {xn0 xq0:Str} {xbs0:List s0}  {xsn0:List Str} {xsub0:List s0} {xab0:Bool} {xcol0:Option Bool} {xdd0:Option F9} {xa0 xb0 xc0 xd0 xe0:Option s0}
  {fI0:F9} {odI0 anI0:Option F9} {slI0:Array (Option s0)} {kVI0 dcI0 pmI0 cdI0 ctI0:s0}
  (x0:bF K "is_whole" gy f0 d0)
  (x1:bF K "is_tuple_of" dU f1 d1)
  (x2:bF K "is_short_word" cg f2 d2)
  (x3:bF K "are_unlike" eY f3 d3)
  (x4:bF K "words_of" eA f4 d4)
  (x5:bF K "marks_of" c8 f5 d5)
  (x6:bF K "_law_pool" m6 f6 d6)
  (x7:bF K "_law_draw" mz f7 d7)
  (x8:bF K "_law_alone" iO f8 d8)
  (x9:bF K "_law_is" tY f9 d9)
  (x10:bF K "_law_outer_things" bv f10 d10)
  (x11:bF K "_law_entry_things" bE f11 d11)
  (x12:bF K "_law_is_mark" fD f12 d12)
  (x13:bF K "_law_marks" iT f13 d13)
  (x14:bF K "is_mark" iB f14 d14)
  (x15:bF K "is_turn" iK f15 d15)
  (x16:bF K "has_word" gD f16 d16)
  (x17:bF K "_law_word" fV f17 d17)
  (x18:bF K "_law_order" kn f18 d18)
  (x19:bF K "_law_kinds" kL f19 d19)
  (x20:bF K "_law_otherwise" fK f20 d20)
  (x21:bF K "_law_is_sign" hU f21 d21)
  (x22:bF K "_law_is_order" c7 f22 d22)
  (x23:bF K "is_pair" g8 f23 d23)
  (x24:bF K "is_sign" ia f24 d24)
  (x25:bF K "kinds_of" eF f25 d25)
  (x26:bF K "_law_some_words" fi f26 d26)
  (x27:bF K "_law_is_row" gj f27 d27)
  (x28:bF K "is_order" eB f28 d28)
  (x29:bF K "is_row" gL f29 d29)
  (x30:bF K "_law_lexicon" g7 f30 d30)
  (x31:bF K "_law_are_kinds" cL f31 d31)
  (x32:bF K "_law_refused" iw f32 d32)
  (x33:bF K "is_kind" iM f33 d33)
  (x34:bF K "_law_formed" eW f34 d34)
  (x35:bF K "are_kinds" dI f35 d35)
  (x36:bF K "is_entry" gB f36 d36)
  (x37:bF K "are_entries" bY f37 d37)
  (x38:bF K "is_lexicon" fk f38 d38)
  (x39:bF K "_law_bent" m7 f39 d39)
  (x40:bF K "_law_right" gh f40 d40)
  (x41:bF K "_law_bent_right" fb f41 d41)
  (x42:bF K "law" rL f42 d42)
  (z_isinstance:N7 K K2 "isinstance"=some none)
  (z_int:N7 K K2 "int"=some none)
  (z_bool:N7 K K2 "bool"=some none)
  (z_tuple:N7 K K2 "tuple"=some none)
  (z_len:N7 K K2 "len"=some none)
  (z_str:N7 K K2 "str"=some none)
  (z_all:N7 K K2 "all"=some none)
  (z_set:N7 K K2 "set"=some none)
  (z_sorted:N7 K K2 "sorted"=some none)
  (z_abs:N7 K K2 "abs"=some none)
  (z_range:N7 K K2 "range"=some none)
  (z_ValueError:N7 K K2 "ValueError"=some none)
  (z_list:N7 K K2 "list"=some none)
  (z_SMALL_LETTERS:N7 K K2 "SMALL_LETTERS"=some (some (.str "abcdefghijklmnopqrstuvwxyz" tk_SMALL_LETTERS)))
  (z_MOST_LETTERS:N7 K K2 "MOST_LETTERS"=some (some (.int 8 tk_MOST_LETTERS)))
  (z_MOST_PAIRS:N7 K K2 "MOST_PAIRS"=some (some (.int 8 tk_MOST_PAIRS)))
  (z_MOST_TURN:N7 K K2 "MOST_TURN"=some (some (.int 99 tk_MOST_TURN)))
  (z_MOST_ENTRIES:N7 K K2 "MOST_ENTRIES"=some (some (.int 10 tk_MOST_ENTRIES)))
  (z_MOST_KINDS:N7 K K2 "MOST_KINDS"=some (some (.int 4 tk_MOST_KINDS)))
  (z_MOST_SIGNS:N7 K K2 "MOST_SIGNS"=some (some (.int 5 tk_MOST_SIGNS)))
  (aW:N7 K K2 "WishError"=some (some (.ref W)))
  (lW:K.lookup W=some (W0 wn wq W WN wbs [.type "ValueError",.type "Exception",.type "BaseException",.type "object"] wh wsn wsub wab wcol wdd w0 w1 w2 w3 w5 wnew))
  (nW:K.lookup WN=some ⟨wnc,wnd,.dict wes wep,wsl⟩)
  (hW:wes.toList.all (fun e=>e.key.isStr "__init__"==false&&match e.key with|.str _ _=>true|_=>false)=true)
  (sW:al3 K (.ref W) "__getattribute__"=some (some (.builtin "type.__getattribute__")))
  (rW:PySem.W.readsIn K W (.type "type")=true)
  (fW:PySem.W.findCls K (.ref W) (.type "type") "__init__"=some (.val (.builtin "ValueError.__init__")))
  (i4:al3 K (.builtin "object.__class__") "__get__"=some (some (.builtin "getset_descriptor.__get__")))
  (i5:PySem.W.takesIn K (.builtin "object.__class__")=some true)
  (a_NoText:N7 K K2 "NoText"=some (some (.ref C_NoText)))
  (a_NoWord:N7 K K2 "NoWord"=some (some (.ref C_NoWord)))
  (a_NoLexicon:N7 K K2 "NoLexicon"=some (some (.ref C_NoLexicon)))
  (a_NoStep:N7 K K2 "NoStep"=some (some (.ref C_NoStep)))
  (a_NoNumber:N7 K K2 "NoNumber"=some (some (.ref C_NoNumber)))
  (a_NoDrawing:N7 K K2 "NoDrawing"=some (some (.ref C_NoDrawing)))
  (a_NoWorld:N7 K K2 "NoWorld"=some (some (.ref C_NoWorld)))
  (a_NoRow:N7 K K2 "NoRow"=some (some (.ref C_NoRow)))
  (a_NoKept:N7 K K2 "NoKept"=some (some (.ref C_NoKept)))
  (aC0:N7 K K2 "NoWord"=some (some (.ref C0)))
  (kC0:W3 K (.ref C0)=true)
  (lC0:K.lookup C0=some (W0 xn0 xq0 C0 CN0 xbs0 [.ref W,.type "ValueError",.type "Exception",.type "BaseException",.type "object"] true xsn0 xsub0 xab0 xcol0 xdd0 xa0 xb0 xc0 xd0 xe0 "ValueError.__new__"))
  (ia0:S9 K (.ref C0) "__getattribute__"=some (some (.builtin "BaseException.__getattribute__")))
  (ib0:S9 K (.ref C0) "__getattr__"=some none)
  (ic0:an2 K C0 (.type "BaseException")=some true)
  (id0:(PySem.W.clsIn K C0).isSome=true)
  (ie0:S9 K (.ref C0) "__class__"=some (some (.builtin "object.__class__")))
  (ig0:an2 K C0 (.type "object")=some true)
  (kV0:O8 K (.ref C0) (.type "ValueError")=some true)
  (k0_NoText:O8 K (.ref C0) (.ref C_NoText)=some false)
  (k0_NoWord:O8 K (.ref C0) (.ref C_NoWord)=some true)
  (k0_NoLexicon:O8 K (.ref C0) (.ref C_NoLexicon)=some false)
  (k0_NoStep:O8 K (.ref C0) (.ref C_NoStep)=some false)
  (k0_NoNumber:O8 K (.ref C0) (.ref C_NoNumber)=some false)
  (k0_NoDrawing:O8 K (.ref C0) (.ref C_NoDrawing)=some false)
  (k0_NoWorld:O8 K (.ref C0) (.ref C_NoWorld)=some false)
  (k0_NoRow:O8 K (.ref C0) (.ref C_NoRow)=some false)
  (k0_NoKept:O8 K (.ref C0) (.ref C_NoKept)=some false)
  (iC0:S9 K (.ref C0) "__init__"=some (some (.ref fI0)))
  (lI0:K.lookup fI0=some ⟨.type "function",odI0,.func (ac3 "__init__" "NoWord.__init__" (fE iV) (cO iV) (ah iV) .none kVI0 dcI0 pmI0 anI0 cdI0 ctI0),slI0⟩)
  (cI0:al4 K cdI0 "NoWord.__init__"=true)
  (kI0:W3 K (.ref fI0)=true)
  (sC0:S9 K (.ref C0) "__setattr__"=some (some (.builtin "object.__setattr__")))
  (tC0:S9 K (.ref C0) "word"=some none)
  (hd0:PySem.W.hasDictIn K C0=true)
 :∃fd:K4,(∀(s:F2) (v:s0),as6 s fd ⟨[v],[]⟩ [("_law_script",v)])/\∀base:K5,K.In base->base.Ns K2 mg->a7 l.prog w K mg base CX0 12 fa fd ["_law_script"] (spD K 1 S_law):=by
 have T:Txt mg:=⟨R7 X G z_isinstance,R7 X G z_int,R7 X G z_bool,R7 X G z_tuple,R7 X G z_len,R7 X G z_str,R7 X G z_all,R7 X G z_set,R7 X G z_sorted,R7 X G z_abs,R7 X G z_range,R7 X G z_ValueError,R7 X G z_list,⟨_,P8 X G z_SMALL_LETTERS⟩,⟨_,P8 X G z_MOST_LETTERS⟩,⟨_,P8 X G z_MOST_PAIRS⟩,⟨_,P8 X G z_MOST_TURN⟩,⟨_,P8 X G z_MOST_ENTRIES⟩,⟨_,P8 X G z_MOST_KINDS⟩,⟨_,P8 X G z_MOST_SIGNS⟩⟩;have Y:zN K mg C0 W fI0:=⟨⟨P8 X G aC0,P8 X G aW,kC0,⟨_,_,_,_,_,_,_,_,_,_,_,_,_,_,lC0⟩,iC0,⟨_,_,_,_,_,_,_,_,_,lW,nW,hW⟩,sW,rW,fW,sC0,ig0,tC0⟩,⟨hd0,tC0⟩,P8 X G aW,al1 ⟨_,_,_,_,_,_,_,_,_,_,_,_,_,_,_,_,_,lC0,by simp⟩,⟨_,_,_,_,_,_,_,_,_,_,_,_,_,_,_,_,_,lW,by simp⟩,al1 ⟨ia0,ib0,ic0,id0,ie0,i4,i5,ig0⟩,ix1 kV0,⟨_,P8 X G a_NoText,ix1 k0_NoText⟩,⟨_,P8 X G a_NoWord,ix1 k0_NoWord⟩,⟨_,P8 X G a_NoLexicon,ix1 k0_NoLexicon⟩,⟨_,P8 X G a_NoStep,ix1 k0_NoStep⟩,⟨_,P8 X G a_NoNumber,ix1 k0_NoNumber⟩,⟨_,P8 X G a_NoDrawing,ix1 k0_NoDrawing⟩,⟨_,P8 X G a_NoWorld,ix1 k0_NoWorld⟩,⟨_,P8 X G a_NoRow,ix1 k0_NoRow⟩,⟨_,P8 X G a_NoKept,ix1 k0_NoKept⟩⟩;have FI0:=sJ (st:=iV) lI0 cI0 kI0;have hbI0:=bd2 FI0 fun _ _ _ _ _ _ _ _=>rfl;refine CA X G hfa x42 (fun _ _ _ _ _ _ _=>rfl) fun base=>?_;have ga5:=fg X G x0 (nS (P:=l.prog) (w:=w) (base:=base) x0.F T ) (bd1 x0.F fun _ _ _ _ _ _ _=>rfl);have G3:=fg X G x1 (kK (P:=l.prog) (w:=w) (base:=base) x1.F T ) (bd2 x1.F fun _ _ _ _ _ _ _ _=>rfl);have G4:=fg X G x2 (jv (P:=l.prog) (w:=w) (base:=base) x2.F T ) (bd1 x2.F fun _ _ _ _ _ _ _=>rfl);have Y0:=fg X G x3 (lh (P:=l.prog) (w:=w) (base:=base) x3.F T ) (bd1 x3.F fun _ _ _ _ _ _ _=>rfl);have G8:=fg X G x4 (nk (P:=l.prog) (w:=w) (base:=base) x4.F T ) (bd1 x4.F fun _ _ _ _ _ _ _=>rfl);have Y9:=fg X G x5 (nP (P:=l.prog) (w:=w) (base:=base) x5.F T ) (bd1 x5.F fun _ _ _ _ _ _ _=>rfl);have gc1:=fg X G x6 (vJ (P:=l.prog) (w:=w) (base:=base) x6.F T ) (bd1 x6.F fun _ _ _ _ _ _ _=>rfl);have G0:=fg X G x7 (vT (P:=l.prog) (w:=w) (base:=base) x7.F T ) (bd2 x7.F fun _ _ _ _ _ _ _ _=>rfl);have gc0:=fg X G x8 (sx (P:=l.prog) (w:=w) (base:=base) x8.F T Y ) (bd2 x8.F fun _ _ _ _ _ _ _ _=>rfl);have G1:=fg X G x9 (zx (P:=l.prog) (w:=w) (base:=base) x9.F T ) (bd2 x9.F fun _ _ _ _ _ _ _ _=>rfl);have Y8:=fg X G x10 (jG (P:=l.prog) (w:=w) (base:=base) x10.F T ) (bd1 x10.F fun _ _ _ _ _ _ _=>rfl);have Y7:=fg X G x11 (jE (P:=l.prog) (w:=w) (base:=base) x11.F T ) (bd1 x11.F fun _ _ _ _ _ _ _=>rfl);have G6:=fg X G x12 (pO (P:=l.prog) (w:=w) (base:=base) x12.F T ) (bd1 x12.F fun _ _ _ _ _ _ _=>rfl);have ga8:=fg X G x13 (su (P:=l.prog) (w:=w) (base:=base) x13.F T ) (bd1 x13.F fun _ _ _ _ _ _ _=>rfl);have G7:=fg X G x14 (oW (P:=l.prog) (w:=w) (base:=base) x14.F T G4) (bd1 x14.F fun _ _ _ _ _ _ _=>rfl);have gb2:=fg X G x15 (pG (P:=l.prog) (w:=w) (base:=base) x15.F T ga5) (bd1 x15.F fun _ _ _ _ _ _ _=>rfl);have Y3:=fg X G x16 (ni (P:=l.prog) (w:=w) (base:=base) x16.F T G4 G8) (bd2 x16.F fun _ _ _ _ _ _ _ _=>rfl);have ga1:=fg X G x17 (vt (P:=l.prog) (w:=w) (base:=base) x17.F T G0) (bd2 x17.F fun _ _ _ _ _ _ _ _=>rfl);have gb9:=fg X G x18 (tG (P:=l.prog) (w:=w) (base:=base) x18.F T G0) (bd3 x18.F fun _ _ _ _ _ _ _ _ _=>rfl);have gb7:=fg X G x19 (tE (P:=l.prog) (w:=w) (base:=base) x19.F T G0) (bd5 x19.F fun _ _ _ _ _ _ _ _ _ _ _=>rfl);have G5:=fg X G x20 (ma (P:=l.prog) (w:=w) (base:=base) x20.F T G0) (bd2 x20.F fun _ _ _ _ _ _ _ _=>rfl);have gb5:=fg X G x21 (pK (P:=l.prog) (w:=w) (base:=base) x21.F T G6) (bd1 x21.F fun _ _ _ _ _ _ _=>rfl);have Y2:=fg X G x22 (nv (P:=l.prog) (w:=w) (base:=base) x22.F T G6) (bd1 x22.F fun _ _ _ _ _ _ _=>rfl);have gb1:=fg X G x23 (pV (P:=l.prog) (w:=w) (base:=base) x23.F T G3 G7) (bd1 x23.F fun _ _ _ _ _ _ _=>rfl);have gb3:=fg X G x24 (o8 (P:=l.prog) (w:=w) (base:=base) x24.F T G3 G7 gb2) (bd1 x24.F fun _ _ _ _ _ _ _=>rfl);have g_q_kinds_of:=fg X G x25 (nA (P:=l.prog) (w:=w) (base:=base) x25.F T Y3 G8) (bd2 x25.F fun _ _ _ _ _ _ _ _=>rfl);have ga6:=fgY X G x25 (nu (P:=l.prog) (w:=w) (base:=base) x25.F T Y (xr FI0 Y.p0) hbI0 ⟨_,lI0,rfl⟩ Y3 G8) (bd2 x25.F fun _ _ _ _ _ _ _ _=>rfl);have Y5:=fg X G x26 (lE (P:=l.prog) (w:=w) (base:=base) x26.F T ga1) (bd2 x26.F fun _ _ _ _ _ _ _ _=>rfl);have Y4:=fg X G x27 (qI (P:=l.prog) (w:=w) (base:=base) x27.F T gb5) (bd1 x27.F fun _ _ _ _ _ _ _=>rfl);have Y1:=fg X G x28 (nM (P:=l.prog) (w:=w) (base:=base) x28.F T gb1) (bd1 x28.F fun _ _ _ _ _ _ _=>rfl);have Y6:=fg X G x29 (qL (P:=l.prog) (w:=w) (base:=base) x29.F T gb3) (bd1 x29.F fun _ _ _ _ _ _ _=>rfl);have gb4:=fg X G x30 (qq (P:=l.prog) (w:=w) (base:=base) x30.F T Y5 gb9 G0 gb7) (bd2 x30.F fun _ _ _ _ _ _ _ _=>rfl);have ga3:=fg X G x31 (mv (P:=l.prog) (w:=w) (base:=base) x31.F T Y4) (bd1 x31.F fun _ _ _ _ _ _ _=>rfl);have ga9:=fg X G x32 (pP (P:=l.prog) (w:=w) (base:=base) x32.F T Y ga6 gc0) (bd2 x32.F fun _ _ _ _ _ _ _ _=>rfl);have gb0:=fg X G x33 (qf (P:=l.prog) (w:=w) (base:=base) x33.F T Y6) (bd1 x33.F fun _ _ _ _ _ _ _=>rfl);have gb6:=fg X G x34 (qK (P:=l.prog) (w:=w) (base:=base) x34.F T Y2 G6 ga3) (bd1 x34.F fun _ _ _ _ _ _ _=>rfl);have ga4:=fg X G x35 (mL (P:=l.prog) (w:=w) (base:=base) x35.F T Y0 gb0) (bd1 x35.F fun _ _ _ _ _ _ _=>rfl);have ga7:=fg X G x36 (nN (P:=l.prog) (w:=w) (base:=base) x36.F T G3 G4 ga4) (bd1 x36.F fun _ _ _ _ _ _ _=>rfl);have ga0:=fg X G x37 (kz (P:=l.prog) (w:=w) (base:=base) x37.F T Y0 ga7) (bd1 x37.F fun _ _ _ _ _ _ _=>rfl);have G9:=fg X G x38 (lq (P:=l.prog) (w:=w) (base:=base) x38.F T G3 Y1 G7 ga0) (bd1 x38.F fun _ _ _ _ _ _ _=>rfl);have G2:FnD l.prog w K mg base "_law_bent" (0+2) 2 (jJ 0):=fg X G x39 xH (bd2 x39.F fun _ _ _ _ _ _ _ _=>rfl);replace G2:=fg X G x39 (cW (P:=l.prog) (w:=w) (base:=base) x39.F T G5 G0 G2) (bd2 x39.F fun _ _ _ _ _ _ _ _=>rfl);replace G2:=fg X G x39 (cW (P:=l.prog) (w:=w) (base:=base) x39.F T G5 G0 G2) (bd2 x39.F fun _ _ _ _ _ _ _ _=>rfl);replace G2:=fg X G x39 (cW (P:=l.prog) (w:=w) (base:=base) x39.F T G5 G0 G2) (bd2 x39.F fun _ _ _ _ _ _ _ _=>rfl);replace G2:=fg X G x39 (cW (P:=l.prog) (w:=w) (base:=base) x39.F T G5 G0 G2) (bd2 x39.F fun _ _ _ _ _ _ _ _=>rfl);replace G2:=fg X G x39 (cW (P:=l.prog) (w:=w) (base:=base) x39.F T G5 G0 G2) (bd2 x39.F fun _ _ _ _ _ _ _ _=>rfl);replace G2:=fg X G x39 (cW (P:=l.prog) (w:=w) (base:=base) x39.F T G5 G0 G2) (bd2 x39.F fun _ _ _ _ _ _ _ _=>rfl);replace G2:=fg X G x39 (cW (P:=l.prog) (w:=w) (base:=base) x39.F T G5 G0 G2) (bd2 x39.F fun _ _ _ _ _ _ _ _=>rfl);replace G2:=fg X G x39 (cW (P:=l.prog) (w:=w) (base:=base) x39.F T G5 G0 G2) (bd2 x39.F fun _ _ _ _ _ _ _ _=>rfl);have gb8:=fg X G x40 (tJ (P:=l.prog) (w:=w) (base:=base) x40.F T Y8 Y7 Y9 ga8 G1 G9 g_q_kinds_of) (bd2 x40.F fun _ _ _ _ _ _ _ _=>rfl);have ga2:=fg X G x41 (ly (P:=l.prog) (w:=w) (base:=base) x41.F T G2 G1 G9 gb6 Y1 Y2 Y6 Y4) (bd2 x41.F fun _ _ _ _ _ _ _ _=>rfl);exact BE x42.F T gc1 gb4 gb8 ga9 G0 ga1 ga2
end My
namespace PySem.W.Fast
def tw10115818520320833052:=Nat
def tw10122040586185554996:=Nat
def tw10178676341096212298:=Nat
def tw10196059959172131728:=Nat
def tw10257967366194040924:=Nat
def tw10313636265040838738:=Nat
def tw10387420085335027284:=Nat
def tw10396018502915149636:=Nat
def tw10416498346997073206:=Nat
def tw10467048342486311396:=Nat
def tw10584644738198811622:=Nat
def tw10610355799688375825:=Nat
def tw10830452892569570324:=Nat
def tw1089551585451894699:=Nat
def tw10998263104890727219:=Nat
def tw11047655435531583413:=Nat
def tw110733470369498901:=Nat
def tw11078872496609383067:=Nat
def tw11124013151646609297:=Nat
def tw1114869668335154886:=Nat
def tw11226060560364971970:=Nat
def tw11294619832307451049:=Nat
def tw11322773020170290006:=Nat
def tw11483259218183994676:=Nat
def tw1150813339437846724:=Nat
def tw11509005458221355459:=Nat
def tw11581744051148502612:=Nat
def tw11722364645353746078:=Nat
def tw11889033977890940587:=Nat
def tw12061461141028195638:=Nat
def tw12093551161580855189:=Nat
def tw12128957377152779146:=Nat
def tw12218677623890783877:=Nat
def tw12279873531786110753:=Nat
def tw12450429865430633764:=Nat
def tw12522435844903718249:=Nat
def tw12649402060711217462:=Nat
def tw12707751831049911406:=Nat
def tw1272345677914297258:=Nat
def tw12816808530026952641:=Nat
def tw12885654638149536005:=Nat
def tw12917741187340249829:=Nat
def tw12976200904037959918:=Nat
def tw13022558886594210027:=Nat
def tw13153043499427546128:=Nat
def tw13191813676516337159:=Nat
def tw13339610682178831193:=Nat
def tw1338166945769222276:=Nat
def tw13479624912684837105:=Nat
def tw13490687893452049339:=Nat
def tw1356536141705593966:=Nat
def tw13576652162890405460:=Nat
def tw13632543543198160931:=Nat
def tw13643731221920844251:=Nat
def tw13692719830756566720:=Nat
def tw13762986661651619687:=Nat
def tw13846861713606978188:=Nat
def tw13858408663103459404:=Nat
def tw13860708359531577269:=Nat
def tw13945274868321922449:=Nat
def tw14034928842051035056:=Nat
def tw1403784400376804278:=Nat
def tw14094178907810224959:=Nat
def tw14128580936836449465:=Nat
def tw1419178337667075909:=Nat
def tw14253490744002357179:=Nat
def tw14281521692574783530:=Nat
def tw14326801997462389561:=Nat
def tw14334351645736120306:=Nat
def tw14397020352954416238:=Nat
def tw14443989777030550511:=Nat
def tw14473187928434245889:=Nat
def tw1448697123890166418:=Nat
def tw14487404746832712779:=Nat
def tw1461246087561248469:=Nat
def tw14617152899104147641:=Nat
def tw14630280628073154479:=Nat
def tw14728244943600693978:=Nat
def tw14889838596826498219:=Nat
def tw14917337196848626132:=Nat
def tw15171396029145749671:=Nat
def tw1518344235456940461:=Nat
def tw15208215031058869104:=Nat
def tw15312337804035747817:=Nat
def tw15380985461252898869:=Nat
def tw15408093154377457901:=Nat
def tw15474545344878183893:=Nat
def tw15573467852605802757:=Nat
def tw15614263311483701788:=Nat
def tw15624690715519807587:=Nat
def tw15649061861941615320:=Nat
def tw15721160986266035383:=Nat
def tw15770463792154008239:=Nat
def tw15836346164191255889:=Nat
def tw15852022009483494165:=Nat
def tw1588214728421780990:=Nat
def tw15930497554261871527:=Nat
def tw1604671711680942264:=Nat
def tw16057269011882870848:=Nat
def tw16061736888820698036:=Nat
def tw16076287997562358589:=Nat
def tw16152769662243282966:=Nat
def tw162538197981250164:=Nat
def tw162887046383042880:=Nat
def tw16304051122875820508:=Nat
def tw16352211059571792868:=Nat
def tw16362624921924743550:=Nat
def tw16411973739140505148:=Nat
def tw16457042780613733968:=Nat
def tw16458604847302707742:=Nat
def tw16477333192453032995:=Nat
def tw16544472671852331875:=Nat
def tw16565105017044904477:=Nat
def tw16719033039756477005:=Nat
def tw16851670068948465708:=Nat
def tw16906550635841325433:=Nat
def tw16938619105369504965:=Nat
def tw16965796661126581568:=Nat
def tw16969388712695486833:=Nat
def tw17029660397245719310:=Nat
def tw17088866435249953800:=Nat
def tw17239648230465015483:=Nat
def tw17275100286551061745:=Nat
def tw17384532349133490142:=Nat
def tw17416329350827289743:=Nat
def tw17453649703081582102:=Nat
def tw17464220561685639646:=Nat
def tw17513968632989295295:=Nat
def tw17812602051509128186:=Nat
def tw17990498397437396373:=Nat
def tw18008852498380124990:=Nat
def tw18175510212125601345:=Nat
def tw1823554575418316519:=Nat
def tw18249968686410625682:=Nat
def tw18334693495834350868:=Nat
def tw18409729263720974656:=Nat
def tw1842731105571993030:=Nat
def tw1946398096368745522:=Nat
def tw1974391026135530045:=Nat
def tw2008937420481303922:=Nat
def tw2059882432878362080:=Nat
def tw2131581902977370035:=Nat
def tw2144377979178837027:=Nat
def tw2243621915302405211:=Nat
def tw224370090343602519:=Nat
def tw2291503193266549472:=Nat
def tw2357624946278683014:=Nat
def tw2399369869118549273:=Nat
def tw2403457182931372864:=Nat
def tw2408264441340888194:=Nat
def tw247352245868869103:=Nat
def tw2504644367809468758:=Nat
def tw2515346571851643016:=Nat
def tw2656952359222219931:=Nat
def tw2858292864990668983:=Nat
def tw2886979577190620648:=Nat
def tw2950552917481542220:=Nat
def tw3014868355423578130:=Nat
def tw3075101500713860750:=Nat
def tw3079808911582821802:=Nat
def tw3117357378793533526:=Nat
def tw3139784029463930751:=Nat
def tw3156931024847197224:=Nat
def tw3268149983384433892:=Nat
def tw3317461355663879895:=Nat
def tw3322382780602799924:=Nat
def tw3336835650772319352:=Nat
def tw3446144914977296081:=Nat
def tw3539584371768863726:=Nat
def tw3556665713213791066:=Nat
def tw3687631240736835835:=Nat
def tw3751871448713214539:=Nat
def tw3766581576542620249:=Nat
def tw3787767085956584980:=Nat
def tw379775239458428646:=Nat
def tw3812928639574503227:=Nat
def tw3846445927205470835:=Nat
def tw3920655229831146224:=Nat
def tw4199915696659700343:=Nat
def tw4218201362904182704:=Nat
def tw4221745235105754226:=Nat
def tw4243009172564671997:=Nat
def tw4371400684349150314:=Nat
def tw4394362491205362462:=Nat
def tw4456229291862948368:=Nat
def tw4538451624940536415:=Nat
def tw459103292795283601:=Nat
def tw4703032207164857075:=Nat
def tw4730862307347553078:=Nat
def tw4869252326743519544:=Nat
def tw5088998845854373645:=Nat
def tw5113821719963914362:=Nat
def tw5162571580559230238:=Nat
def tw5179149781080367399:=Nat
def tw5209894731050639418:=Nat
def tw5221996227454739011:=Nat
def tw5228698399360451194:=Nat
def tw5248666845868424697:=Nat
def tw5418894205563034501:=Nat
def tw5541953024335465642:=Nat
def tw5561985084962035769:=Nat
def tw5566431396139043500:=Nat
def tw5629858274941197163:=Nat
def tw5636485180517267249:=Nat
def tw5641459964190259980:=Nat
def tw5674621123668350311:=Nat
def tw5702410888335158363:=Nat
def tw5719448335312190083:=Nat
def tw579898969093773859:=Nat
def tw5803201961488116613:=Nat
def tw5906733988125524299:=Nat
def tw5919195648813798536:=Nat
def tw5933149465020054857:=Nat
def tw593693524053660180:=Nat
def tw6019086521324296631:=Nat
def tw6053651222824610614:=Nat
def tw6061773943290958444:=Nat
def tw6109577253701975855:=Nat
def tw6178781348766763417:=Nat
def tw6186737988584660999:=Nat
def tw6231989648259638470:=Nat
def tw6249634130741985289:=Nat
def tw6286592038711220505:=Nat
def tw6500488111011072751:=Nat
def tw6559416344204125091:=Nat
def tw6571493456155329411:=Nat
def tw6584776367891164767:=Nat
def tw6657659183979282925:=Nat
def tw6660968744628615975:=Nat
def tw6682794773532337096:=Nat
def tw6727033246811958562:=Nat
def tw6768947200164119775:=Nat
def tw6792501905083198128:=Nat
def tw6799290883828030259:=Nat
def tw6903498059577761281:=Nat
def tw6916692132389354335:=Nat
def tw7031558510404318628:=Nat
def tw7163668539383060062:=Nat
def tw7260699758494129211:=Nat
def tw7273392573181565615:=Nat
def tw7281941830746674137:=Nat
def tw7297571782506115618:=Nat
def tw7313129510874349058:=Nat
def tw7567193869169550396:=Nat
def tw7717011106238414027:=Nat
def tw7930311043640368151:=Nat
def tw8046100012266575901:=Nat
def tw8131500489132190823:=Nat
def tw8161971632011680794:=Nat
def tw817564717078724449:=Nat
def tw8231853534515791268:=Nat
def tw8325519369606871470:=Nat
def tw8348540368607585804:=Nat
def tw8402129378657631648:=Nat
def tw8500249503816461733:=Nat
def tw8587857845637633539:=Nat
def tw8627362323226659019:=Nat
def tw8660019462047548904:=Nat
def tw8682708734161903525:=Nat
def tw8694181869076185692:=Nat
def tw8700254923294624498:=Nat
def tw8726776152461924331:=Nat
def tw8779920299282255158:=Nat
def tw8831526332248308045:=Nat
def tw8933646933891017943:=Nat
def tw8945674013961465413:=Nat
def tw8990199481818738076:=Nat
def tw9002488710129074632:=Nat
def tw903843664285033116:=Nat
def tw9038537489181577190:=Nat
def tw9135903901745363004:=Nat
def tw9176422013435578229:=Nat
def tw9179401379347416815:=Nat
def tw9283216083704010658:=Nat
def tw9290739561178753023:=Nat
def tw9319664691660087544:=Nat
def tw9454282521199636177:=Nat
def tw9511055895084126929:=Nat
def tw9601207143366417058:=Nat
def tw9601429404234920292:=Nat
def tw9634355790798069461:=Nat
def tw9746382264633771817:=Nat
def tw9774861989689279458:=Nat
def tw9805237872738547675:=Nat
def tw982149636796001012:=Nat
def tw9838780409347630218:=Nat
def tw993349795531432842:=Nat
def tw9946176839695848238:=Nat
def tw9963035573306298614:=Nat
def tw9970645448005376078:=Nat
end PySem.W.Fast
open PySem PySem.W PyProof.Rows
set_option maxRecDepth 100000 in
set_option maxHeartbeats 0 in
theorem PySem.Challenge.cw_wordwishes_k07_lexicons_of_any_things_holds : PySem.Challenge.rw_wordwishes_k07_lexicons_of_any_things.Holds := by
 w_on;o_law;z_head;(case hw=>w_witness2)
 k_fill
 refine L2.yg (fun _=>rfl) ?_;refine L2.E9 (S:=My.S_law) My.En (k:=12) (x:="_law_script") (l:=PySem.Challenge.rw_wordwishes_k07_lexicons_of_any_things) ⟨rfl,by decide,by decide⟩ rfl rfl (fun w h Y=>Y) ?F
 case F =>
  intro w mg fa h KX G hmg
  refine' My.BJ KX G hmg ?_ ?_ ?_ ?_ ?_ ?_ ?_ ?_ ?_ ?_ ?_ ?_ ?_ ?_ ?_ ?_ ?_ ?_ ?_ ?_ ?_ ?_ ?_ ?_ ?_ ?_ ?_ ?_ ?_ ?_ ?_ ?_ ?_ ?_ ?_ ?_ ?_ ?_ ?_ ?_ ?_ ?_ ?_ ?_ ?_ ?_ ?_ ?_ ?_ ?_ ?_ ?_ ?_ ?_ ?_ ?_ ?_ ?_ ?_ ?_ ?_ ?_ ?_ ?_ ?_ ?_ ?_ ?_ ?_ ?_ ?_ ?_ ?_ ?_ ?_ ?_ ?_ ?_ ?_ ?_ ?_ ?_ ?_ ?_ ?_ ?_ ?_ ?_ ?_ ?_ ?_ ?_ ?_ ?_ ?_ ?_ ?_ ?_ ?_ ?_ ?_ ?_ ?_ ?_ ?_ ?_ ?_
  all_goals try first|exact L2.Es (by k_is) (by k_is) (by k_is) (by k_is)|exact L2.sJ (by k_is) (by k_is) (by k_is)|k_is|exact rfl
