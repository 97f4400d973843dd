import PyProof.Rows.All
import Wide.All
import OpenK.AllK
import Wide.FinOn
import Lean
import PyProof.EqAt
import PyProof.EqKinds
import PyProof.TupleCall
import KE.KRevIter
import PyProof.NeKinds
import PyProof.Draws
import PyProof.EnumMake
import KE.KSortTup
import PyProof.ZipIter
import KE.KDictList
import PyProof.AttrMissHeap
import KE.KDictOf
import PyProof.Rows.SetFrom
import PyProof.Rows.SortRunsK
import PyProof.IsRules
import PyProof.SetRoads
import KE.KSortKey
import PyProof.RulesDel
import PyProof.DelItemList
import PySem.Challenge.RW_wordwishes_k52_words_put_in_and_taken_ou
set_option Elab.async false
set_option linter.all false
set_option maxRecDepth 100000
set_option maxHeartbeats 4000000
set_option bootstrap.genMatcherCode false
set_option compiler.extract_closed false
noncomputable section
open PySem renaming wpAny_bind->o0,Value->u8,wpAny_pure->E6,Shared->E9,starEach->F3,Addr->F4,sizeLine->F9,wpAny->J0,mainGlobals->J8,Heap->K3,FuncData->K4,Program->K9,model->L4,Spec->M6,Builtin->M7,Around->M8,Expr->N1,SetTable->N4,wpAny_holding->N6,compareOp->P2,wpAny_mono->P5,World->P7,wpAny_loadPart_at->R6,wpAny_ite_false->S2,NameKind->T0,mem_of_lookup->T5,excClassObj->T6,backTo->U6,codeAny_builtin->U8,wpAny_truthy_bool->U9,wpAny_newObj_type->V0,PassesOwn->V2,attributeBase->V3,wpAny_Call_Name_kw->V5,codeAny_call_builtin->W1,assignEach->W5,foldedSetIterable->W6,binaryOp->X5,Stmt->Z7,eval->aa2,wpAny_call_entry->aa4,bootBuiltins->aa5,wpAny_execs_nil->ab9,wpAny_passesOwn->ac0,wpAny_setState_of->ac4,codeAny_mono->ac5,wpAny_getItem_str_slice->ac8,Paired->ad3,wpAny_forIn_list->ad5,wpAny_call->ad6,wpAny_loadPart'->ae3,wpAny_field->ae4,keywordEach->ae5,scanBound->ae9,behindInMarks->af0,wpAny_pyIter_list->af2,Scope->af7,cLine->af9,DictEntry->ag2,wpAny_loadPart->ag3,wpAny_execs_cons->ag4,Keyword->ag6,wpAny_isSubtype_exc->ag7,call_meets->ah0,swapsWith->ah5,letOwnedTupleGo->ah6,wpAny_specialOf->ai3,sizeLine_eq->ai7,sliceBounds->aj0,wpAny_storeSet_of->aj5,fits_of_scanBound->aj6,wpAny_ite_true->ak2,holding->ak9,GenState->al3,wpAny_standAt->al4,Comprehension->al5,plainId_quiet->al6,wpAny_rule->al7,codeAny->am1,post_val_or_str->am3,codeAny_of_tree->am4,wpAny_load'->am7,assign->an1,wpAny_typeOf->an3,backToKw->an4,wpAny_of_eq->ao5,relayAll->ao6,setSearchFrom->ao8,wpAny_attempt->ao9,setAddHashed->ap4,typeIs_str->ap6,typeIs_int->ap7,rawInt->ap8,callerA->aq1,unsupported->aq3,OwnTail->aq5,pyNext->aq6,nsFind->aq7,IsPart->aq8,noteFrame->aq9,sysModules->ar0,BindsTo->ar1,getItem->ar2,strKind_is->ar4,reduceHash->ar5,isInstance->ar6,Model->ar7,Data->ar8,call->ar9,CmpOp->as0,standAt->as1,lastMarks->as2,Result->as3,cellsFrom->as4,valueAt->as6,putSet_of->as8,pyIter->as9,Code->at2
open List renaming getElem?_eq_getElem->E4,length_map->E8,size_toArray->F1,length_append->F2,replicate->F5,getElem?_map->F7,mem_cons->J3,getElem?_eq_some_iff->J4,all_eq_true->J7,map_cons->K0,mem_map->K5,mem_cons_of_mem->K6,mem_of_getElem?->K7,mem_singleton->L6,map_append->L7,getElem_mem->L8,getD_eq_getElem?_getD->L9,mem_append_right->M0,nil_append->N0,length_cons->O0,lookup_cons->O1,mem_range->O4,length_take->O7,filter_eq_self->O8,getElem?_set_self->P8,mem_cons_self->Q0,mem_append->Q3,filterMap_cons->Q5,getElem?_append_left->Q6,replicate_succ->Q7,range->Q8,map_map->Q9,getElem?_eq_none->S0,getElem?_cons_succ->S1,all_map->S6,mem_iff_getElem->S7,take_of_length_le->S8,nodup_cons->T4,not_mem_nil->T7,getElem?_append_right->U1,mem_append_left->U3,getElem?_set_ne->U4,mem_filterMap->U5,nodup_append->V1,append_nil->V4,all_cons->V6,getElem?_cons_zero->V8,length_drop->W3,map_congr_left->W7,take_add_one->W8,drop_eq_getElem_cons->X0,foldl_cons->X3,getElem?_take_of_lt->X7,length->X9,any_eq_true->Z0,getElem?_replicate->Z4,flatten_cons->Z8,find?_cons->aa0,length_replicate->aa6,any_cons->aa8,length_singleton->aa9,mem_of_mem_take->ab7,mem_filter->ab8,map_take->ad1,drop_eq_nil_of_le->ad7,mem_iff_getElem?->ae6,length_nil->ae7,cons->ae8,getElem?_append->ag0,take_length->ag5,map_nil->ah1,length_set->ah8,map_drop->ai1,reverse_cons->aj1,append_assoc->aj2,ext_getElem?->aj4,length_range->aj7,nodup_nil->ak3,Perm->ao0,range'->ao4,lookup->aq2,foldl->ar3
open PySem.W renaming Frag->E5,nsIn->M9,mg_none_of->N9,findIn->O5,kitOne->O6,mg_of->P9,keepIn->U7,hideAll_get->W4,hideAll_none->Z1,fnOf->aa7,mroIn->af5,of_hideAll->ah4,callWith_K->ah7,specialIn->aj8,codeIn->aj9,hideAll->am0,Looks->am9,lookIn->an6,clsIn->ap0
open PySem.Heap renaming get?_push_of_some->E7,lt_size->I0,get?_push_size->K1,get?_update_other->L5,get?_update_self->P3,SameBut->Q4,get?_none_of_le->S5,size_push->ab3
open Bool renaming false_eq_true->F0,and_eq_true->F8,false_and->K2,eq_iff_iff->O2,true_and->O3,false_ne_true->P6,and_false->R8,not_true->Z6,eq_false_iff->Z9,and_self->af6,and_true->ai2,not_false->ak0,false_xor->an7
open Nat renaming le_refl->F6,lt_of_lt_of_le->H0,ne_of_lt->K8,le_trans->O9,zero_le->P1,lt_or_ge->P4,lt_succ_of_lt->U0,lt_irrefl->Z3,lt_succ_self->ad4,le_of_lt->ae0,ne_of_gt->ae1,le_succ->aj3,mul_comm->ak5,pow_succ->ak6,mod_lt->al8,min_eq_left->an0,sub_self->an5,add_assoc->ao7,succ_pos->ap5,pow_add->aq4
open Array renaming length_toList->J1,getElem?_eq_getElem->N5,getElem?_eq_some_iff->P0,getD_eq_getD_getElem?->R4,getElem?_toList->R9,getD->X8,getElem?_setIfInBounds->Z5,forIn_toList->ai4,replicate->am5
open PySem.Str renaming ofString->J5
open PySem.Value renaming ref->J6,none->J9,type->N3,builtin->af1,bool->ai6,int->ak4,str->an8
open PySem.F renaming called_set->N7,plainAttrs_list->ac9,slot_tuple_hash->af4,excAttr_ValueError->ag1,slot_int_rmul->am2
open Or renaming inl->N8,inr->ap1
open Option renaming some->R0,isSome_iff_exists->X6,bind_some->al1
open Option.some renaming inj->R1,injEq->ac3
open PyProof.Rows renaming slot_tuple_getitem->R3,KeyOrd->ab6,envOfC->ac6,AllBare->ak8,IsTup->al9,kindOf->an2,seqObj->ao1,IntsAre->as5
open Bind renaming bind->R5
open PySem.PassesOwn renaming never->R7
open Int renaming toNat_natCast->S3,eq_ofNat_of_zero_le->ad2,emod_lt_of_pos->ad9,toNat_of_nonneg->ag9,zero_add->ah3,emod_nonneg->ai0
open PySem.Builtin.Tuple renaming tupleHashOf->S4,tupleExact->S9,tupleItemsOf->aa3
open PySem.SeqAt renaming EqAt->T8
open False renaming elim->T9
open Ne renaming symm->U2
open ForInStep renaming yield->V7
open PyProof.Rows.F renaming plain_set_update_loop->V9,entry_set_update_loop->ad0
open PySem.Around renaming under_plainId->W0
open PySem.NameKind renaming free->W9,cell->ah9
open PySem.Obj renaming mapFields->X1,dropNameByArray->ag8,putSet->ah2,data_mapFields->ai5,mapSeq->ai9,dropName_eq->am8
open List.cons renaming injEq->X4
open PySem.Heap.SameBut renaming update->aa1
open PySem.Builtin.Slice renaming slicePlaces->ab0
open PySem.SetTable renaming grown->ab4,fresh->ak1
open Classical renaming byContradiction->ab5
open PySem.Builtin.List renaming listTooLong->ac1
open PyProof.Rows.KeyOrd renaming kle_refl->ac2,kle_of_klt->af3,kle_trans->al0
open PySem.Builtin.Str renaming occurrences->ac7
open PySem.Code renaming quiet_builtin->ad8,compLoop->ao3
open PySem.Data renaming fields->ae2,dict->an9,seq->ao2
open Pure renaming pure->af8
open PySem.Calls renaming spliced_nil->ai8
open PySem.W.Looks renaming here->ak7
open Eq renaming refl->am6
open PySem.Txt renaming slice->ap2,slice_le->ap3
open Sum renaming inl->ap9,inr->aq0
open LawfulMonad renaming pure_bind->as7
set_option compiler.extract_closed false
namespace L2
open PySem PySem.Spec PyProof.Rows
abbrev Key:=Sum Int Str
def zV:Key->u8->Bool
 |.inl k,v=>u8.isInt k v
 |.inr x,v=>u8.isStrOf x v
noncomputable def EC(w:P7):Key->Int
 |.inl k=>hashInt k
 |.inr x=>hashStr w x
theorem bu:∀{k:Key}{v:u8},zV k v=true->(∃i t,k=ap9 i/\v=ak4 i t)∨(∃x t,k=aq0 x/\v=an8 x t)
 |.inl i,v,h=>by
  obtain⟨t,e⟩:=u8.isInt_shape (k:=i) (v:=v) h;exact .inl ⟨i,t,rfl,e⟩
 |.inr x,v,h=>by
  obtain⟨t,e⟩:=u8.isStrOf_shape (x:=x) (v:=v) h;exact .inr ⟨x,t,rfl,e⟩
theorem B3(a b:Int):decide ((ap9 a:Key)=ap9 b)=(a==b):=by
 by_cases e:a=b
 ·subst e;simp
 ·have h:¬ (ap9 a:Key)=ap9 b:=λq=>e (ap9.inj q);rw[decide_eq_false h];exact(beq_eq_false_iff_ne.mpr e).symm
theorem Bs(a b:Str):decide ((aq0 a:Key)=aq0 b)=decide (a=b):=by
 by_cases e:a=b
 ·subst e;simp
 ·have h:¬ (aq0 a:Key)=aq0 b:=λq=>e (aq0.inj q);rw[decide_eq_false h,decide_eq_false e]
theorem Be(a:Int)(b:Str):decide ((ap9 a:Key)=aq0 b)=false:=decide_eq_false (λq=>nomatch q)
theorem Bc(a:Str)(b:Int):decide ((aq0 a:Key)=ap9 b)=false:=decide_eq_false (λq=>nomatch q)
def tS(prog:K9)(w:P7):PySem.KeyKind prog w Key where
 is:=zV
 hash:=EC w
 inj:=λv a b n m=>by
  rcases bu n with⟨i,t,rfl,rfl⟩|⟨x,t,rfl,rfl⟩
  ·rcases bu m with⟨j,u,rfl,e⟩|⟨y,u,rfl,e⟩
   ·injection e with g _;rw[g]
   ·exact nomatch e
  ·rcases bu m with⟨j,u,rfl,e⟩|⟨y,u,rfl,e⟩
   ·exact nomatch e
   ·injection e with g _;rw[g]
 byValue:=λk v h=>by
  rcases bu h with⟨i,t,rfl,rfl⟩|⟨x,t,rfl,rfl⟩<;>rfl
 pyHash:=λl h=>by
  rcases bu l with⟨i,t,rfl,rfl⟩|⟨x,t,rfl,rfl⟩
  ·exact wpAny_pyHash_int h
  ·exact wpAny_pyHash_str h
 eqBool:=λo l h=>by
  rcases bu o with⟨i,t,rfl,rfl⟩|⟨x,t,rfl,rfl⟩
  ·rcases bu l with⟨j,u,rfl,rfl⟩|⟨y,u,rfl,rfl⟩
   ·rw[B3]at h;exact wpAny_eqBool_int h
   ·rw[Be]at h;exact T8.int_str i t y u _ _ _ _ h
  ·rcases bu l with⟨j,u,rfl,rfl⟩|⟨y,u,rfl,rfl⟩
   ·rw[Bc]at h;exact T8.str_int x t j u _ _ _ _ h
   ·rw[Bs]at h;exact wpAny_eqBool_str h
 «strs»:=λk x t v h=>by
  rcases bu h with⟨i,u,rfl,e⟩|⟨y,u,rfl,e⟩
  ·exact nomatch e
  ·injection e with g _
   subst g;cases v<;>rfl
inductive V where
 |non|bl (b:Bool)|int (i:Int)|str (x:Str)|byt (b:Array UInt8)|flt (b:UInt64)|ref (a:F4)|ty (n:String)
 deriving DecidableEq
def aM:V->u8->Prop
 |.non,u=>u=J9
 |.bl b,u=>u=ai6 b
 |.int i,u=>∃t,u=ak4 i t
 |.str x,u=>∃t,u=an8 x t
 |.byt b,u=>∃t,u=u8.bytes b t
 |.flt b,u=>∃t,u=u8.float b t
 |.ref a,u=>u=J6 a
 |.ty n,u=>u=N3 n
abbrev aw:List V->List u8->Prop:=ad3 aM
theorem aw.length{xs:List V}{us:List u8}(r:aw xs us):xs.length=us.length:=ad3.length r
theorem aw.get:∀{xs:List V}{us:List u8}{i:Nat}{x:V},aw xs us->xs[i]?=some x->∃u,us[i]?=some u/\aM x u
 |_,_,_,_,.nil,e=>by simp at e
 |_,_,0,_,.cons r _,e=>by simp at e;subst e;exact⟨_,rfl,r⟩
 |_,_,i+1,x,.cons _ t,e=>by
  obtain⟨u,a,b⟩:=aw.get (i:=i) (x:=x) t (by simpa using e);exact⟨u,by simpa using a,b⟩
theorem aw.set{x:V}{u:u8}(r:aM x u):∀{xs:List V}{us:List u8}(i:Nat),aw xs us->aw (xs.set i x) (us.set i u)
 |_,_,_,.nil=>.nil
 |_,_,0,.cons _ t=>.cons r t
 |_,_,i+1,.cons q t=>.cons q (aw.set r i t)
theorem aw.append:∀{xs a:List V}{us ws:List u8},aw xs us->aw a ws->aw (xs++a) (us++ws)
 |_,_,_,_,.nil,s=>s
 |_,_,_,_,.cons r t,s=>.cons r (aw.append t s)
theorem aw.take:∀{xs:List V}{us:List u8}(n:Nat),aw xs us->aw (xs.take n) (us.take n)
 |_,_,0,_=>.nil
 |_,_,_+1,.nil=>.nil
 |_,_,n+1,.cons r t=>.cons r (aw.take n t)
theorem aw.drop:∀{xs:List V}{us:List u8}(n:Nat),aw xs us->aw (xs.drop n) (us.drop n)
 |_,_,0,r=>r
 |_,_,_+1,.nil=>.nil
 |_,_,n+1,.cons _ t=>aw.drop n t
def xy:Option V->Option u8->Prop
 |some v,some u=>aM v u
 |none,none=>True
 |_,_=>False
def KV{κ:Type}:List (κ×V)->List (κ×u8)->Prop:=ad3 λ(p:κ×V) (q:κ×u8)=>p.1=q.1/\aM p.2 q.2
def kV:Key->V
 |.inl i=>.int i
 |.inr x=>.str x
inductive HO where
 |lst (xs:List V)
 |tup (xs:List V)
 |dK (kvs:List (Key×V))|dT (kvs:List (List Key×V))
 |set (S:Int->Bool) (n:Nat)
 |ins (C dx:F4) (fs:List (Str×V))
 |own (x:F4)
 |xd (fs:List (Str×V))
 |met (f x:F4)
 |rng (lo hi:Int)
 |frz (o:Obj) (u:HO)
 |tbl (ps:Array u8)
 |ext (φ:K3->Prop)
abbrev Hp:=F4->Option HO
def upd(H:Hp)(a:F4)(o:HO):Hp:=λb=>if b=a then some o else H b
theorem aX{H:Hp}{a:F4}{o:HO}:upd H a o a=some o:=by unfold upd;rw[if_pos rfl]
theorem aG{H:Hp}{a b:F4}{o:HO}(h:b≠a):upd H a o b=H b:=by unfold upd;rw[if_neg h]
theorem yo{H:Hp}{a:F4}{o u:HO}:upd (upd H a o) a u=upd H a u:=by
 funext b;unfold upd;split<;>rfl
theorem cp{H:Hp}{a b:F4}{o:HO}(h:H a=some o)(h':H b=none):a≠b:=by
 intro e;subst e;rw[h]at h';cases h'
def kl(h:K3)(a:F4)(xs:Array u8):Prop:=∃o,h.get? a=some o/\o.cls=.type "tuple"/\(∃n,o.data=.seq xs n)/\o.dict=none
theorem kl.tup{h:K3}{a:F4}{xs:Array u8}(x:kl h a xs):al9 h a xs:=let⟨o,e,c,d,_⟩:=x;⟨o,e,c,d⟩
theorem kl.lt{h:K3}{a:F4}{xs:Array u8}(x:kl h a xs):a<h.objs.size:=let⟨_,e,_⟩:=x;I0 e
theorem kl.new(h:K3)(xs:Array u8):kl (h.push { cls:=.type "tuple",data:=.seq xs }) h.objs.size xs:=⟨_,K1 h rfl,rfl,⟨_,rfl⟩,rfl⟩
section
variable(P:K9) (w:P7)
def bT(H:Hp)(h:K3)(a:F4):HO->Prop
 |.lst g=>g.length<=F9/\∃(b:List u8) (n:Nat),aw g b/\h.get? a=some { cls:=.type "list",data:=.seq b.toArray n }
 |.tup g=>g.length<=F9/\∃b:List u8,aw g b/\kl h a b.toArray
 |.dK e=>e.length<=F9/\(a==ar0)=false/\∃s,KV e s/\h.DictOf (tS P w) a s
 | .dT e => e.length ≤ F9 ∧ (a == ar0) = false ∧ ∃ g:List (List Key × F4 × u8),
   ad3 (λ(p:List Key×V) (q:List Key×F4×u8)=>p.1=q.1/\H q.2.1=some (.tup (p.1.map kV))/\aM p.2 q.2.2) e g /\
   ∃o m G,h.get? a=some o/\o.ExactDict/\o.data=.dict m G/\m.toList=g.map (entryOfKey (tupleKind (tS P w)))/\(g.map (·.1)).Nodup
 |.set S n=>h.SetOf (intKind P w) a S n
 | .ins C j fs => H j = some (.own a) ∧ fs.length ≤ 1000 ∧ j ≠ a ∧ h.get? a = some (PySem.W.instObj C j) ∧
   ∃i,h.Ns1 j i/\(∀f,xy (fs.lookup f) (i f))/\PySem.Within i (fs.map (·.1))
 |.own _=>∃o,h.get? a=some o
 |.xd fs=>∃i,h.Ns1 a i/\∀f,xy (fs.lookup f) (i f)
 |.rng lo B=>∃t u v,h.get? a=some { cls:=.type "range",data:=.fields #[.int lo t,.int B u,.int 1 v] }
 |.frz o u=>h.get? a=some o/\bT H h a u
 |.tbl E=>h.get? a=some { cls:=.none,data:=.fields E }
 |.met f x=>h.get? a=some (PySem.W.methodObj (.ref f) (.ref x))
 |.ext l=>l h/\(∃o,h.get? a=some o)/\∀z A:K3,l z->(∀o,z.get? a=some o->A.get? a=some o)->l A
def HOk(H:Hp)(h:K3):Prop:=∀a o,H a=some o->bT P w H h a o
end
section
variable{P:K9}{w:P7}{H g:Hp}{h h':K3}{a:F4}{o:HO}
theorem bT.lt(x:bT P w H h a o):a<h.objs.size:=by
 cases o with
 |lst g=>obtain⟨_,_,_,_,e⟩:=x;exact I0 e
 |tup g=>obtain⟨_,_,_,p⟩:=x;exact p.lt
 |dK b=>obtain⟨_,_,_,_,o,_,_,e,_⟩:=x;exact I0 e
 |dT b=>obtain⟨_,_,_,_,o,_,_,e,_⟩:=x;exact I0 e
 |set S n=>obtain⟨o,_,_,_,e,_⟩:=x;exact I0 e
 |ins C j fs=>obtain⟨_,_,_,e,_⟩:=x;exact I0 e
 |own y=>obtain⟨_,e⟩:=x;exact I0 e
 |xd fs=>obtain⟨_,⟨_,_,_,e,_⟩,_⟩:=x;exact I0 e
 |rng lo l=>obtain⟨_,_,_,e⟩:=x;exact I0 e
 |frz q u=>obtain⟨e,_⟩:=x;exact I0 e
 |tbl i=>exact I0 (show h.get? a=some _ from x)
 |met f y=>exact I0 (show h.get? a=some _ from x)
 |ext m=>obtain⟨_,⟨_,e⟩,_⟩:=x;exact I0 e
theorem ad3.mapP{h i:Type}{F G:h->i->Prop}:∀{g:List h}{e:List i},ad3 F g e->(∀a b,F a b->G a b)->ad3 G g e
 |_,_,.nil,_=>.nil
 |_,_,.cons r t,f=>.cons (f _ _ r) (ad3.mapP t f)
theorem ad3.imp'{h i:Type}{F G:h->i->Prop}(f:∀a b,F a b->G a b){e:List h}{g:List i}(r:ad3 F e g):ad3 G e g:=ad3.mapP r f
theorem bT.stay(x:bT P w H h a o)(k:∀b u,(b=a∨H b=some (.own a))->h.get? b=some u->h'.get? b=some u)
  (J:∀b,H b=some (.own a)->g b=some (.own a)) (G:∀b xs,H b=some (.tup xs)->g b=some (.tup xs)):bT P w g h' a o:=by
 induction o with
 |lst xs=>obtain⟨z,m,n,r,e⟩:=x;exact⟨z,m,n,r,k _ _ (.inl rfl) e⟩
 |tup xs=>obtain⟨z,m,r,i,e,c⟩:=x;exact⟨z,m,r,i,k _ _ (.inl rfl) e,c⟩
 |dK s=>obtain⟨z,y,I,r,i,j,l,e,c⟩:=x;exact⟨z,y,I,r,i,j,l,k _ _ (.inl rfl) e,c⟩
 |dT s =>
  obtain⟨z,y,xs,r,i,j,l,e,c⟩:=x;exact⟨z,y,xs,ad3.mapP r λp q z=>⟨z.1,G _ _ z.2.1,z.2.2⟩,i,j,l,k _ _ (.inl rfl) e,c⟩
 |set S n=>obtain⟨i,j,l,t,e,c⟩:=x;exact⟨i,j,l,t,k _ _ (.inl rfl) e,c⟩
 |ins C O fs =>
  obtain⟨d,z,L,e,A,⟨B,j,l,M,c⟩,r⟩:=x;exact⟨J _ d,z,L,k _ _ (.inl rfl) e,A,⟨B,j,l,k _ _ (.inr d) M,c⟩,r⟩
 |own y=>obtain⟨i,e⟩:=x;exact⟨i,k _ _ (.inl rfl) e⟩
 |xd fs=>obtain⟨A,⟨B,j,l,e,c⟩,r⟩:=x;exact⟨A,⟨B,j,l,k _ _ (.inl rfl) e,c⟩,r⟩
 |rng lo Q=>obtain⟨t,u,v,e⟩:=x;exact⟨t,u,v,k _ _ (.inl rfl) e⟩
 |frz i u ih=>obtain⟨e,q⟩:=x;exact⟨k _ _ (.inl rfl) e,ih q⟩
 |tbl E =>
  have e:h.get? a=some { cls:=.none,data:=.fields E }:=x;show h'.get? a=some { cls:=.none,data:=.fields E };exact k a _ (.inl rfl) e
 |met f y =>
  have e:h.get? a=some (PySem.W.methodObj (.ref f) (.ref y)):=x;show h'.get? a=some (PySem.W.methodObj (.ref f) (.ref y));exact k a _ (.inl rfl) e
 |ext N=>obtain⟨p,⟨o,e⟩,st⟩:=x;exact⟨st _ _ p λo q=>k _ _ (.inl rfl) q,⟨o,k _ _ (.inl rfl) e⟩,st⟩
theorem HOk.lt(x:HOk P w H h)(e:H a=some o):a<h.objs.size:=(x a o e).lt
theorem HOk.fresh(x:HOk P w H h)(e:h.objs.size<=a):H a=none:=by
 cases q:H a with
 |none=>rfl
 |some u=>exact absurd (H0 (x.lt q) e) (Z3 _)
theorem HOk.kept(x:HOk P w H h)(k:∀b u,h.get? b=some u->h'.get? b=some u):HOk P w H h':=λa o e =>
 (x a o e).stay (λb u _ q=>k b u q) (λ_ q=>q) λ_ _ q=>q
theorem HOk.laid(x:HOk P w H h)(k:∀b u,h.get? b=some u->h'.get? b=some u)(j:h.objs.size<=a)(new:bT P w (upd H a o) h' a o):HOk P w (upd H a o) h':=λb u e=>by
 have i:=x.fresh j
 by_cases g:b=a
 ·subst g;rw[aX]at e;cases e;exact new
 ·rw[aG g]at e;exact(x b u e).stay (λc v _ q=>k c v q) (λc q=>by rw[aG (cp q i)];exact q) λc l q=>by rw[aG (cp q i)];exact q
end
def Rd(H:Hp)(a:F4)(u:HO):Prop:=H a=some u∨∃o,H a=some (.frz o u)
theorem Rd.of{H:Hp}{a:F4}{u:HO}(h:H a=some u):Rd H a u:=.inl h
theorem Rd.ok{P:K9}{w:P7}{H:Hp}{h:K3}{a:F4}{u:HO}(r:Rd H a u)(x:HOk P w H h):bT P w H h a u:=by
 rcases r with r|⟨o,r⟩
 ·exact x a u r
 ·obtain⟨_,q⟩:=x a _ r;exact q
def Mut:Option HO->Prop
 |some (.lst _)=>True
 |some (.dK _)=>True
 |some (.dT _)=>True
 |some (.set _ _)=>True
 |some (.ins _ _ _)=>True
 |some (.ext _)=>True
 |_=>False
section
variable{P:K9}{w:P7}{H:Hp}{h h':K3}{x e:F4}{g:HO}
theorem HOk.write(ok:HOk P w H h)(n:Mut (H x))(he:e=x∨H e=some (.own x))(k:∀b u,b≠e->h.get? b=some u->h'.get? b=some u)(p:∃u,h'.get? e=some u)
  (new:bT P w (upd H x g) h' x g):HOk P w (upd H x g) h':=λb u q=>by
 have i:∀c y,H c=some (.own y)->c≠x:=λc y r z=>by subst z;rw[r]at n;exact n
 have j:∀c o,H c=some (.tup o)->c≠x:=λc o r z=>by subst z;rw[r]at n;exact n
 by_cases l:b=x
 ·subst l;rw[aX]at q;cases q;exact new
 ·rw[aG l]at q
  by_cases a:b=e
  ·have s:H b=some (.own x):=by
    rcases he with z|z
    ·exact absurd (a.trans z) l
    ·rw[a];exact z
   rw[q]at s;cases s;obtain⟨v,t⟩:=p;exact⟨v,by rw[a];exact t⟩
  ·refine(ok b u q).stay (λc v m r=>k c v ?_ r) (λc r=>by rw[aG (i c b r)];exact r) λc o r=>by rw[aG (j c o r)];exact r
   rcases m with rfl|m
   ·exact a
   ·rintro rfl;rcases he with z|z
    ·exact i c b m z
    ·rw[m]at z;cases z;exact l rfl
end
structure Un(fs ex:List F4) (H H':Hp) (h h':K3):Prop where
 keep:∀b o,h.get? b=some o->H b=none->b∉fs->b∉ex->h'.get? b=some o
 slot:∀b o,h.get? b=some o->H b=none->b∈fs->b∉ex->∃sl,h'.get? b=some { o with slots:=sl }
 free:∀b o,h.get? b=some o->H b=none->b∉ex->H' b=none
 there:∀b o,h.get? b=some o->b∉ex->∃o',h'.get? b=some o'
 tups:∀b xs,H b=some (.tup xs)->H' b=some (.tup xs)
 frzs:∀b o u,H b=some (.frz o u)->H' b=some (.frz o u)
 tbls:∀b ps,H b=some (.tbl ps)->∃more,H' b=some (.tbl (ps++more))
section
variable{fs y g B:List F4}{H G I:Hp}{h p W h':K3}{a x e:F4}{o:HO}
theorem Un.any(u:Un fs g H G h p){b:F4}{a:Obj}(q:h.get? b=some a)(n:H b=none)(e:b∉g):∃j,p.get? b=some { a with slots:=j }:=by
 by_cases i:b∈fs
 ·exact u.slot b a q n i e
 ·exact⟨a.slots,u.keep b a q n i e⟩
theorem Un.kept(k:∀b u,h.get? b=some u->h'.get? b=some u):Un fs g H H h h' :=
 ⟨λb a q _ _ _=>k b a q,λb a q _ _ _=>⟨a.slots,k b a q⟩,λ_ _ _ n _=>n,λb a q _=>⟨a,k b a q⟩,λ_ _ q=>q,λ_ _ _ q=>q,λ_ e q=>⟨#[],by rw[q];simp⟩⟩
theorem Un.refl:Un fs g H H h h:=Un.kept λ_ _ q=>q
theorem Un.laid(k:∀b u,h.get? b=some u->h'.get? b=some u)(e:h.objs.size<=a)(hn:H a=none):Un fs g H (upd H a o) h h' where
 keep:=λb u q _ _ _=>k b u q
 slot:=λb u q _ _ _=>⟨u.slots,k b u q⟩
 free:=λb u q n _=>by rw[aG (K8 (H0 (I0 q) e))];exact n
 there:=λb u q _=>⟨u,k b u q⟩
 tups:=λb i q=>by rw[aG (cp q hn)];exact q
 frzs:=λb u i q=>by rw[aG (cp q hn)];exact q
 tbls:=λb j q=>⟨#[],by rw[aG (cp q hn),q];simp⟩
theorem Un.write(i:Mut (H x))(he:e=x∨H e=some (.own x))(k:∀b u,b≠e->h.get? b=some u->h'.get? b=some u)(j:∃u,h'.get? e=some u):Un fs g H (upd H x o) h h':=by
 have m:∀b,H b=none->b≠x:=λb n z=>by subst z;rw[n]at i;exact i
 have p:∀b,H b=none->b≠e:=λb n z=>by
  subst z;rcases he with r|r
  ·exact m b n r
  ·rw[n]at r;cases r
 have l:∀b u,H b=some u->¬ Mut (some u)->b≠x:=λb u q s z=>by subst z;rw[q]at i;exact s i
 refine⟨λb u q n _ _=>k b u (p b n) q,λb u q n _ _=>⟨u.slots,k b u (p b n) q⟩,λb u q n _=>by rw[aG (m b n)];exact n,λb u q _=>?_,
  λb t q=>by rw[aG (l b _ q λz=>z)];exact q,λb u t q=>by rw[aG (l b _ q λz=>z)];exact q,λb w q=>⟨#[],by rw[aG (l b _ q λz=>z),q];simp⟩⟩
 by_cases a:b=e
 ·subst a;exact j
 ·exact⟨u,k b u a q⟩
end
def trk(h:K3)(H:Hp):List F4:=(Q8 h.objs.size).filter λa=>(H a).isSome
def og(h:K3)(H:Hp):K3:=am0 h (trk h H)
theorem ui(h:K3)(H:Hp):(og h H).objs.size=h.objs.size:=PySem.W.hideAll_size _ _
theorem vM{h:K3}{H:Hp}{b:F4}{o:Obj}(e:h.get? b=some o)(n:H b=none):(og h H).get? b=some o :=
 W4 _ e λa=>by
  have q:(H b).isSome=true:=(ab8.mp a).2;rw[n]at q;simp at q
theorem yA{h:K3}{H:Hp}{b:F4}{o:Obj}(e:(og h H).get? b=some o):h.get? b=some o/\H b=none:=by
 have a:h.get? b=some o:=ah4 (trk h H) e;refine⟨a,?_⟩;cases q:H b with
 |none=>rfl
 |some x =>
  have g:b∈trk h H:=ab8.mpr ⟨O4.mpr (I0 a),by simp[q]⟩;have z:(og h H).get? b=none:=Z1 (trk h H) g;rw[z]at e;cases e
noncomputable def yZ(g h:K3)(L:F4):List (F4×Obj):=(Q8 h.objs.size).filterMap λa=>if a=L∨(g.get? a).isSome=true then none else(h.get? a).map λo=>(a,o)
def rest(g h:K3)(L d:F4):List (F4×Obj):=(yZ g h L).filter λp=>decide (p.1≠d)
structure Mod(K:E5) (mg:Str->Option u8) (base:K3):Prop where
 kin:K.In base
 glob:base.Ns J8 mg
 blt:∃mb,base.Ns builtinsNs mb/\∀x:Str,x≠"__name__"->mb x=aa5 x
 nolimit:base.NoLimit
structure Cx where
 prog:K9
 w:P7
 K:E5
 mg:Str->Option u8
 base:K3
 A:M8
 N:List Str
 s₀:E9
 H₀:Hp
 env:Env
 outer:List Env
 stack:List Env
 ex:List F4
 fn:Str->Bool
 calm:Bool
 pn:List (F4×Obj)
 xe:u8->E9->Prop
def frs(l:List Env):List F4:=l.filterMap (·.frame)
abbrev Cx.fs(X:Cx):List F4:=frs X.outer
def Vis(a:af7)(x:Str):Prop:=a.names.lookup x=some .local∨a.names.lookup x=some .cell∨a.names.lookup x=some .free
def Loc(a:af7)(x:Str):Prop:=a.names.lookup x=some .local∨a.names.lookup x=some .cell
def Es(env:Env)(h:K3)(m:Str->Option u8)(x:Str)(u:u8):Prop :=
 (env.kindOf x=some .local/\m x=some u)∨((env.kindOf x=some .cell∨env.kindOf x=some .free)/\∃c,env.cells.lookup x=some c/\h.IsCell c (some u))
structure Cx.Ok(X:Cx):Prop where
 mod:Mod X.K X.mg X.base
 kind:X.env.scope.kind=.function
 glob:X.env.globals=J8
 blt:X.env.builtins=builtinsNs
 above:X.s₀.heap.objs.size<=X.env.locals
 inj:∀x y c,X.env.cells.lookup x=some c->X.env.cells.lookup y=some c->x=y
 has:∀x,(X.env.kindOf x=some .cell∨X.env.kindOf x=some .free)->∃c,X.env.cells.lookup x=some c
 cab:∀x c,X.fn x=true->X.env.cells.lookup x=some c->X.s₀.heap.objs.size<=c
 hd:X.calm=true->X.A.handled=none
 frames:X.A.frames=some X.stack
 stk:X.stack=X.outer∨(X.stack=X.env::X.outer/\X.env.frame=some X.env.locals)
 exf:∀b∈X.ex,b≠X.env.locals/\∀x c,X.env.cells.lookup x=some c->c≠b
 bs:∀b o,X.base.get? b=some o->X.s₀.heap.get? b=some o/\X.H₀ b=none
 bsz:X.base.objs.size<=X.s₀.heap.objs.size
 noex:∀b o,X.base.get? b=some o->b∉X.ex
 exfs:∀b∈X.ex,b∉X.fs
 funs:X.s₀.heap.FunFrames X.base X.outer
 frf:∀b∈X.fs,X.H₀ b=none
structure Inv(X:Cx) (aa:List (F4×Obj)) (σ:List (Option V)) (H:Hp) (s:E9):Prop where
 ok:X.Ok
 os:s.os=X.s₀.os
 bare:ak8 s.gens
 base:Un X.fs X.ex X.H₀ H X.s₀.heap s.heap
 loc:∃m,s.heap.Ns X.env.locals m/\∀(i:Nat) (x:Str) (v:V),X.N[i]?=some x->σ[i]?=some (some v)->Vis X.env.scope x->∃u,aM v u/\Es X.env s.heap m x u
 cell:∀x c,X.env.cells.lookup x=some c->∃v,s.heap.IsCell c v
 free:H X.env.locals=none
 freeC:∀x c,X.env.cells.lookup x=some c->H c=none
 pin:∀p∈X.pn++aa,s.heap.get? p.1=some p.2/\H p.1=none/\p.1≠X.env.locals/\p.1∉X.fs/\∀v,p.2.data≠.cell v
 hok:HOk X.prog X.w H s.heap
 len:σ.length=X.N.length
section
variable{X:Cx}{g:List (F4×Obj)}{σ:List (Option V)}{H B:Hp}{s:E9}{h':K3}
theorem Cx.Ok.nofr(ok:X.Ok){b:F4}{o:Obj}(e:X.base.get? b=some o):b∉X.fs:=λa=>by
 have:=(ok.funs.mem a).1;rw[e]at this;cases this
theorem Inv.bs(I:Inv X g σ H s):∀b o,X.base.get? b=some o->s.heap.get? b=some o/\H b=none:=λb o e =>
 ⟨I.base.keep b o (I.ok.bs b o e).1 (I.ok.bs b o e).2 (I.ok.nofr e) (I.ok.noex b o e),I.base.free b o (I.ok.bs b o e).1 (I.ok.bs b o e).2 (I.ok.noex b o e)⟩
theorem Inv.bk(I:Inv X g σ H s):∀b o,X.base.get? b=some o->s.heap.get? b=some o:=λb o e=>(I.bs b o e).1
theorem Inv.mod(I:Inv X g σ H s):Mod X.K X.mg X.base:=I.ok.mod
theorem Inv.kIn(I:Inv X g σ H s):X.K.In s.heap:=I.ok.mod.kin.keeps I.bk
theorem Inv.lt(I:Inv X g σ H s):X.env.locals<s.heap.objs.size:=let⟨_,a,_⟩:=I.loc;a.lt
theorem Inv.sz(I:Inv X g σ H s):X.s₀.heap.objs.size<=s.heap.objs.size:=O9 I.ok.above (ae0 I.lt)
theorem Inv.nofs(I:Inv X g σ H s){a:F4}(h:s.heap.objs.size<=a):a∉X.fs:=λb=>by
 obtain⟨_,o,e,_⟩:=I.ok.funs.mem b;exact absurd (H0 (I0 e) (O9 I.sz h)) (Z3 _)
theorem Inv.cne(I:Inv X g σ H s):∀x c,X.env.cells.lookup x=some c->c≠X.env.locals:=λx c e z=>by
 obtain⟨v,o,i,h⟩:=I.cell x c e;obtain⟨m,⟨j,l,n,b,a,_⟩,_⟩:=I.loc;rw[z,b]at i;cases i;rw[a]at h;cases h
theorem Inv.funs(I:Inv X g σ H s):s.heap.FunFrames X.base X.outer:=by
 have all:∀(l:List Env),(∀b∈frs l,b∈X.fs)->X.s₀.heap.FunFrames X.base l->s.heap.FunFrames X.base l:=by
  intro l
  induction l with
  |nil=>intro _ _;trivial
  |cons p r ih =>
   intro j t;obtain⟨u,⟨L,o,i,n,m,w⟩,q⟩:=t;have a:L∈X.fs:=j L (by unfold frs;rw[Q5,i];exact Q0);obtain⟨A,e⟩:=I.base.slot L o m (I.ok.frf L a) a λz=>I.ok.exfs L z a;exact⟨u,⟨L,_,i,n,e,w⟩,ih (λb h=>j b (by unfold frs;rw[Q5,i];exact K6 _ h)) q⟩
 exact all X.outer (λ_ h=>h) I.ok.funs
theorem Inv.stack(I:Inv X g σ H s):s.heap.FunFrames X.base X.stack:=by
 rcases I.ok.stk with e|⟨e,b⟩
 ·rw[e];exact I.funs
 ·rw[e];obtain⟨m,a,_⟩:=I.loc;refine .cons (by rw[I.ok.kind];decide) b a ?_ I.funs;exact S5 (O9 I.ok.bsz I.ok.above)
theorem Inv.stkSub(I:Inv X g σ H s):∀b∈frs X.stack,b∈X.env.locals::X.fs:=λb a=>by
 rcases I.ok.stk with e|⟨e,h⟩
 ·rw[e]at a;exact K6 _ a
 ·rw[e]at a;unfold frs at a;rw[Q5,h]at a;exact a
theorem Inv.stkFree(I:Inv X g σ H s):∀b∈frs X.stack,H b=none:=λb a=>by
 rcases J3.mp (I.stkSub b a)with e|a
 ·rw[e];exact I.free
 ·obtain⟨_,o,h,_⟩:=I.ok.funs.mem a;exact I.base.free b o h (I.ok.frf b a) λz=>I.ok.exfs b z a
theorem Inv.step{g':Array al3}{t':Nat}{d':Drawn}{ch:List F4}(I:Inv X g σ H s)
  (j:∀b∈ch,(b∈X.ex∨X.s₀.heap.objs.size<=b)/\b≠X.env.locals/\(∀x c,X.env.cells.lookup x=some c->c≠b)/\∀p∈X.pn++g,p.1≠b)
  (keep:∀b o,b≠X.env.locals->b∉X.fs->b∉ch->s.heap.get? b=some o->H b=none->h'.get? b=some o)
  (slot:∀b o,b≠X.env.locals->b∈X.fs->b∉ch->s.heap.get? b=some o->H b=none->∃R,h'.get? b=some { o with slots:=R }) (free:∀b o,b∉ch->s.heap.get? b=some o->H b=none->B b=none)
  (E:∀b o,b∉ch->s.heap.get? b=some o->∃L,h'.get? b=some L)
  (J:∀b xs,H b=some (.tup xs)->B b=some (.tup xs)) (P:∀b o u,H b=some (.frz o u)->B b=some (.frz o u)) (O:∀b ps,H b=some (.tbl ps)->∃more,B b=some (.tbl (ps++more)))
  (ns:∀m,s.heap.Ns X.env.locals m->h'.Ns X.env.locals m) (Q:HOk X.prog X.w B h') (hg:ak8 g') :
  Inv X g σ B { s with heap:=h',gens:=g',drawn:=d',toks:=t' }:=by
 have M:∀b o,X.s₀.heap.get? b=some o->b≠X.env.locals:=λb o e=>K8 (H0 (I0 e) I.ok.above);have w:∀b o,X.s₀.heap.get? b=some o->b∉X.ex->b∉ch:=λb o e a C=>by
  rcases(j b C).1 with z|z
  ·exact a z
  ·exact absurd (H0 (I0 e) z) (Z3 _)
 have h:∀x c,X.env.cells.lookup x=some c->∀v,s.heap.IsCell c v->h'.IsCell c v:=λx c e v ⟨o,G,S⟩=>by
  have t:c∉ch:=λz=>(j c z).2.2.1 x c e rfl
  by_cases U:c∈X.fs
  ·obtain⟨R,q⟩:=slot c o (I.cne x c e) U t G (I.freeC x c e);exact⟨_,q,S⟩
  ·exact⟨o,keep c o (I.cne x c e) U t G (I.freeC x c e),S⟩
 refine⟨I.ok,I.os,hg,⟨λb o e n C a=>?_,λb o e n C a=>?_,λb o e n a=>?_,λb o e a=>?_,λb xs e=>J b xs (I.base.tups b xs e),λb o xs e=>P b o xs (I.base.frzs b o xs e),λb ps e=>?_⟩,?_,λx c e=>?_,?_,λx c e=>?_,λp Z=>?_,Q,I.len⟩
 ·exact keep b o (M b o e) C (w b o e a) (I.base.keep b o e n C a) (I.base.free b o e n a)
 ·obtain⟨R,A⟩:=I.base.slot b o e n C a;obtain⟨T,N⟩:=slot b _ (M b o e) C (w b o e a) A (I.base.free b o e n a);exact⟨T,N⟩
 ·obtain⟨L,A⟩:=I.base.there b o e a;exact free b L (w b o e a) A (I.base.free b o e n a)
 ·obtain⟨L,A⟩:=I.base.there b o e a;exact E b L (w b o e a) A
 ·obtain⟨m1,A⟩:=I.base.tbls b ps e;obtain⟨m2,N⟩:=O b _ A;exact⟨m1++m2,by rw[N,Array.append_assoc]⟩
 ·obtain⟨m,hn,hl⟩:=I.loc;refine⟨m,ns m hn,λi x v A N e3=>?_⟩;obtain⟨u,r,l⟩:=hl i x v A N e3;refine⟨u,r,?_⟩;rcases l with l|⟨k,c,e,z⟩
  ·exact .inl l
  ·exact .inr ⟨k,c,e,h x c e _ z⟩
 ·obtain⟨v,z⟩:=I.cell x c e;exact⟨v,h x c e v z⟩
 ·obtain⟨m,⟨o,_,_,G,_⟩,_⟩:=I.loc;exact free _ o (λz=>(j _ z).2.1 rfl) G I.free
 ·obtain⟨v,o,G,S⟩:=I.cell x c e;exact free c o (λz=>(j c z).2.2.1 x c e rfl) G (I.freeC x c e)
 ·obtain⟨e,n,ne,Y,d⟩:=I.pin p Z;have t:p.1∉ch:=λz=>(j p.1 z).2.2.2 p Z rfl;exact⟨keep p.1 p.2 ne Y t e n,free p.1 p.2 t e n,ne,Y,d⟩
theorem Inv.un{t':Nat}(I:Inv X g σ H s)(u:Un X.fs [] H B s.heap h')(h:HOk X.prog X.w B h'):Inv X g σ B { s with heap:=h',toks:=t' }:=by
 obtain⟨m,⟨o,E,J,p,r⟩,_⟩:=id I.loc;obtain⟨A,q⟩:=u.any p I.free (by simp);exact I.step (g':=s.gens) (d':=s.drawn) (ch:=[]) (λ_ z=>nomatch z) (λb o _ i _ e n=>u.keep b o e n i (by simp)) (λb o _ i _ e n=>u.slot b o e n i (by simp)) (λb o _ e n=>u.free b o e n (by simp)) (λb o _ e=>u.there b o e (by simp)) u.tups u.frzs u.tbls (λG w=>by
  obtain⟨C,j,l,a,t⟩:=w;rw[p]at a;cases a;exact⟨_,j,l,q,t⟩) h I.bare
theorem Inv.call{g':Array al3}{t':Nat}{d':Drawn}{ch:List F4}(I:Inv X g σ H s)(u:Un (frs X.stack) ch H B s.heap h')(l:HOk X.prog X.w B h')(hg:ak8 g')
  (h:∀b∈ch,(b∈X.ex∨X.s₀.heap.objs.size<=b)/\b≠X.env.locals/\(∀x c,X.env.cells.lookup x=some c->c≠b)/\∀p∈X.pn++g,p.1≠b) :
  Inv X g σ B { s with heap:=h',gens:=g',drawn:=d',toks:=t' }:=by
 obtain⟨m,⟨o,L,N,w,r⟩,_⟩:=id I.loc;obtain⟨G,j⟩:=u.any w I.free λz=>(h _ z).2.1 rfl;exact I.step (ch:=ch) h (λb o j C a e n=>u.keep b o e n (λz=>(J3.mp (I.stkSub b z)).elim j C) a) (λb o _ _ a e n=>u.any e n a) (λb o a e n=>u.free b o e n a) (λb o a e=>u.there b o e a) u.tups u.frzs u.tbls (λM E=>by
  obtain⟨J,q,t,i,A⟩:=E;rw[w]at i;cases i;exact⟨_,q,t,j,A⟩) l hg
theorem Inv.turned{t':Nat}{it:F4}(I:Inv X g σ H s)(k:∀b o,b≠it->s.heap.get? b=some o->h'.get? b=some o)(hn:H it=none)(i:it≠X.env.locals)
  (l:it∈X.ex∨X.s₀.heap.objs.size<=it) (C:∀x c,X.env.cells.lookup x=some c->c≠it) (A:∀p∈X.pn++g,p.1≠it):Inv X g σ H { s with heap:=h',toks:=t' }:=by
 have h:∀b u,H b=some u->b≠it:=λb u e z=>by rw[z,hn]at e;cases e
 refine I.step (g':=s.gens) (d':=s.drawn) (ch:=[it]) (λb t=>?_) (λb o _ _ a e _=>k b o (λz=>a (by simp[z])) e) (λb o _ _ a e _=>⟨o.slots,k b o (λz=>a (by simp[z])) e⟩) (λ_ _ _ _ n=>n)
  (λb o a e=>⟨o,k b o (λz=>a (by simp[z])) e⟩) (λ_ _ e=>e) (λ_ _ _ e=>e) (λb G e=>⟨#[],by rw[e];simp⟩) (λm w=>?_) (λb u e=>?_) I.bare
 ·have e:b=it:=by simpa using t
  subst e;exact⟨l,i,C,A⟩
 ·obtain⟨o,B,E,j,r⟩:=w;exact⟨o,B,E,k _ o (U2 i) j,r⟩
 ·refine(I.hok b u e).stay (λc v a q=>k c v ?_ q) (λ_ q=>q) λ_ _ q=>q;rcases a with z|z
  ·rw[z];exact h b u e
  ·exact h c _ z
theorem Inv.tok(I:Inv X g σ H s)(t:Nat):Inv X g σ H { s with toks:=t }:=I.un (h':=s.heap) (t':=t) Un.refl I.hok
theorem Inv.kept{t':Nat}(I:Inv X g σ H s)(k:∀b u,s.heap.get? b=some u->h'.get? b=some u):Inv X g σ H { s with heap:=h',toks:=t' }:=I.un (Un.kept k) (I.hok.kept k)
theorem Inv.laid{a:F4}{o:HO}{t':Nat}(I:Inv X g σ H s)(k:∀b u,s.heap.get? b=some u->h'.get? b=some u)(e:s.heap.objs.size<=a)(new:bT X.prog X.w (upd H a o) h' a o):
  Inv X g σ (upd H a o) { s with heap:=h',toks:=t' }:=I.un (Un.laid k e (I.hok.fresh e)) (I.hok.laid k e new)
theorem Inv.write{x e:F4}{o:HO}{t':Nat}(I:Inv X g σ H s)(h:Mut (H x))(he:e=x∨H e=some (.own x))(k:∀b u,b≠e->s.heap.get? b=some u->h'.get? b=some u)(a:∃u,h'.get? e=some u)
  (new:bT X.prog X.w (upd H x o) h' x o):Inv X g σ (upd H x o) { s with heap:=h',toks:=t' }:=I.un (Un.write h he k a) (I.hok.write h he k a new)
theorem Inv.pins_of{a:List (F4×Obj)}(I:Inv X g σ H s)(h:∀p∈a,s.heap.get? p.1=some p.2/\H p.1=none/\p.1≠X.env.locals/\p.1∉X.fs/\∀v,p.2.data≠.cell v):Inv X a σ H s :=
 ⟨I.ok,I.os,I.bare,I.base,I.loc,I.cell,I.free,I.freeC,λp b=>(Q3.mp b).elim (λz=>I.pin p (U3 _ z)) (h p),I.hok,I.len⟩
theorem lM{N:List Str}(e:N.Nodup){i j:Nat}{x:Str}(a:N[i]?=some x)(b:N[j]?=some x):i=j:=by
 obtain⟨l,h⟩:=J4.mp a;obtain⟨m,g⟩:=J4.mp b;exact(List.getElem_inj e).mp (h.trans g.symm)
theorem nB{M:ar7}{A:M8}{E:u8->E9->Prop}{i:Nat}{x:Str}{v:V}{u:u8}{Q:Unit->E9->Prop}(I:Inv X g σ H s)(hN:X.N.Nodup)(hi:X.N[i]?=some x)(C:Loc X.env.scope x)(r:aM v u)
  (h:∀s',Inv X g (σ.set i (some v)) H s'->(∃a,Q4 a s.heap s'.heap/\(a=X.env.locals∨X.env.cells.lookup x=some a))->Q () s') (hf:X.fn x=true∨X.env.scope.names.lookup x=some .local:=by first|exact .inl rfl|exact .inr rfl|assumption):J0 M A (storeName X.env x u) Q E s:=by
 obtain⟨m,hn,hl⟩:=id I.loc;have T:(X.env.scope.kind==.class || (X.env.scope.kind==.module&&X.env.locals != X.env.globals))=false:=by rw[I.ok.kind];rfl
 have L:i<σ.length:=by rw[I.len];exact(J4.mp hi).1
 have cne:=I.cne;have w:∀{a:F4} {h':K3},(∃o,s.heap.get? a=some o/\H a=none)->Q4 a s.heap h'->HOk X.prog X.w H h':=λ{a h'} ha l b ob e=>by
  obtain⟨_,_,G⟩:=ha;refine(I.hok b ob e).stay (λc w' B q=>(l.2 c ?_).trans q) (λ_ q=>q) λ_ _ q=>q;rintro rfl;rcases B with rfl|B
  ·rw[G]at e;cases e
  ·rw[G]at B;cases B
 rcases C with N|N
 ·refine wpAny_storeName_local N hn (λh' a0 l=>?_) T;obtain⟨oL,_,_,a1,_⟩:=id hn;refine h _ ⟨I.ok,I.os,I.bare,⟨λb o e n O C=>?_,λb o e n O C=>?_,I.base.free,λb o e C=>?_,I.base.tups,I.base.frzs,I.base.tbls⟩,⟨_,a0,λj y v' t J e3=>?_⟩,λy c e=>?_,I.free,I.freeC,λp hp=>?_,w ⟨oL,a1,I.free⟩ l,by simpa using I.len⟩ ⟨_,l,.inl rfl⟩
  ·exact(l.2 b (K8 (H0 (I0 e) I.ok.above))).trans (I.base.keep b o e n O C)
  ·obtain⟨sl,t⟩:=I.base.slot b o e n O C;exact⟨sl,(l.2 b (K8 (H0 (I0 e) I.ok.above))).trans t⟩
  ·obtain⟨o',t⟩:=I.base.there b o e C;exact⟨o',(l.2 b (K8 (H0 (I0 e) I.ok.above))).trans t⟩
  ·by_cases R:j=i
   ·subst R;rw[hi]at t;cases t;rw[P8 L]at J;cases J;exact⟨u,r,.inl ⟨N,by simp⟩⟩
   ·rw[U4 (U2 R)]at J;obtain⟨u',r',q⟩:=hl j y v' t J e3;refine⟨u',r',?_⟩;rcases q with⟨k,e⟩|⟨k,c,e,z⟩
    ·refine .inl ⟨k,?_⟩;have:y≠x:=λe=>R (lM hN t (e▸hi));simp[this,e]
    ·exact .inr ⟨k,c,e,z.sameBut l (cne y c e)⟩
  ·obtain⟨w',z⟩:=I.cell y c e;exact⟨w',z.sameBut l (cne y c e)⟩
  ·obtain⟨e,n,ne,nf,d⟩:=I.pin p hp;exact⟨(l.2 p.1 ne).trans e,n,ne,nf,d⟩
 ·have P:X.fn x=true:=by
   rcases hf with z|z
   ·exact z
   ·rw[z]at N;cases N
  obtain⟨c,B⟩:=I.ok.has x (.inl N);obtain⟨w',z⟩:=I.cell x c B;refine wpAny_storeName_cell I.ok.kind N B z (λh' S l=>?_);obtain⟨oc,Z,U⟩:=id z;refine h { s with heap:=h' } ⟨I.ok,I.os,I.bare,⟨λb o e n O C=>?_,λb o e n O C=>?_,I.base.free,λb o e C=>?_,I.base.tups,I.base.frzs,I.base.tbls⟩,⟨m,hn.sameBut l (U2 (cne x c B)),λj y v' t J e3=>?_⟩,λy c' e=>?_,I.free,I.freeC,λp hp=>?_,w ⟨oc,Z,I.freeC x c B⟩ l,by simpa using I.len⟩ ⟨c,l,.inr B⟩
  ·exact(l.2 b (K8 (H0 (I0 e) (I.ok.cab x c P B)))).trans (I.base.keep b o e n O C)
  ·obtain⟨sl,t⟩:=I.base.slot b o e n O C;exact⟨sl,(l.2 b (K8 (H0 (I0 e) (I.ok.cab x c P B)))).trans t⟩
  ·obtain⟨o',t⟩:=I.base.there b o e C;exact⟨o',(l.2 b (K8 (H0 (I0 e) (I.ok.cab x c P B)))).trans t⟩
  ·by_cases R:j=i
   ·subst R;rw[hi]at t;cases t;rw[P8 L]at J;cases J;exact⟨u,r,.inr ⟨.inl N,c,B,S⟩⟩
   ·rw[U4 (U2 R)]at J;obtain⟨u',r',q⟩:=hl j y v' t J e3;refine⟨u',r',?_⟩;rcases q with q|⟨k,c',e,z'⟩
    ·exact .inl q
    ·refine .inr ⟨k,c',e,z'.sameBut l ?_⟩;rintro rfl;exact R (lM hN t (I.ok.inj _ _ _ e B▸hi))
  ·by_cases Y:c'=c
   ·subst Y;exact⟨_,S⟩
   ·obtain⟨w2,z2⟩:=I.cell y c' e;exact⟨w2,z2.sameBut l Y⟩
  ·obtain⟨e,n,ne,nf,d⟩:=I.pin p hp;refine⟨(l.2 p.1 ?_).trans e,n,ne,nf,d⟩;intro q;rw[q,Z]at e;have q':oc=p.2:=R1 e;exact d w' (by rw[<-q'];exact U)
theorem gM{M:ar7}{A:M8}{E:u8->E9->Prop}{i:Nat}{x:Str}{v:V}{u:u8}{Q:Unit->E9->Prop}(I:Inv X g σ H s)(a:X.N.Nodup)(hi:X.N[i]?=some x)(b:Loc X.env.scope x)(r:aM v u)
  (h:∀s',Inv X g (σ.set i (some v)) H s'->Q () s') (e:X.fn x=true∨X.env.scope.names.lookup x=some .local:=by first|exact .inl rfl|exact .inr rfl|assumption):J0 M A (storeName X.env x u) Q E s :=
 nB I a hi b r (λs' j _=>h s' j) e
theorem Inv.call'{s':E9}{ch:List F4}(I:Inv X g σ H s)(n:s'.os=s.os)(u:Un (frs X.stack) ch H B s.heap s'.heap)(h:HOk X.prog X.w B s'.heap)(hg:ak8 s'.gens)
  (a:∀b∈ch,(b∈X.ex∨X.s₀.heap.objs.size<=b)/\b≠X.env.locals/\(∀x c,X.env.cells.lookup x=some c->c≠b)/\∀p∈X.pn++g,p.1≠b):Inv X g σ B s':=by
 obtain⟨h',j,l,i,m⟩:=s';have e:m=s.os:=n;subst e;exact I.call (g':=j) (t':=i) (d':=l) u h hg a
end
abbrev XK:=u8->Option F4->Hp->Prop
noncomputable abbrev St:=List (Option V)
abbrev VK:=V->Hp->Prop
abbrev TE:=St->Hp->VK->Prop
abbrev TT:=St->Hp->(Bool->Hp->Prop)->Prop
abbrev TA:=St->Hp->(List V->Hp->Prop)->Prop
structure mF where
 nx:St->Hp->Prop
 rt:VK
 bk:St->Hp->Prop:=λ_ _=>False
 ct:St->Hp->Prop:=λ_ _=>False
abbrev TS:=mF->St->Hp->Prop
def EP(X:Cx)(b:List (F4×Obj))(σ:St)(Q:VK)(u:u8)(s':E9):Prop:=∃v a,Inv X b σ a s'/\aM v u/\Q v a
def TP(X:Cx)(e:List (F4×Obj))(σ:St)(Q:Bool->Hp->Prop)(b:Bool)(s':E9):Prop:=∃a,Inv X e σ a s'/\Q b a
def AP(X:Cx)(e:List (F4×Obj))(σ:St)(Q:List V->Hp->Prop)(us:List u8)(s':E9):Prop:=∃b a,Inv X e σ a s'/\aw b us/\Q b a
theorem EP.el{X:Cx}{e:List (F4×Obj)}{σ:St}{Q:VK}{u:u8}{s:E9}{P:Prop}(h:EP X e σ Q u s)(f:∀(v:V) (H:Hp),Inv X e σ H s->aM v u->Q v H->P):P:=by
 obtain⟨g,i,a,b,c⟩:=h;exact f g i a b c
theorem AP.el{X:Cx}{e:List (F4×Obj)}{σ:St}{Q:List V->Hp->Prop}{u:List u8}{s:E9}{P:Prop}(h:AP X e σ Q u s)(f:∀(v:List V) (H:Hp),Inv X e σ H s->aw v u->Q v H->P):P:=by
 obtain⟨g,i,a,b,c⟩:=h;exact f g i a b c
theorem TP.el{X:Cx}{e:List (F4×Obj)}{σ:St}{Q:Bool->Hp->Prop}{u:Bool}{s:E9}{P:Prop}(h:TP X e σ Q u s)(f:∀(H:Hp),Inv X e σ H s->Q u H->P):P:=by
 obtain⟨g,a,b⟩:=h;exact f g a b
def SP(X:Cx)(e:List (F4×Obj))(D:mF)(f:Flow)(s':E9):Prop :=
 match f with
 |.next=>∃ a b,Inv X e a b s'/\D.nx a b
 |.brk=>∃ a b,Inv X e a b s'/\D.bk a b
 |.cont=>∃ a b,Inv X e a b s'/\D.ct a b
 |.ret u=>∃v a b,Inv X e a b s'/\aM v u/\D.rt v b
def PE(X:Cx)(e:N1)(t:TE):Prop :=
 ∀(b:List (F4×Obj)) (s:E9) (a:St) (H:Hp) (Q:VK),Inv X b a H s->t a H Q->J0 (L4 X.prog X.w) X.A (aa2 e X.env) (EP X b a Q) X.xe s
def PT(X:Cx)(e:N1)(t:TT):Prop :=
 ∀(b:List (F4×Obj)) (s:E9) (a:St) (H:Hp) (Q:Bool->Hp->Prop),Inv X b a H s->t a H Q->J0 (L4 X.prog X.w) X.A (isTrue e X.env (aa2 e X.env)) (TP X b a Q) X.xe s
def PW(X:Cx)(e:N1)(t:TT):Prop :=
 ∀(a:Sem u8) (g:List (F4×Obj)) (s:E9) (b:St) (H:Hp) (Q:Bool->Hp->Prop),Inv X g b H s->t b H Q->J0 (L4 X.prog X.w) X.A (isTrue e X.env a) (TP X g b Q) X.xe s
theorem PW.pt{X:Cx}{e:N1}{t:TT}(h:PW X e t):PT X e t:=h _
def PA(X:Cx)(g:List N1)(t:TA):Prop :=
 ∀(a:Pos) (e:List (F4×Obj)) (s:E9) (b:St) (H:Hp) (Q:List V->Hp->Prop),Inv X e b H s->t b H Q->J0 (L4 X.prog X.w) X.A (spliced (U6 a (F3 g X.env))) (AP X e b Q) X.xe s
def PS(X:Cx)(st:Z7)(t:TS):Prop :=
 ∀(b:List (F4×Obj)) (s:E9) (a:St) (H:Hp) (D:mF),Inv X b a H s->t D a H->J0 (L4 X.prog X.w) X.A (exec st X.env) (SP X b D) X.xe s
def PSs(X:Cx)(st:List Z7)(t:TS):Prop :=
 ∀(b:List (F4×Obj)) (s:E9) (a:St) (H:Hp) (D:mF),Inv X b a H s->t D a H->J0 (L4 X.prog X.w) X.A (execs st X.env) (SP X b D) X.xe s
theorem thn{b:Type}{t:Sem b}{Q e:b->E9->Prop}{M:ar7}{A:M8}{E:u8->E9->Prop}{s:E9}(h:J0 M A t Q E s)(g:∀a s,Q a s->e a s):J0 M A t e E s:=P5 h g λ_ _ x=>x
section
variable{X:Cx}
def u0(i:Nat):TE:=λa H Q=>∃v,a[i]?=some (some v)/\Q v H
def tC(v:V):TE:=λ_ H Q=>Q v H
theorem vm{i:Nat}{x:Str}{pos:Pos}(p:X.N[i]?=some x)(w:Vis X.env.scope x)(n:(x==("__debug__":Str))=false:=by decide)(j:(x==("__classdict__":Str))=false:=by decide):PE X (.Name x pos) (u0 i):=by
 intro z s q H Q I h;obtain⟨v,e,h⟩:=h;obtain⟨m,A,t⟩:=I.loc;obtain⟨u,r,l⟩:=t i x v p e w;have b:EP X z q Q u s:=⟨v,H,I,r,h⟩;rcases l with⟨g,B⟩|⟨g,c,o,a⟩
 ·exact wpAny_Name (wpAny_loadName_local I.ok.kind g A B b) n
 ·rcases g with g|g
  ·exact wpAny_Name (wpAny_loadName_cell I.ok.kind g o a b) n
  ·exact wpAny_Name (wpAny_loadName_free I.ok.kind g o a b j) n
theorem Ai{i j pos}:PE X (.Constant (.int i) j pos) (tC (.int i)):=λ_ _ _ H _ I h=>wpAny_Constant_int ⟨.int i,H,I.tok _,⟨_,rfl⟩,h⟩
theorem Dd{b j pos}:PE X (.Constant (.bool b) j pos) (tC (.bl b)):=λ_ _ _ H _ I h=>Constant_bool ⟨.bl b,H,I,rfl,h⟩
theorem B9{j pos}:PE X (.Constant .none j pos) (tC .non):=λ_ _ _ H _ I h=>Constant_none ⟨.non,H,I,rfl,h⟩
theorem wN{x j pos}:PE X (.Constant (.str x) j pos) (tC (.str x)):=λ_ _ _ H _ I h=>Calls.Constant_str ⟨.str x,H,I.tok _,⟨_,rfl⟩,h⟩
def Gl(X:Cx)(x:Str):Prop:=X.env.kindOf x=some .globalImplicit
theorem hV{E:u8->E9->Prop}{a:List (F4×Obj)}{s:E9}{σ:St}{H:Hp}{x:Str}{u:u8}{pos:Pos}{Q:u8->E9->Prop}(I:Inv X a σ H s)(hg:Gl X x)(e:X.mg x=some u)(h:Q u s)
  (b:(x==("__debug__":Str))=false:=by decide):J0 (L4 X.prog X.w) X.A (aa2 (.Name x pos) X.env) Q E s :=
 Calls.Name_function_global I.ok.kind hg (Calls.loadGlobal_global (by rw[I.ok.glob];exact I.mod.glob.keeps I.bk) e h) b
theorem jV{E:u8->E9->Prop}{b:List (F4×Obj)}{s:E9}{σ:St}{H:Hp}{x:Str}{u:u8}{pos:Pos}{Q:u8->E9->Prop}(I:Inv X b σ H s)(hg:Gl X x)(g:X.mg x=none)(a:aa5 x=some u)(h:Q u s)
  (hn:x≠"__name__":=by decide) (i:(x==("__debug__":Str))=false:=by decide):J0 (L4 X.prog X.w) X.A (aa2 (.Name x pos) X.env) Q E s:=by
 obtain⟨l,e,j⟩:=I.mod.blt;exact Calls.Name_function_global I.ok.kind hg (Calls.loadGlobal_builtin (by rw[I.ok.glob];exact I.mod.glob.keeps I.bk) g (by rw[I.ok.blt];exact e.keeps I.bk) ((j x hn).trans a) h) i
theorem oN{x:Str}{v:V}{u:u8}{pos:Pos}(hg:Gl X x)(b:X.mg x=some u)(r:aM v u)(a:(x==("__debug__":Str))=false:=by decide):PE X (.Name x pos) (tC v) :=
 λ_ _ _ H _ I h=>hV I hg b ⟨v,H,I,r,h⟩ a
theorem tq{x:Str}{v:V}{u:u8}{pos:Pos}(hg:Gl X x)(e:X.mg x=none)(a:aa5 x=some u)(r:aM v u)(hn:x≠"__name__":=by decide)(b:(x==("__debug__":Str))=false:=by decide):PE X (.Name x pos) (tC v) :=
 λ_ _ _ H _ I h=>jV I hg e a ⟨v,H,I,r,h⟩ hn b
variable{a b:N1}{g z:TE}{pos:Pos}
theorem u9(b:N1){a:as0}(h:a≠.In)(i:a≠.NotIn):af0 a b=false:=by
 have e:(a==as0.In)=false:=by cases a<;>first|rfl|exact absurd rfl h
 have g:(a==as0.NotIn)=false:=by cases a<;>first|rfl|exact absurd rfl i
 cases b<;>simp[af0,e,g]
def tB(t:TE):TT:=λb H Q=>t b H λx a=>∃c,x=.bl c/\Q c a
theorem B8{e:N1}{t:TE}(h:PE X e t)(he:∀a,isTrue e X.env a=(do let v <-a;as1 e.pos;ak9 [v] (truthy v)):=by intro _;rfl):PT X e (tB t):=by
 intro i s j H Q I n;refine isTrue_plain (thn (h i s j H _ I n) λv p b=>b.el λx m l o g=>?_) (he _);obtain⟨d,rfl,q⟩:=g;cases o;exact U9 ⟨m,l,q⟩
variable{p y:TT}{rest:List N1}
def EK(t u:TT):TT:=λb H Q=>t b H λc a=>if c=true then u b a Q else Q false a
def tOr(t u:TT):TT:=λb H Q=>t b H λc a=>if c=true then Q true a else u b a Q
def Ei(t:TT):TT:=λb H Q=>t b H λc a=>Q (!c) a
theorem zz(ha:PT X a p):PW X (.BoolOp .And [a] pos) p:=by
 intro j b s g H Q I h;refine isTrue_and (thn (ha b s g H Q I h) λc i e=>?_);cases c with
 |true=>exact isTrue_and_nil e
 |false=>exact e
theorem Bb(ha:PT X a p):PW X (.BoolOp .Or [a] pos) p:=by
 intro j b s g H Q I h;refine isTrue_or (thn (ha b s g H Q I h) λc i e=>?_);cases c with
 |false=>exact isTrue_or_nil e
 |true=>exact e
theorem AU(ha:PT X a p)(n:PW X (.BoolOp .And (b::rest) pos) y):PW X (.BoolOp .And (a::b::rest) pos) (EK p y):=by
 intro o i s j H Q I h;refine isTrue_and (thn (ha i s j H _ I h) λc q e=>e.el λm l g=>?_);cases c with
 |true=>exact n o i q j m Q l g
 |false=>exact⟨m,l,g⟩
theorem DW(ha:PT X a p)(n:PW X (.BoolOp .Or (b::rest) pos) y):PW X (.BoolOp .Or (a::b::rest) pos) (tOr p y):=by
 intro o i s j H Q I h;refine isTrue_or (thn (ha i s j H _ I h) λc q e=>e.el λm l g=>?_);cases c with
 |true=>exact⟨m,l,g⟩
 |false=>exact n o i q j m Q l g
theorem B7(ha:PT X a p):PT X (.UnaryOp .Not a pos) (Ei p):=by
 intro b s g H Q I h;exact isTrue_not (ha b s g H (λc e=>Q (!c) e) I h)
def Dk(g z:TE):TE:=λb H Q=>g b H λx a=>∃c,x=.bl c/\if c=true then z b a Q else Q (.bl false) a
def D8(g:TE):TE:=λb H Q=>g b H λx a=>∃c,x=.bl c/\Q (.bl (!c)) a
theorem An{op}{t:TE}(h:PE X a t):PE X (.BoolOp op [a] pos) t:=λb s e H Q I g=>BoolOp_one (h b s e H Q I g)
theorem AR(ha:PE X a g)(o:PE X (.BoolOp .And (b::rest) pos) z):PE X (.BoolOp .And (a::b::rest) pos) (Dk g z):=by
 intro j s l H Q I h;refine BoolOp_and (thn (ha j s l H _ I h) λv p i=>i.el λx n m q e=>?_);obtain⟨c,rfl,e⟩:=e;cases q;refine U9 ?_;cases c with
 |true=>exact o j p l n Q m e
 |false=>exact⟨.bl false,n,m,rfl,e⟩
theorem Ah(ha:PE X a g):PE X (.UnaryOp .Not a pos) (D8 g):=by
 intro i s m H Q I h;refine UnaryOp_ (thn (ha i s m H _ I h) λv o e=>e.el λx l j n b=>?_);obtain⟨c,rfl,b⟩:=b;cases n;exact not_of (U9 ⟨.bl (!c),l,j,rfl,b⟩)
def tIf(t:TT)(g z:TE):TE:=λa H Q=>t a H λc b=>if c=true then g a b Q else z a b Q
theorem vz{c:N1}(t:PT X c p)(ha:PE X a g)(q:PE X b z):PE X (.IfExp c a b pos) (tIf p g z):=by
 intro i s j H Q I h;refine wpAny_IfExp (thn (t i s j H _ I h) λd m e=>e.el λo n l=>?_);cases d with
 |true=>exact ha i m j o Q n l
 |false=>exact q i m j o Q n l
end
def SqL(K:E5)(H:Hp)(a:F4)(xs:List V):Prop :=
 Rd H a (.lst xs) ∨
  ∃(o:Obj) (b:Array u8) (n:Nat),K.lookup a=some o/\o.cls=.type "list"/\o.dict=none/\o.data=.seq b n/\b.size<=F9/\aw xs b.toList
def SqT(K:E5)(H:Hp)(a:F4)(xs:List V):Prop :=
 Rd H a (.tup xs) ∨
  ∃(o:Obj) (b:Array u8) (n:Nat),K.lookup a=some o/\(o.cls=.type "tuple"/\o.dict=none)/\o.data=.seq b n/\b.size<=F9/\aw xs b.toList
noncomputable def EI:u8->Option V
 |.none=>some .non
 |.bool b=>some (.bl b)
 |.int i _=>some (.int i)
 |.str x _=>some (.str x)
 |.bytes b _=>some (.byt b)
 |.float b _=>some (.flt b)
 |.ref a=>some (.ref a)
 |.type n=>some (.ty n)
 |_=>none
theorem aM.abs{x:V}{u:u8}(r:aM x u):EI u=some x:=by
 cases x with
 |non=>cases r;rfl
 |bl _=>cases r;rfl
 |int _=>obtain⟨t,rfl⟩:=r;rfl
 |str _=>obtain⟨t,rfl⟩:=r;rfl
 |byt _=>obtain⟨t,rfl⟩:=r;rfl
 |flt _=>obtain⟨t,rfl⟩:=r;rfl
 |ref _=>cases r;rfl
 |ty _=>cases r;rfl
theorem aM.inj{x y:V}{u:u8}(r:aM x u)(q:aM y u):x=y:=R1 (r.abs.symm.trans q.abs)
theorem aw.inj:∀{xs a:List V}{us:List u8},aw xs us->aw a us->xs=a
 |_,_,_,.nil,.nil=>rfl
 |_,_,_,.cons r t,.cons e b=>by rw[r.inj e,aw.inj t b]
section
variable{X:Cx}{g:List (F4×Obj)}{σ:St}{H:Hp}{s:E9}{a:F4}{xs y:List V}
theorem SqL.of{K:E5}(h:H a=some (.lst xs)):SqL K H a xs:=.inl (.inl h)
theorem SqT.of{K:E5}(h:H a=some (.tup xs)):SqT K H a xs:=.inl (.inl h)
theorem Inv.list(I:Inv X g σ H s)(h:SqL X.K H a xs):∃b:List u8,aw xs b/\PlainL s.heap a b.toArray/\xs.length<=F9:=by
 rcases h with h|⟨o,b,n,j,m,l,i,p,r⟩
 ·obtain⟨z,b,n,r,e⟩:=h.ok I.hok;exact⟨b,r,⟨_,n,e,rfl,rfl,rfl⟩,z⟩
 ·refine⟨b.toList,r,⟨o,n,I.kIn a o j,m,l,by simpa using i⟩,?_⟩;have e:=r.length;simp only[J1]at e
  lia
theorem Inv.tuple(I:Inv X g σ H s)(h:SqT X.K H a xs):∃b:List u8,aw xs b/\al9 s.heap a b.toArray/\xs.length<=F9:=by
 rcases h with h|⟨o,b,n,j,l,i,m,r⟩
 ·obtain⟨z,b,r,p⟩:=h.ok I.hok;exact⟨b,r,p.tup,z⟩
 ·refine⟨b.toList,r,⟨o,I.kIn a o j,l.1,n,by simpa using i⟩,?_⟩;have e:=r.length;simp only[J1]at e
  lia
theorem Inv.tupN(I:Inv X g σ H s)(h:SqT X.K H a xs):∃b:List u8,aw xs b/\kl s.heap a b.toArray/\xs.length<=F9:=by
 rcases h with h|⟨o,b,n,l,i,j,q,r⟩
 ·obtain⟨z,b,r,p⟩:=h.ok I.hok;exact⟨b,r,p,z⟩
 ·refine⟨b.toList,r,⟨o,I.kIn a o l,i.1,⟨n,by simpa using j⟩,i.2⟩,?_⟩;have e:=r.length;have m:b.toList.length=b.size:=J1
  lia
theorem Inv.list_inj(I:Inv X g σ H s)(h:SqL X.K H a xs)(h':SqL X.K H a y):xs=y:=by
 obtain⟨i,r,⟨o,n,e,_,_,d⟩,_⟩:=I.list h;obtain⟨b,p,⟨q,t,l,_,_,j⟩,_⟩:=I.list h';rw[e]at l;cases l;rw[d]at j;injection j with m _
 have:i=b:=by simpa using congrArg Array.toList m
 subst this;exact r.inj p
theorem Inv.tuple_inj(I:Inv X g σ H s)(h:SqT X.K H a xs)(h':SqT X.K H a y):xs=y:=by
 obtain⟨i,r,⟨o,e,_,n,d⟩,_⟩:=I.tuple h;obtain⟨b,p,⟨q,l,_,t,j⟩,_⟩:=I.tuple h';rw[e]at l;cases l;rw[d]at j;injection j with m _
 have:i=b:=by simpa using congrArg Array.toList m
 subst this;exact r.inj p
end
abbrev Cx.wish(X:Cx)(E:u8->E9->Prop):Cx:={ X with xe:=E }
abbrev Cx.nox(X:Cx):Cx:=X.wish λ_ _=>False
theorem Cx.Ok.wish{X:Cx}(ok:X.Ok)(E:u8->E9->Prop):(X.wish E).Ok :=
 ⟨ok.mod,ok.kind,ok.glob,ok.blt,ok.above,ok.inj,ok.has,ok.cab,ok.hd,ok.frames,ok.stk,ok.exf,ok.bs,ok.bsz,ok.noex,ok.exfs,ok.funs,ok.frf⟩
theorem Cx.Ok.unwish{X:Cx}{E:u8->E9->Prop}(ok:(X.wish E).Ok):X.Ok :=
 ⟨ok.mod,ok.kind,ok.glob,ok.blt,ok.above,ok.inj,ok.has,ok.cab,ok.hd,ok.frames,ok.stk,ok.exf,ok.bs,ok.bsz,ok.noex,ok.exfs,ok.funs,ok.frf⟩
section
variable{X:Cx}{g:List (F4×Obj)}{σ:St}{H:Hp}{s:E9}{E:u8->E9->Prop}
theorem Inv.wish(I:Inv X g σ H s)(E:u8->E9->Prop):Inv (X.wish E) g σ H s:=⟨I.ok.wish E,I.os,I.bare,I.base,I.loc,I.cell,I.free,I.freeC,I.pin,I.hok,I.len⟩
theorem Inv.unwish(I:Inv (X.wish E) g σ H s):Inv X g σ H s:=⟨I.ok.unwish,I.os,I.bare,I.base,I.loc,I.cell,I.free,I.freeC,I.pin,I.hok,I.len⟩
theorem SP.unwish{D:mF}{f:Flow}{s':E9}(h:SP (X.wish E) g D f s'):SP X g D f s':=by
 cases f with
 |next=>obtain⟨a,b,I,q⟩:=h;exact⟨a,b,I.unwish,q⟩
 |brk=>obtain⟨a,b,I,q⟩:=h;exact⟨a,b,I.unwish,q⟩
 |cont=>obtain⟨a,b,I,q⟩:=h;exact⟨a,b,I.unwish,q⟩
 |ret u=>obtain⟨v,a,b,I,r,q⟩:=h;exact⟨v,a,b,I.unwish,r,q⟩
theorem PSs.nox{st:List Z7}{t:TS}(h:PSs X.nox st t):PSs X st t:=λg s σ H D I a =>
 P5 (h g s σ H D (I.wish _) a) (λ_ _ q=>q.unwish) λ_ _ z=>T9 z
end
section
variable{X:Cx}{st:Z7}{rest:List Z7}{t u:TS}{e:N1}{te:TE}{pos:Pos}
def CO:TS:=λD a H=>D.nx a H
def Ek(t u:TS):TS:=λD a H=>t { D with nx:=u D } a H
theorem sk:PSs X [] CO:=λ_ _ a H _ I h=>ab9 ⟨a,H,I,h⟩
theorem lY(g:PS X st t)(l:PSs X rest u):PSs X (st::rest) (Ek t u):=by
 intro b s i H D I h;refine ag4 (thn (g b s i H { D with nx:=u D } I h) λf j q=>?_);cases f with
 |next =>
  obtain⟨a,e,m,q⟩:=q;exact l b j a e D m q
 |ret v=>exact q
 |brk=>exact q
 |cont=>exact q
theorem oW(b:PS X st t):PSs X [st] t:=by
 intro a s e H D I h;refine ag4 (thn (b a s e H D I h) λf g q=>?_);cases f with
 |next=>exact ab9 q
 |ret v=>exact q
 |brk=>exact q
 |cont=>exact q
theorem Inv.quiet{a:List (F4×Obj)}{σ:St}{H:Hp}{s:E9}(I:Inv X a σ H s):interactive X.env=false:=by simp[interactive,I.ok.kind]
def C7(te:TE):TS:=λD a H=>te a H λ_ b=>D.nx a b
theorem nU(he:PE X e te)(hs:ah5 e none pos.line X.env=af8 false:=by rfl):PS X (.Expr e pos) (C7 te):=by
 intro g s b H D I h;exact wpAny_Expr_any (thn (he g s b H _ I h) λv m a=>a.el λx j i n l=>⟨b,j,i,l⟩) I.quiet hs
def Ex(te:TE):TS:=λD a H=>te a H D.rt
theorem nM(he:PE X e te):PS X (.Return (some e) pos) (Ex te):=by
 intro g s b H D I h;exact wpAny_Return_some (thn (he g s b H _ I h) λv n a=>a.el λx j i m l=>⟨x,b,j,i,m,l⟩)
def EX(c:TT)(t u:TS):TS:=λD a H=>c a H λb e=>if b=true then t D a e else u D a e
theorem zO{c:N1}{a b:List Z7}{tc:TT}(p:PT X c tc)(ha:PSs X a t)(o:PSs X b u):PS X (.If c a b pos) (EX tc t u):=by
 intro i s e H D I h;refine wpAny_If (thn (p i s e H _ I h) λd l g=>g.el λn m j=>?_);cases d with
 |true=>exact ha i l e n D m j
 |false=>exact o i l e n D m j
end
abbrev TG:=V->St->Hp->(St->Hp->Prop)->Prop
abbrev TGs:=List V->St->Hp->(St->Hp->Prop)->Prop
def PG(X:Cx)(a:N1)(t:TG):Prop :=
 ∀(e:List (F4×Obj)) (s:E9) (h:St) (H:Hp) (v:V) (u:u8) (Q:St->Hp->Prop),Inv X e h H s->aM v u->t v h H Q ->
  J0 (L4 X.prog X.w) X.A (an1 a X.env u) (λ_ i=>∃ b g,Inv X e b g i/\Q b g) X.xe s
def PGs(X:Cx)(l:List N1)(t:TGs):Prop :=
 ∀(b:List (F4×Obj)) (s:E9) (h:St) (H:Hp) (i:List V) (e:List u8) (Q:St->Hp->Prop),Inv X b h H s->aw i e->t i h H Q ->
  J0 (L4 X.prog X.w) X.A (assignInOrder ((W5 l X.env).map (·.2)) e) (λ_ j=>∃ a g,Inv X b a g j/\Q a g) X.xe s
abbrev Ba:=V->V->V->Hp->(Hp->Prop)->Prop
def Eh(X:Cx)(t:Ba):Prop :=
 ∀(a:List (F4×Obj)) (s:E9) (e:St) (H:Hp) (o i v:V) (g h u:u8) (Q:Hp->Prop),Inv X a e H s->aM o g->aM i h->aM v u->t o i v H Q ->
  J0 (L4 X.prog X.w) X.A (setItem g h u) (λ_ j=>∃b,Inv X a e b j/\Q b) X.xe s
section
variable{X:Cx}{pos:Pos}
def pJ(i:Nat):TG:=λv a H Q=>Q (a.set i (some v)) H
theorem tX{i:Nat}{x:Str}(a:X.N.Nodup)(hi:X.N[i]?=some x)(b:Loc X.env.scope x)(e:X.fn x=true∨X.env.scope.names.lookup x=some .local:=by first|exact .inl rfl|exact .inr rfl|assumption):PG X (.Name x pos) (pJ i):=by
 intro m s j H v u Q I r h;exact wpAny_assign_Name (gM I a hi b r (λl g=>⟨_,H,g,h⟩) e)
def AA:TGs:=λb a H Q=>b=[]/\Q a H
def xN(t:TG)(u:TGs):TGs:=λg e H Q=>∃v r,g=v::r/\t v e H λa b=>u r a b Q
theorem sg:PGs X [] AA:=by
 intro b s a H i g Q I r h;obtain⟨e,h⟩:=h;subst e;cases r;exact assignInOrder_nil ⟨a,H,I,h⟩
theorem o9{e:N1}{a:List N1}{t:TG}{u:TGs}(n:PG X e t)(w:PGs X a u)
  (hs:(W5 (e::a) X.env).map (·.2)=an1 e X.env::(W5 a X.env).map (·.2):=by rfl):PGs X (e::a) (xN t u):=by
 intro g s i H B z Q I r h;obtain⟨v,A,l,h⟩:=h;subst l;cases r with
 |cons r q =>
  rw[hs];refine assignInOrder_cons (thn (n g s i H _ _ _ I r h) λ_ m ⟨b,p,o,j⟩=>?_);exact w g m b p _ _ Q o q j
def BZ(K:E5)(n:Nat)(t:TGs):TG:=λv e H Q=>∃a b,v=.ref a/\SqT K H a b/\b.length=n/\t b e H Q
theorem vP{g:List N1}{k:Nat}{t:TGs}{n:Nat}(M:X.calm=true)(h:PGs X g t)
  (hn:(W5 g X.env).length=n:=by rfl) (i:(W5 g X.env).findIdx? (·.1)=none:=by rfl):PG X (.Tuple g k pos) (BZ X.K n t):=by
 intro m s l H v u Q I r j;obtain⟨a,L,C,J,z,j⟩:=j;subst C;cases r;obtain⟨B,q,w,N⟩:=I.tuple J;refine assign_Tuple_tuple (I.ok.hd M) w (by simp[hn,<-z,q.length]) i λA E=>?_;have G:Inv X m l H { s with heap:=A }:=I.kept (t':=s.toks) λb o e=>E b o (K8 (I0 e)) e;exact h m _ l H L _ Q G (by simpa using q) j
def En(g e:TE)(t:Ba):TG:=λv a H Q=>g a H λo b=>e a b λi h=>t o i v h λj=>Q a j
theorem AJ{o i:N1}{l m:TE}{t:Ba}(q:PE X o l)(hi:PE X i m)(hs:Eh X t)
  (ha:∀ v,an1 (.Subscript o i pos) X.env v = (do
   let b <-ak9 [v] (aa2 o X.env)
   let e <-ak9 [v,b] (aa2 i X.env)
   as1 pos
   ak9 [v,b,e] (setItem b e v)
   release [v,b,e] []):=by intro _;rfl):PG X (.Subscript o i pos) (En l m t):=by
 intro j s g H v u Q I r h;rw[ha];refine o0 (N6 (thn (q j s g H _ I h) λb C a=>a.el λx J G N p=>?_));refine o0 (N6 (thn (hi j C g J _ G p) λe M a=>a.el λy n L w E=>?_));refine o0 (al4 (o0 (N6 (thn (hs j M g n x y v b e u _ L N w r E) λ_ O ⟨z,B,A⟩=>?_))));exact wpAny_release ⟨g,z,B,A⟩
def A8(te:TE)(g:TG):TS:=λD a H=>te a H λx b=>g x a b D.nx
theorem v4{a e:N1}{te:TE}{g:TG}(he:PE X e te)(hg:PG X a g)(hs:swapsWithSole [a] e pos.line X.env=af8 false:=by rfl)(t:swappedStores [a] e X.env=af8 none:=by rfl)
  (m:(W5 [a] X.env).map (·.2)=[an1 a X.env]:=by rfl):PS X (.Assign [a] e pos) (A8 te g):=by
 intro i s j H D I h;refine wpAny_Assign_stores (thn (he i s j H _ I h) λv n b=>b.el λx p o u l=>?_) hs t;rw[m];exact thn (hg i n j p x v _ o u l) λ_ w q=>q
theorem Bh{i:Nat}{x:Str}{e:N1}{te:TE}{a:Pos}(g:X.N.Nodup)(hi:X.N[i]?=some x)(n:Loc X.env.scope x)(he:PE X e te)(hs:ah5 e (some (.Name x a)) pos.line X.env=af8 false:=by rfl)(t:X.fn x=true∨X.env.scope.names.lookup x=some .local:=by first|exact .inl rfl|exact .inr rfl|assumption):
  PS X (.Assign [.Name x a] e pos) (A8 te (pJ i)):=by
 intro l s m H D I h;refine wpAny_Assign_Name (thn (he l s m H _ I h) λv w b=>b.el λy p o u j=>?_) hs;exact gM o g hi n u (λz q=>⟨_,p,q,j⟩) t
end
section
variable{X:Cx}{pos:Pos}
def BF(c:TT)(j:TS):TS:=λD a H=>∃W:Nat->St->Hp->Prop,(∃m,W m a H)/\∀m a H,W m a H ->
 c a H λb g=>if b=true then ∃N:St->Hp->Prop,(∀ e h,N e h->∃i,i<m/\W i e h)/\j { D with nx:=N,ct:=N,bk:=D.nx } a g else D.nx a g
theorem xE{c:N1}{g:List Z7}{tc:TT}{J:TS}(G:V2 (L4 X.prog X.w) X.A X.env X.xe)(R:PT X c tc)(Q:PSs X g J):PS X (.While c g [] pos) (BF tc J):=by
 intro t s S H D I h;obtain⟨W,⟨m0,Y⟩,i⟩:=h;refine wpAny_While (codeAny_whileLoop (λn P=>∃ j B,Inv X t j B P/\W n j B) ?_ m0 ⟨S,H,I,Y⟩);rintro n T ⟨e,L,U,O⟩;refine ac0 G (thn (R t T e L _ U (i n e L O)) λb Z q=>q.el λE M o=>?_);cases b with
 |true =>
  obtain⟨N,C,o⟩:=o;rw[if_pos rfl];refine ac0 G (thn (Q t Z e E _ M o) λf s3 m=>?_);cases f with
  |next =>
   obtain⟨a,l,A,p⟩:=m;obtain⟨z,w,u⟩:=C a l p;exact⟨z,w,a,l,A,u⟩
  |cont =>
   obtain⟨a,l,A,p⟩:=m;obtain⟨z,w,u⟩:=C a l p;exact⟨z,w,a,l,A,u⟩
  |brk=>exact m
  |ret v=>exact m
 |false =>
  rw[if_neg P6];exact ab9 ⟨e,E,M,o⟩
end
structure It where
 go:Nat->Hp->Prop
 yld:Nat->Hp->V->Hp->Prop
 stop:Nat->Hp->Prop
def jE(X:Cx)(a:List (F4×Obj))(H:Hp)(b:F4):Prop :=
 H b=none/\b≠X.env.locals/\b∉X.fs/\(b∈X.ex∨X.s₀.heap.objs.size<=b)/\(∀x c,X.env.cells.lookup x=some c->c≠b)/\∀p∈X.pn++a,p.1≠b
theorem Inv.fpOk{X:Cx}{g:List (F4×Obj)}{σ:St}{H h:Hp}{s:E9}{b:F4}(I:Inv X g σ H s)(a:s.heap.objs.size<=b)(hn:h b=none):jE X g h b:=by
 refine⟨hn,ae1 (H0 I.lt a),I.nofs a,.inr (O9 I.sz a),λx c e z=>?_,λp i z=>?_⟩
 ·obtain⟨v,q⟩:=I.cell x c e;exact absurd (H0 q.lt (by rw[z];exact a)) (Z3 _)
 ·exact absurd (H0 (I0 (I.pin p i).1) (by rw[z];exact a)) (Z3 _)
structure qE(P:K9) (w:P7) (K:E5) (tg:N1) (J:It) (fp:List F4) (it:F4) (tn:Nat->K3->Prop):Prop where
 mem:it∈fp
 obj:∀i h,tn i h->∀b∈fp,∃o,h.get? b=some o/\∀v,o.data≠.cell v
 keep:∀i h h',tn i h->(∀b∈fp,∀o,h.get? b=some o->h'.get? b=some o)->tn i h'
 item:∀(X:Cx),X.prog=P->X.w=w->X.K=K->X.calm=true->∀(i:Nat) (aa:List (F4×Obj)) (s:E9) (σ:St) (H:Hp) (E:u8->E9->Prop),Inv X aa σ H s->(∀b∈fp,jE X aa H b)->tn i s.heap->J.go i H ->
  J0 (L4 P w) X.A (aq6 (.ref it)) (λr s1=>∃u,r=some u /\
   J0 (L4 P w) X.A (ah6 tg (.ref it) u) (λ_ s2=>∃x H',Inv X aa σ H' s2/\aM x u/\J.yld i H x H'/\tn (i+1) s2.heap/\∀b∈fp,H' b=none) E s1) E s
 done:∀(X:Cx),X.prog=P->X.w=w->X.K=K->X.calm=true->∀(i:Nat) (aa:List (F4×Obj)) (s:E9) (σ:St) (H:Hp) (E:u8->E9->Prop),Inv X aa σ H s->(∀b∈fp,jE X aa H b)->tn i s.heap->J.stop i H ->
  J0 (L4 P w) X.A (aq6 (.ref it)) (λr s1=>r=none/\Inv X aa σ H s1) E s
 self:∀(A:M8) (i:Nat) (s:E9) (Q:u8->E9->Prop) (E:u8->E9->Prop),tn i s.heap->Q (.ref it) s->J0 (L4 P w) A (as9 (.ref it)) Q E s
abbrev TI:=St->Hp->(It->Hp->Prop)->Prop
def PIE(X:Cx)(g:List (F4×Obj))(σ:St)(m:N1)(R:It->Hp->Prop)(e:u8)(h:E9):Prop :=
 ∃(l:F4) (j:List F4) (i:Nat->K3->Prop) (J:It) (a:Hp),e=.ref l/\Inv X g σ a h/\qE X.prog X.w X.K m J j l i/\i 0 h.heap/\(∀b∈j,jE X g a b)/\R J a
def PI(X:Cx)(h iter:N1)(g:TI):Prop :=
 ∀(b:List (F4×Obj)) (s:E9) (a:St) (H:Hp) (R:It->Hp->Prop),Inv X b a H s->g a H R ->
  J0 (L4 X.prog X.w) X.A (aa2 iter X.env) (λv e=>J0 (L4 X.prog X.w) X.A (as9 v) (PIE X b a h R) X.xe e) X.xe s
theorem sU{M:ar7}{A:M8}{E:u8->E9->Prop}{s:E9}{e:N1}{it:F4}{u:u8}{o:Obj}{n:String}{b:Array u8}{Q:Unit->E9->Prop}(g:s.heap.get? it=some o)(j:o.cls=.type n)(i:o.data=.fields b)
    (hn:["enumerate","zip","dict_itemiterator","dict_reverseitemiterator","odict_iterator","itertools.zip_longest","itertools.pairwise"].contains n=false) (a:Q () s):J0 M A (ah6 e (.ref it) u) Q E s:=by
  unfold ah6;cases e<;>first
    |exact E6 a
    |(cases u<;>first
        |exact E6 a
        | (refine o0 (wpAny_load g ?_)
           rw[j,i];show J0 M A (if(["enumerate","zip","dict_itemiterator","dict_reverseitemiterator","odict_iterator","itertools.zip_longest","itertools.pairwise"].contains n&&b[0]?==some (ap8 _))=true then _ else _) Q E s;rw[if_neg (by intro h;rw[hn,K2]at h;cases h)];exact E6 a))
def Itl(K:E5)(a:F4):It :=
 ⟨λi H=>∃b x,SqL K H a b/\b[i]?=some x,λi H x e=>e=H/\∀b,SqL K H a b->b[i]?=some x,λi H=>∃b,SqL K H a b/\b.length<=i⟩
def Itt(K:E5)(a:F4):It :=
 ⟨λi H=>∃b x,SqT K H a b/\b[i]?=some x,λi H x e=>e=H/\∀b,SqT K H a b->b[i]?=some x,λi H=>∃b,SqT K H a b/\b.length<=i⟩
def Itr(lo:Int)(n:Nat):It:=⟨λi _=>i<n,λi H x a=>a=H/\x=.int (lo+i),λi _=>n<=i⟩
theorem mN{P:K9}{w:P7}{K:E5}{Y:N1}(a it:F4):qE P w K Y (Itl K a) [it] it (λi h=>h.IsListIter it a i) where
 mem:=by simp
 obj:=λi h st b g=>by
  have e:b=it:=by simpa using g
  subst e;obtain⟨o,e,c,d⟩:=st;exact⟨o,e,λv z=>by rw[d]at z;cases z⟩
 keep:=λi h n st k=>st.at λo e=>k it (by simp) o e
 item:=by
  intro X C J hK S i R s T H E I m st N;subst C J hK;obtain⟨xs,x,q,M⟩:=N;obtain⟨L,B,p,hz⟩:=I.list q;obtain⟨u,hu,ru⟩:=B.get M;obtain⟨t,A,Z,Q,G,O⟩:=m it (by simp);refine wpAny_pyNext_list_item st p.isList (x:=u) (by simpa using hu) λn j sb=>?_;have I1:Inv X R T H { s with heap:=n }:=I.turned (t':=s.toks) (λb o g e=>(sb.2 b g).trans e) t A Q G O;obtain⟨o,e,c,d⟩:=id j;exact⟨u,rfl,sU (s:={ s with heap:=n }) e c d (by decide) ⟨x,H,I1,ru,⟨rfl,λys hy=>by rw[I.list_inj hy q];exact M⟩,j,λb g=>(m b g).1⟩⟩
 done:=by
  intro X C J hK S i R s T H E I m st N;subst C J hK;obtain⟨xs,q,M⟩:=N;obtain⟨L,B,p,hz⟩:=I.list q;obtain⟨t,A,Z,Q,G,O⟩:=m it (by simp);have hl:=B.length;exact wpAny_pyNext_list_end (I.ok.hd S) st p.isList (by simp;lia) λn U=>⟨rfl,I.turned (t':=s.toks) (λb o g e=>U b o g e) t A Q G O⟩
 self:=λ_ _ _ _ _ st h=>wpAny_pyIter_listiter st h
theorem rq{P:K9}{w:P7}{K:E5}{Y:N1}(a it:F4):qE P w K Y (Itt K a) [it] it (λi h=>h.IsTupleIter it a i) where
 mem:=by simp
 obj:=λi h st b g=>by
  have e:b=it:=by simpa using g
  subst e;obtain⟨o,e,c,d⟩:=st;exact⟨o,e,λv z=>by rw[d]at z;cases z⟩
 keep:=λi h q st k=>st.at λo e=>k it (by simp) o e
 item:=by
  intro X G L hK S i R s T H E I n st N;subst G L hK;obtain⟨xs,x,t,M⟩:=N;obtain⟨j,C,p,hz⟩:=I.tuple t;obtain⟨u,hu,ru⟩:=C.get M;obtain⟨A,B,Z,Q,J,O⟩:=n it (by simp);refine wpAny_pyNext_tuple_item st (show s.heap.IsTuple a j.toArray from p) (x:=u) (by simpa using hu) λq l sb=>?_;have I1:Inv X R T H { s with heap:=q }:=I.turned (t':=s.toks) (λb o g e=>(sb.2 b g).trans e) A B Q J O;obtain⟨o,e,c,d⟩:=id l;exact⟨u,rfl,sU (s:={ s with heap:=q }) e c d (by decide) ⟨x,H,I1,ru,⟨rfl,λys hy=>by rw[I.tuple_inj hy t];exact M⟩,l,λb g=>(n b g).1⟩⟩
 done:=by
  intro X G L hK S i R s T H E I n st N;subst G L hK;obtain⟨xs,t,M⟩:=N;obtain⟨j,C,p,hz⟩:=I.tuple t;obtain⟨A,B,Z,Q,J,O⟩:=n it (by simp);have hl:=C.length;exact wpAny_pyNext_tuple_end (I.ok.hd S) st (show s.heap.IsTuple a j.toArray from p) (by simp;lia) λq U=>⟨rfl,I.turned (t':=s.toks) (λb o g e=>U b o g e) A B Q J O⟩
 self:=λ_ _ _ _ _ st h=>wpAny_pyIter_tupleiter st h
theorem rO{P:K9}{w:P7}{K:E5}{R:N1}(it:F4)(lo:Int)(n:Nat):qE P w K R (Itr lo n) [it] it (λi h=>IsRangeIter h it (lo+(i:Nat)*1) ((n:Int)-(i:Nat)) 1) where
 mem:=by simp
 obj:=λi h st b a=>by
  have e:b=it:=by simpa using a
  subst e;exact⟨_,st,λv z=>by
   have Z:ae2 _=ar8.cell v:=z;cases Z⟩
 keep:=λi h m st k=>k it (by simp) _ st
 item:=by
  intro X A C hK u i N s O H E I l st G;subst A C hK;obtain⟨p,q,T,L,B,J⟩:=l it (by simp);have W:=Walks.range (prog:=X.prog) (w:=X.w) (I.ok.hd u) it lo 1 n;refine W.item i s _ _ G st λv m M S g U=>?_;obtain⟨t,rfl⟩:=S;have Y:Inv X N O H { s with heap:=m,toks:=M }:=I.turned (λb o a e=>U b o (by simpa using a) e) p q L B J;refine⟨_,rfl,sU (s:={ s with heap:=m,toks:=M }) (n:="range_iterator") g rfl rfl (by decide) ⟨.int (lo+i),H,Y,⟨t,?_⟩,⟨rfl,rfl⟩,g,λb a=>(l b a).1⟩⟩;rw[Int.mul_one]
 done:=by
  intro X A C hK u i N s O H E I l st G;subst A C hK;obtain⟨p,q,T,L,B,J⟩:=l it (by simp);exact wpAny_pyNext_range_end (I.ok.hd u) st (by have:n<=i:=G;lia) λm Q=>⟨rfl,I.turned (t':=s.toks) (λb o a e=>Q b o a e) p q L B J⟩
 self:=λ_ _ _ _ _ st h=>wpAny_pyIter_rangeiter st h
section
variable{X:Cx}{y:N1}
theorem xF{g:List (F4×Obj)}{σ:St}{H:Hp}{s:E9}{R:It->Hp->Prop}{E:u8->E9->Prop}{lo hi:Int}{t u v:Tok}{a:Nat}(I:Inv X g σ H s)(l:-(2 ^ 62)<=lo)(w:lo<2 ^ 62)(n:-(2 ^ 62)<=hi)(i:hi<2 ^ 62)
  (q:R (Itr lo (hi-lo).toNat) H):J0 (L4 X.prog X.w) X.A (as9 (.ref s.heap.objs.size)) (PIE X g σ y R) E { s with heap:=s.heap.push { cls:=.type "range",data:=.fields #[.int lo t,.int hi u,.int 1 v] },toks:=a }:=by
 refine wpAny_pyIter_range (IsRange.new ..) (small_one l w n i) ?_;have h:Inv X g σ H { s with heap:=s.heap.push { cls:=.type "range",data:=.fields #[.int lo t,.int hi u,.int 1 v] },toks:=a }:=I.kept λb o e=>E7 _ e;refine⟨(s.heap.push { cls:=.type "range",data:=.fields #[.int lo t,.int hi u,.int 1 v] }).objs.size,[(s.heap.push { cls:=.type "range",data:=.fields #[.int lo t,.int hi u,.int 1 v] }).objs.size],_,_,H,rfl,
  h.kept (t':=a) λb o e=>E7 _ e,rO _ lo (hi-lo).toNat,?_,λb m=>?_,q⟩
 ·have j:lo+((0:Nat):Int)*1=lo:=by simp
  have p:(((hi-lo).toNat:Nat):Int)-((0:Nat):Int)=M7.Range.rangeSize lo hi 1:=by rw[rangeSize_one];split<;>lia
  show IsRangeIter _ _ (lo+((0:Nat):Int)*1) ((((hi-lo).toNat:Nat):Int)-((0:Nat):Int)) 1;rw[j,p];exact K1 _ rfl
 ·have e:b=(s.heap.push { cls:=.type "range",data:=.fields #[.int lo t,.int hi u,.int 1 v] }).objs.size:=by simpa using m
  subst e;exact h.fpOk (F6 _) (h.hok.fresh (F6 _))
def DZ(e:TA):TI:=λb H R=>e b H λg a=>∃j:Int,g=[.int j]/\-(2 ^ 62)<=j/\j<2 ^ 62/\R (Itr 0 j.toNat) a
theorem uN{a:N1}{i:TA}{p pos:Pos}(hg:Gl X "range")(z:X.mg "range"=none)(ha:PA X [a] i)(hs:F3 [a] X.env=[(false,aa2 a X.env)]:=by rfl):PI X y (.Call (.Name "range" p) [a] [] pos) (DZ i):=by
 intro m s l H R I h;refine Call_ (jV I hg z boot_range (PyProof.Rows.callWith_type1 (thn (ha pos m s l H _ I h) λA C g=>g.el λB E o u b=>?_) hs rfl));obtain⟨j,e,b,n,q⟩:=b;subst e;cases u with
 |cons r w =>
  cases w;obtain⟨t,rfl⟩:=r;exact call_range_1 (xF o (by lia) (by lia) b n (by simpa using q))
def E1(p:TI)(g:TG)(n:TS):TS:=λD a H=>p a H λJ o=>∃W:Nat->Nat->St->Hp->Prop,(∃m,W 0 m a o)/\∀i m a H,W i m a H ->
 (J.stop i H/\D.nx a H)∨(J.go i H/\∃N:St->Hp->Prop,(∀ e b,N e b->∃j,j<m/\W (i+1) j e b)/\∀x b,J.yld i H x b->g x a b λh l=>n { D with nx:=N,ct:=N,bk:=D.nx } h l)
def iL(a:List F4)(h:K3):List (F4×Obj):=a.filterMap λb=>(h.get? b).map λo=>(b,o)
theorem fk{a:List F4}{h:K3}{b:F4}{o:Obj}(g:b∈a)(e:h.get? b=some o):(b,o)∈iL a h:=U5.mpr ⟨b,g,by rw[e];rfl⟩
theorem nq{a:List F4}{h:K3}{p:F4×Obj}(j:p∈iL a h):p.1∈a/\h.get? p.1=some p.2:=by
 obtain⟨b,g,e⟩:=U5.mp j;cases q:h.get? b with
 |none=>rw[q]at e;cases e
 |some o =>
  rw[q]at e;have i:(b,o)=p:=R1 e;subst i;exact⟨g,q⟩
theorem Inv.pinned{g:List (F4×Obj)}{σ:St}{H:Hp}{s:E9}{a:List F4}(I:Inv X g σ H s)(t:∀b∈a,jE X g H b)(n:∀b∈a,∃o,s.heap.get? b=some o/\∀v,o.data≠.cell v):Inv X (g++iL a s.heap) σ H s :=
 I.pins_of λp j=>(Q3.mp j).elim (λz=>I.pin p (M0 _ z)) λz=>by
  obtain⟨i,e⟩:=nq z;obtain⟨l,m,q,_⟩:=t p.1 i;obtain⟨o,h,d⟩:=n p.1 i;rw[e]at h;cases h;exact⟨e,l,m,q,d⟩
theorem Inv.unpinned{a pl:List (F4×Obj)}{σ:St}{H:Hp}{s:E9}(I:Inv X (a++pl) σ H s):Inv X a σ H s:=I.pins_of λp b=>I.pin p (M0 _ (U3 _ b))
theorem xj{iter:N1}{B:List Z7}{wi:TI}{g:TG}{tb:TS}{pos:Pos}(Q:V2 (L4 X.prog X.w) X.A X.env X.xe)(hc:X.calm=true)(hi:PI X y iter wi)(hg:PG X y g)(j:PSs X B tb)
  (hs:∀x,W6 iter X.env x=af8 x:=by intro _;rfl):PS X (.For y iter B [] pos) (E1 wi g tb):=by
 intro E s σ H D I h;refine wpAny_For (thn (hi E s σ H _ I h) λv s1 h1=>thn h1 λa2 s2 h2=>?_) hs;obtain⟨it,M,tn,J,H2,e,I2,T,a1,f2,W,⟨m0,w0⟩,G⟩:=h2;subst e
 -- what stays true of the iterator's objects through the loop
 have q:∀{z:Hp},(∀b∈M,z b=none)->∀b∈M,jE X E z b:=λhn b j=>⟨hn b j,(f2 b j).2⟩;refine codeAny_forLoop_any (λn s'=>∃i w z,Inv X E w z s'/\tn i s'.heap/\(∀b∈M,z b=none)/\W i n w z) ?_ m0 ⟨0,σ,H2,I2,a1,λb j=>(f2 b j).1,w0⟩;rintro n s3 ⟨i,l,R,I3,P,O,w3⟩;rcases G i n l R w3 with⟨stop,qn⟩|⟨go,N,hN,step⟩
 ·refine ac0 Q (thn (T.done X rfl rfl rfl hc i E s3 l R X.xe I3 (q O) P stop) λr s4 ⟨Y,I4⟩=>?_);subst Y;exact ab9 ⟨l,R,I4,qn⟩
 ·refine ac0 Q (thn (T.item X rfl rfl rfl hc i E s3 l R X.xe I3 (q O) P go) λr s4 ⟨u,Y,h4⟩=>?_);subst Y;refine ac0 Q (thn h4 λ_ s5 ⟨x,H5,I5,r5,y5,C,Z⟩=>?_);have S:=I5.pinned (q Z) (T.obj _ _ C);refine ac0 Q (thn (hg _ s5 l H5 x u _ S r5 (step x H5 y5)) λ_ s6 ⟨a0,H6,I6,q6⟩=>?_);refine ac0 Q (thn (j _ s6 a0 H6 _ I6 q6) λf U A=>?_);have again:∀{a:St} {t:Hp},Inv X (E++iL M s5.heap) a t U->N a t->∃m,m<n/\∃i w z,Inv X E w z U/\tn i U.heap/\(∀b∈M,z b=none)/\W i m w z:=λ{a t} p L=>by
   obtain⟨m',hm,w7⟩:=hN a t L;refine⟨m',hm,i+1,a,t,p.unpinned,T.keep _ _ _ C λb j o e=>(p.pin (b,o) (M0 _ (M0 _ (fk j e)))).1,λb j=>?_,w7⟩;obtain⟨o,e,d⟩:=T.obj _ _ C b j;exact(p.pin (b,o) (M0 _ (M0 _ (fk j e)))).2.1
  cases f with
  |next=>obtain⟨a,t,p,L⟩:=A;exact again p L
  |cont=>obtain⟨a,t,p,L⟩:=A;exact again p L
  |brk=>obtain⟨a,t,p,A⟩:=A;exact⟨a,t,p.unpinned,A⟩
  |ret v=>obtain⟨x7,a,t,p,r7,A⟩:=A;exact⟨x7,a,t,p.unpinned,r7,A⟩
end
abbrev R2:=V->V->Hp->VK->Prop
def OpR(X:Cx)(f:u8->u8->Sem u8)(r:R2):Prop :=
 ∀(a:List (F4×Obj)) (s:E9) (b:St) (H:Hp) (x y:V) (v u:u8) (Q:VK),Inv X a b H s->aM x v->aM y u->r x y H Q ->
  J0 (L4 X.prog X.w) X.A (f v u) (EP X a b Q) X.xe s
def UnR(X:Cx)(f:u8->Sem u8)(r:V->Hp->VK->Prop):Prop :=
 ∀(a:List (F4×Obj)) (s:E9) (b:St) (H:Hp) (x:V) (v:u8) (Q:VK),Inv X a b H s->aM x v->r x H Q ->
  J0 (L4 X.prog X.w) X.A (f v) (EP X a b Q) X.xe s
def cy(X:Cx)(f:u8)(r:List V->Hp->VK->Prop):Prop :=
 ∀(a:List (F4×Obj)) (s:E9) (e:St) (H:Hp) (g:List V) (b:List u8) (Q:VK),Inv X a e H s->aw g b->r g H Q ->
  J0 (L4 X.prog X.w) X.A (ar9 f b) (EP X a e Q) X.xe s
def tOp(r:R2)(h b:TE):TE:=λa H Q=>h a H λx e=>b a e λy g=>r x y g Q
def tUn(r:V->Hp->VK->Prop)(e:TE):TE:=λb H Q=>e b H λx a=>r x a Q
def rI(C:Int->Int->Prop)(g:Int->Int->V):R2:=λx y H Q=>∃i j,x=.int i/\y=.int j/\C i j/\Q (g i j) H
def rI0(g:Int->Int->V):R2:=λx y H Q=>∃i j,x=.int i/\y=.int j/\Q (g i j) H
def rU(g:Int->V):V->Hp->VK->Prop:=λx H Q=>∃i,x=.int i/\Q (g i) H
section
variable{X:Cx}{a b c:N1}{p z tc:TE}{pos:Pos}
theorem Ap(ha:PE X a p)(q:PE X b z){l:List (F4×Obj)}{s:E9}{σ:St}{H:Hp}{R:V->V->Hp->Prop}(I:Inv X l σ H s)
  (h:p σ H λx n=>z σ n λy g=>R x y g) {Q:u8->E9->Prop} {f:u8->u8->Sem u8}
  (E:∀v u m x y g,Inv X l σ g m->aM x v->aM y u->R x y g->J0 (L4 X.prog X.w) X.A (f v u) Q X.xe m) :
  J0 (L4 X.prog X.w) X.A (aa2 a X.env) (λv j=>J0 (L4 X.prog X.w) X.A (aa2 b X.env) (λu i=>J0 (L4 X.prog X.w) X.A (f v u) Q X.xe i) X.xe j) X.xe s:=by
 refine thn (ha l s σ H _ I h) λv w e=>e.el λx n B G o=>?_;refine thn (q l w σ n _ B o) λu m e=>e.el λy g C t A=>?_;exact E v u m x y g C G t A
theorem zP{e:Operator}{r:R2}(l:OpR X (X5 e) r)(ha:PE X a p)(o:PE X b z):PE X (.BinOp a e b pos) (tOp r p z):=by
 intro n s g H Q I h;exact wpAny_BinOp (Ap ha o I h λv u w x y i t j m q=>l n w g i x y v u Q t j m q)
theorem Dg{e:UnaryOp}{r:V->Hp->VK->Prop}(l:UnR X (unaryOp e) r)(ha:PE X a p):PE X (.UnaryOp e a pos) (tUn r p):=by
 intro g s i H Q I h;exact UnaryOp_ (thn (ha g s i H _ I h) λv m b=>b.el λx o n q j=>l g m i o x v Q n q j)
theorem opI{f:u8->u8->Sem u8}{C:Int->Int->Prop}{g:Int->Int->Int}
  (rule:∀(i j:Int) (t u:Tok) (s:E9) (Q:u8->E9->Prop) (E:u8->E9->Prop),C i j->Q (.int (g i j) s.toks) { s with toks:=s.toks+1 }->J0 (L4 X.prog X.w) X.A (f (.int i t) (.int j u)) Q E s) :
  OpR X f (rI C λi j=>.int (g i j)):=by
 intro e s l H x y v u Q I rx ry h;obtain⟨i,j,rfl,rfl,b,q⟩:=h;obtain⟨t,rfl⟩:=rx;obtain⟨a,rfl⟩:=ry;exact rule i j t a s _ _ b ⟨.int (g i j),H,I.tok _,⟨_,rfl⟩,q⟩
theorem Cf{f:u8->u8->Sem u8}{g:Int->Int->Int}
  (rule:∀(i j:Int) (t u:Tok) (s:E9) (Q:u8->E9->Prop) (E:u8->E9->Prop),Q (.int (g i j) s.toks) { s with toks:=s.toks+1 }->J0 (L4 X.prog X.w) X.A (f (.int i t) (.int j u)) Q E s) :
  OpR X f (rI0 λi j=>.int (g i j)):=by
 intro b s e H x y v u Q I rx ry h;obtain⟨i,j,rfl,rfl,q⟩:=h;obtain⟨t,rfl⟩:=rx;obtain⟨a,rfl⟩:=ry;exact rule i j t a s _ _ ⟨.int (g i j),H,I.tok _,⟨_,rfl⟩,q⟩
theorem yS{f:u8->u8->Sem u8}{g:Int->Int->Bool}
  (rule:∀(i j:Int) (t u:Tok) (s:E9) (Q:u8->E9->Prop) (E:u8->E9->Prop),Q (.bool (g i j)) s->J0 (L4 X.prog X.w) X.A (f (.int i t) (.int j u)) Q E s) :
  OpR X f (rI0 λi j=>.bl (g i j)):=by
 intro b s e H x y v u Q I rx ry h;obtain⟨i,j,rfl,rfl,q⟩:=h;obtain⟨t,rfl⟩:=rx;obtain⟨a,rfl⟩:=ry;exact rule i j t a s _ _ ⟨.bl (g i j),H,I,rfl,q⟩
def mD(i j:Int):Prop:=0<j/\j<1073741824
def qj(i j:Int):Prop:=0<=j/\j<=1000000/\i.natAbs<2 ^ 64
def jQ(i j:Int):Prop:=(-(2 ^ 64)<i/\i<2 ^ 64)∨(-(2 ^ 64)<j/\j<2 ^ 64)
theorem jQ.ok{i j:Int}(h:jQ i j):IntMulOk i j:=by
 rcases h with⟨a,b⟩|⟨a,b⟩
 ·exact .of_left (intBits_le_64 a b)
 ·exact .of_right (intBits_le_64 a b)
theorem Bu:OpR X (X5 .Add) (rI0 λi j=>.int (i+j)):=Cf λ_ _ _ _ _ _ _ q=>add_int q
theorem BO:OpR X (X5 .Sub) (rI0 λi j=>.int (i-j)):=Cf λ_ _ _ _ _ _ _ q=>sub_int q
theorem B4:OpR X (X5 .Mult) (rI jQ λi j=>.int (i*j)):=opI λ_ _ _ _ _ _ _ a q=>mul_int q a.ok
theorem yT:OpR X (X5 .FloorDiv) (rI mD λi j=>.int (i / j)):=opI λi j _ _ _ _ _ a q=>by
 have b:(0:Int)<j:=a.1;have e:j<1073741824:=a.2;exact floordiv_int (by lia) (by rw[Int.fdiv_eq_ediv_of_nonneg i (by lia)];exact q) (.inl (PyProof.noPylong_small (by lia)))
theorem AN:OpR X (X5 .Mod) (rI (λ_ j=>0<j) λi j=>.int (i % j)):=opI λi j _ _ _ _ _ a q=>by
 have b:(0:Int)<j:=a;exact mod_int' (by lia) (by rw[Int.fmod_eq_emod_of_nonneg i (by lia)];exact q)
theorem AE:OpR X (X5 .Pow) (rI qj λi j=>.int (i ^ j.toNat)):=opI λ_ _ _ _ _ _ _ a q=>pow_int_small a.1 a.2.1 a.2.2 q
theorem unI{f:u8->Sem u8}{g:Int->Int}
  (rule:∀(i:Int) (t:Tok) (s:E9) (Q:u8->E9->Prop) (E:u8->E9->Prop),Q (.int (g i) s.toks) { s with toks:=s.toks+1 }->J0 (L4 X.prog X.w) X.A (f (.int i t)) Q E s) :
  UnR X f (rU λi=>.int (g i)):=by
 intro b s a H x v Q I rx h;obtain⟨i,rfl,q⟩:=h;obtain⟨t,rfl⟩:=rx;exact rule i t s _ _ ⟨.int (g i),H,I.tok _,⟨_,rfl⟩,q⟩
theorem A6:UnR X (unaryOp .USub) (rU λi=>.int (-i)):=unI λ_ _ _ _ _ q=>neg_int q
end
section
variable{X:Cx}{a b c:N1}{g p tc:TE}{pos:Pos}
theorem vw{a:List (F4×Obj)}{σ:St}{H:Hp}{s:E9}{Q:VK}{k k':Bool}(I:Inv X a σ H s)(q:Q (.bl k) H)(e:k=k'):EP X a σ Q (.bool k') s:=by
 subst e;exact⟨.bl k,H,I,rfl,q⟩
theorem CJ:OpR X (P2 .Lt) (rI0 λi j=>.bl (decide (i<j))):=yS λ_ _ _ _ _ _ _ q=>lt_int q
theorem CY:OpR X (P2 .LtE) (rI0 λi j=>.bl (decide (i<=j))):=yS λ_ _ _ _ _ _ _ q=>le_int q
theorem CD:OpR X (P2 .Gt) (rI0 λi j=>.bl (decide (j<i))):=yS λ_ _ _ _ _ _ _ q=>gt_int q
theorem Cc:OpR X (P2 .GtE) (rI0 λi j=>.bl (decide (j<=i))):=yS λ_ _ _ _ _ _ _ q=>ge_int q
theorem uc:OpR X (P2 .In) (λx y H Q=>∃i j,x=.str i/\y=.str j/\Q (.bl (!(ac7 j i 0 j.length 1).isEmpty)) H):=by
 intro a s b H x y v u Q I rx ry h;obtain⟨i,j,rfl,rfl,q⟩:=h;obtain⟨t,rfl⟩:=rx;obtain⟨e,rfl⟩:=ry;exact in_str (vw I q rfl)
theorem nI:OpR X (P2 .NotIn) (λx y H Q=>∃i j,x=.str i/\y=.str j/\Q (.bl (!(!(ac7 j i 0 j.length 1).isEmpty))) H):=by
 intro a s b H x y v u Q I rx ry h;obtain⟨i,j,rfl,rfl,q⟩:=h;obtain⟨t,rfl⟩:=rx;obtain⟨e,rfl⟩:=ry;exact notIn_str (vw I q rfl)
theorem yU{e:as0}{r:R2}(m:OpR X (P2 e) r)(ha:PE X a g)(t:PE X b p)(A:af0 e b=false):PE X (.Compare a [e] [b] pos) (tOp r g p):=by
 intro o s i H Q I h;exact wpAny_Compare1 (Ap ha t I h λv u z x y j w l n q=>m o z i j x y v u Q w l n q) A
def wu(t:TE):TT:=λb H Q=>t b H λx a=>∃k,x=.bl k/\Q k a
theorem zu{j:as0}{r:R2}(w:OpR X (P2 j) r)(ha:PE X a g)(C:PE X b p)(R:af0 j b=false):PT X (.Compare a [j] [b] pos) (wu (tOp r g p)):=by
 intro m s l H Q I h;refine wpAny_isTrue_Compare1 (thn (ha m s l H _ I h) λv B i=>i.el λx G E L q=>thn (C m B l G _ E q) λu M i=>i.el λy n J O N =>
  thn (w m M l n x y v u _ J L O N) λc S ⟨z,o,A,P,k,e,t⟩=>?_) R
 subst e;cases P;exact U9 ⟨o,A,t⟩
def wJ(r i:R2)(g p tc:TE):TE:=λa H Q=>g a H λx j=>p a j λy h=>r x y h λz b=>∃k,z=.bl k /\
 (if k=true then tc a b λl e=>i y l e Q else Q (.bl false) b)
theorem wV{n j:as0}{r q:R2}(G:OpR X (P2 n) r)(o:OpR X (P2 j) q)(ha:PE X a g)(J:PE X b p)(M:PE X c tc)
  (N:as2 [n,j] [b,c]=false:=by with_unfolding_all rfl):PE X (.Compare a [n,j] [b,c] pos) (wJ r q g p tc):=by
 intro l s m H Q I h;refine Compare_chain (thn (ha l s m H _ I h) λv T i=>i.el λx Z Y r1 E=>chain_link (thn (J l T m Z _ Y E) λu s2 i=>i.el λy C I2 t U =>
  thn (G l s2 m C x y v u _ I2 r1 t U) λd P ⟨z,w,B,L,k,e,A⟩=>?_)) N
 subst e;cases L;refine U9 ?_;cases k with
 |false=>exact ite_ff ⟨.bl false,w,B,rfl,A⟩
 |true=>exact ite_tt (chain_last (thn (M l P m w _ B A) λO S ⟨z',R,I4,r4,q4⟩=>o l S m R y z' u O Q I4 t r4 q4))
theorem wL{n j:as0}{r q:R2}(J:OpR X (P2 n) r)(o:OpR X (P2 j) q)(ha:PE X a g)(M:PE X b p)(O:PE X c tc)
  (P:as2 [n,j] [b,c]=false:=by with_unfolding_all rfl):PT X (.Compare a [n,j] [b,c] pos) (wu (wJ r q g p tc)):=by
 intro l s m H Q I h;refine isTrue_chain (thn (ha l s m H _ I h) λv s1 i=>i.el λx H1 I1 r1 G=>test_link (thn (M l s1 m H1 _ I1 G) λu s2 i=>i.el λy E I2 t q2 =>
  thn (J l s2 m E x y v u _ I2 r1 t q2) λd T ⟨z,w,B,N,k,e,A⟩=>?_)) P
 subst e;cases N;refine U9 ?_;cases k with
 |false =>
  obtain⟨k',L,q'⟩:=A;cases L;exact ite_ff ⟨w,B,q'⟩
 |true =>
  refine ite_tt (test_last (thn (O l T m w _ B A) λR s4 ⟨z',U,I4,r4,q4⟩=>thn (o l s4 m U y z' u R _ I4 t r4 q4) λd' s5 ⟨z2,H5,S,C,k2,Y,Z⟩=>?_));subst Y;cases C;exact U9 ⟨H5,S,Z⟩
theorem jP:(F9:Nat)<2 ^ 63:=by rw[ai7];decide
theorem rk:OpR X (X5 .Add) (λx y H Q=>∃i j,x=.str i/\y=.str j/\i.length+j.length<=F9/\Q (.str (i++j)) H):=by
 intro e s l H x y v u Q I rx ry h;obtain⟨i,j,rfl,rfl,b,q⟩:=h;obtain⟨t,rfl⟩:=rx;obtain⟨a,rfl⟩:=ry;exact add_str (λa g=>⟨.str (i++j),H,I.tok _,⟨_,rfl⟩,q⟩) b
theorem pZ{x:V}{us:List u8}(r:aw [x] us):∃u,us=[u]/\aM x u:=by
 cases r with
 |cons b a=>cases a;exact⟨_,rfl,b⟩
theorem Dx{x y:V}{us:List u8}(r:aw [x,y] us):∃u a,us=[u,a]/\aM x u/\aM y a:=by
 cases r with
 |cons e g =>
  cases g with
  |cons h b=>cases b;exact⟨_,_,rfl,e,h⟩
theorem vK:cy X (.builtin "abs") (λxs H Q=>∃i,xs=[.int i]/\Q (.int (if i<0 then -i else i)) H):=by
 intro a s g H xs e Q I r h;obtain⟨i,rfl,q⟩:=h;obtain⟨u,rfl,t,rfl⟩:=pZ r;exact call_abs_int λu b=>⟨.int (if i<0 then -i else i),H,I.tok _,⟨_,rfl⟩,q⟩
theorem uC(b:X.calm=true):cy X (.builtin "max") (λxs H Q=>∃i j,xs=[.int i,.int j]/\Q (.int (if j > i then j else i)) H):=by
 intro m s p H xs o Q I r h;obtain⟨i,j,rfl,q⟩:=h;obtain⟨u,n,rfl,⟨t,rfl⟩,⟨g,rfl⟩⟩:=Dx r;refine max_two_ints (I.ok.hd b) λl e k=>⟨_,H,I.kept k,?_,q⟩
 by_cases a:j > i
 ·rw[if_pos a,if_pos a];exact⟨_,rfl⟩
 ·rw[if_neg a,if_neg a];exact⟨_,rfl⟩
end
structure xU(h:K3) (x dx C:F4) (mA:Str->Option u8):Prop where
 obj:h.get? x=some (PySem.W.instObj C dx)
 ns:h.Ns1 dx mA
 ne:dx≠x
theorem uw{h:K3}{g:F4}{mA:Str->Option u8}(n:h.Ns1 g mA):∃j,h.get? g=some j/\∀name,an6 name j=some (mA name):=by
 obtain⟨o,i,A,m,w,u,_,s⟩:=n;refine⟨o,m,λname=>?_⟩;have e:=s name;unfold aq7 findBy at e;rw[<-Array.find?_toList]at e;unfold an6;rw[w];dsimp only
 split
 ·rename_i y q;rw[q]at e;exact congrArg some e
 ·rename_i q;rw[q]at e;have a:i.toList.any (·.refKey)=false:=by
   rw[List.any_eq_false];intro y l;obtain⟨z,t,b⟩:=u y (Array.mem_toList_iff.mp l);simp[ag2.refKey,b]
  have p:¬ i.toList.any (·.refKey)=true:=by rw[a];exact P6
  rw[if_neg p];exact congrArg some e
theorem xU.look{h:K3}{x b C:F4}{mA:Str->Option u8}(I:xU h x b C mA):∃a,PySem.W.InstAt h x (PySem.W.instObj C b) C (some a)/\∀name,an6 name a=some (mA name) :=
 let⟨a,g,e⟩:=uw I.ns
 ⟨a,⟨I.obj,rfl,rfl,g⟩,e⟩
section
variable{prog:K9}{w:P7}{A:M8}{E:u8->E9->Prop}{s:E9}{K:E5}{x g C f:F4}{mA:Str->Option u8}{name:Str}{v:u8}
theorem oy{ns:List Str}{Q:Unit->E9->Prop}(X:K.In s.heap)(I:xU s.heap x g C mA)
  (hs:O5 K (.ref C) "__setattr__"=some (some (.builtin "object.__setattr__"))) (q:PySem.W.plainOver K C=true) (p:PySem.W.takerIn K C name=some none) (z:PySem.W.hasDictIn K C=true)
  (G:PySem.Within mA ns) (hsz:ns.length<=F9)
  (h:∀h',xU h' x g C (λy=>if y=name then some v else mA y)->Q4 g s.heap h'->Q () { s with heap:=h',toks:=s.toks+2 }) :
  J0 (L4 prog w) A (setAttr (.ref x) name v) Q E s:=by
 obtain⟨L,J,H⟩:=I.look;refine PySem.W.set_plain X J hs (PySem.W.osa_open (s:={ s with toks:=s.toks+1 }) (r:=none) X J q p λb=>?_);obtain⟨N,u,l⟩:=PySem.W.any_some z;have B:s.heap.get? x=some ⟨.ref C,some g,.plain,#[]⟩:=I.obj;refine o0 (E6 (o0 (o0 (ag3 B (o0 (PySem.W.Looks.here (s:={ s with toks:=s.toks+1 }) (PySem.W.looks_clsIn X u) ?_))))));rw[l];refine E6 (a:=some g) (o0 (E6 (o0 ?_)));refine wpAny_nsSet1 (s:={ s with toks:=s.toks+1 }) I.ns λh' e i=>?_;obtain⟨M,o,t,n,m,j⟩:=e.count (PySem.Within.cons name v G);refine o0 (wpAny_lookBehind n (by rw[m];exact pastItsLine_dict (O9 j (by rw[O0];lia))) ?_);exact E6 (h _ ⟨(i.2 _ (U2 I.ne)).trans I.obj,e,I.ne⟩ i)
end
theorem ud{v:V}{u:u8}(r:aM v u):PySem.W.handedIn u=true:=by
 cases v with
 |non=>cases(show u=J9 from r);rfl
 |bl b=>cases(show u=ai6 b from r);rfl
 |int i=>obtain⟨t,e⟩:=(show ∃t,u=ak4 i t from r);cases e;rfl
 |str x=>obtain⟨t,e⟩:=(show ∃t,u=an8 x t from r);cases e;rfl
 |byt b=>obtain⟨t,e⟩:=(show ∃t,u=u8.bytes b t from r);cases e;rfl
 |flt b=>obtain⟨t,e⟩:=(show ∃t,u=u8.float b t from r);cases e;rfl
 |ref a=>cases(show u=J6 a from r);rfl
 |ty n=>cases(show u=N3 n from r);rfl
section
variable{X:Cx}{g:List (F4×Obj)}{σ:St}{H:Hp}{s:E9}{a C p:F4}{fs:List (Str×V)}{f:Str}{v:V}{A:M8}{E:u8->E9->Prop}
theorem xT{prog:K9}{w:P7}{env:Env}{e:N1}{f:Str}{pos:Pos}{s:E9}{Q:u8->E9->Prop}(b:V3 e f env (aa2 e env)=aa2 e env)
  (h:J0 (L4 prog w) A (aa2 e env) (λo a=>J0 (L4 prog w) A (getAttr o f true) Q E a) E s):J0 (L4 prog w) A (aa2 (.Attribute e f pos) env) Q E s :=
 Attribute_any_ h (by rw[arm_eval_Attribute,b])
end
structure cc(k:Nat) (A:M8):Prop where
 hd:A.handled=none
 dp:A.depth+3*k+5<recursionLimit
 un:A.units+16*k+200<af9
theorem cc.mono{j k:Nat}{A:M8}(r:cc k A)(h:j<=k):cc j A:=⟨r.hd,by have:=r.dp;lia,by have:=r.un;lia⟩
theorem cc.deeper{k:Nat}{A:M8}(r:cc (k+1) A)(env:Env):cc k (A.deeper env) :=
 ⟨r.hd,by have:=r.dp;show A.depth+1+3*k+5<_;lia,by have:=r.un;show A.units+3+16*k+200<_;lia⟩
theorem rn{A:M8}{C:F4}{us:List u8}{kw:List (Str×u8)}:(A.under (.builtin "type.__call__" ⟨.ref C::us,kw⟩)).depth=A.depth+1:=by
 first|rfl|simp[M8.under,at2.weight,at2.isCreation,at2.isGuard,at2.isCaller,at2.frames,at2.isFrame,guardIds]
theorem qV{A:M8}{C:F4}{us:List u8}{kw:List (Str×u8)}:(A.under (.builtin "type.__call__" ⟨.ref C::us,kw⟩)).units=A.units+1:=by
 first|rfl|simp[M8.under,at2.cUnits,at2.frames,at2.isFrame]
theorem cc.make{k:Nat}{A:M8}(r:cc (k+1) A)(C:F4)(us:List u8)(kw:List (Str×u8)):cc k (A.under (.builtin "type.__call__" ⟨.ref C::us,kw⟩)) :=
 ⟨r.hd,by have:=r.dp;rw[rn];lia,by have:=r.un;rw[qV];lia⟩
theorem cc.depth{k:Nat}{A:M8}(r:cc k A):A.depth<recursionLimit:=by have:=r.dp;lia
theorem cc.units{k:Nat}{A:M8}(r:cc k A):A.units+64<af9:=by have:=r.un;lia
def zi:TA:=λ_ H Q=>Q [] H
def pV(i:TE)(e:TA):TA:=λa H Q=>i a H λx b=>e a b λg h=>Q (x::g) h
section
variable{X:Cx}{e:N1}{g:List N1}{te:TE}{t:TA}{pos:Pos}
theorem de:PA X [] zi:=λ_ _ _ _ H Q I h=>ai8 ⟨[],H,I,.nil,h⟩
theorem bA(ha:PE X e te)(hr:PA X g t)(hs:F3 (e::g) X.env=(false,aa2 e X.env)::F3 g X.env:=by rfl):PA X (e::g) (pV te t):=by
 intro pos i s b H Q I h;rw[hs];show J0 _ _ (spliced ((false,aa2 e X.env)::U6 pos (F3 g X.env))) _ _ s;refine Calls.spliced_cons (thn (ha i s b H _ I h) λu n a=>a.el λx p o A l=>?_);exact thn (hr pos i n b p _ o l) λB C a=>a.el λz j q w m=>⟨x::z,j,q,.cons A w,m⟩
def Ez(t:TA):TE:=λe H Q=>t e H λb a=>b.length<=F9/\∀p,a p=none->Q (.ref p) (upd a p (.tup b))
def ES(t:TA):TE:=λe H Q=>t e H λb a=>b.length<=F9/\∀p,a p=none->Q (.ref p) (upd a p (.lst b))
theorem Am{x1}(h:PA X g t):PE X (.Tuple g x1 pos) (Ez t):=by
 intro l s o H Q I m;refine wpAny_Tuple_spliced (thn (h pos l s o H _ I m) λn a ⟨p,j,i,r,z,q⟩=>⟨by rw[<-r.length];exact z,?_⟩);have w:j a.heap.objs.size=none:=i.hok.fresh (F6 _);refine⟨.ref a.heap.objs.size,upd j a.heap.objs.size (.tup p),i.laid (t':=a.toks) (λb u e=>E7 _ e) (F6 _) ?_,rfl,q _ w⟩;exact⟨z,n,r,⟨_,K1 _ rfl,rfl,⟨_,rfl⟩,rfl⟩⟩
theorem vG(h:PA X g t):PE X (.List g pos) (ES t):=by
 intro l s o H Q I m;refine wpAny_List_spliced (thn (h pos l s o H _ I m) λn a ⟨p,j,i,r,z,q⟩=>⟨by rw[<-r.length];exact z,?_⟩);have w:j a.heap.objs.size=none:=i.hok.fresh (F6 _);refine⟨.ref a.heap.objs.size,upd j a.heap.objs.size (.lst p),i.laid (t':=a.toks) (λb u e=>E7 _ e) (F6 _) ?_,rfl,q _ w⟩;exact⟨z,n,0,r,K1 _ rfl⟩
end
abbrev Sp:=List V->Hp->VK->XK->Prop
abbrev CXT:=List Env->Hp->E9->XK->u8->E9->Prop
structure se(P:K9) (w:P7) (K:E5) (mg:Str->Option u8) (base:K3) (A:M8) (outer:List Env) (s:E9) (H:Hp):Prop where
 frames:A.frames=some outer
 mod:Mod K mg base
 bs:∀b o,base.get? b=some o->s.heap.get? b=some o/\H b=none
 bsz:base.objs.size<=s.heap.objs.size
 funs:s.heap.FunFrames base outer
 frf:∀b∈frs outer,H b=none
 hok:HOk P w H s.heap
 bare:ak8 s.gens
def CE(a:List Env)(P:K9)(w:P7)(H:Hp)(s:E9)(Q:VK)(u:u8)(s':E9):Prop :=
 ∃v b,s'.os=s.os/\ak8 s'.gens/\Un (frs a) [] H b s.heap s'.heap/\HOk P w b s'.heap/\aM v u/\Q v b
def CR(CX:CXT)(a:List Env)(P:K9)(w:P7)(H:Hp)(s:E9)(Q:VK)(E:XK)(r:as3)(s':E9):Prop :=
 match r with
 |.ok (.ret u)=>CE a P w H s Q u s'
 |.ok _=>False
 |.error e=>CX a H s E e s'
structure aP(P:K9) (w:P7) (K:E5) (mg:Str->Option u8) (base:K3) (CX:CXT) (k:Nat) (f:F4) (fd:K4) (ps:List Str) (sp:Sp):Prop where
 len:∀vs H Q E,sp vs H Q E->vs.length=ps.length
 run:∀(A:M8) (outer:List Env) (s:E9) (H:Hp) (args:Args) (us:List u8) (vs:List V) (Q:VK) (E:XK),cc k A->se P w K mg base A outer s H->ar1 s fd args (ps.zip us)->aw vs us->sp vs H Q E ->
  am1 (L4 P w) A (.call (.ref f) args) (CR CX outer P w H s Q E) s
theorem se.make{P:K9}{w:P7}{K:E5}{b:Str->Option u8}{base:K3}{A:M8}{a:List Env}{s:E9}{H:Hp}(e:se P w K b base A a s H)(C:F4)(us:List u8)(kw:List (Str×u8)):
  se P w K b base (A.under (.builtin "type.__call__" ⟨.ref C::us,kw⟩)) a s H:=⟨by first|exact e.frames|(simpa[M8.under,at2.envs,at2.isFrame,pushEnvs]using e.frames),e.mod,e.bs,e.bsz,e.funs,e.frf,e.hok,e.bare⟩
section
variable{X:Cx}{p:List (F4×Obj)}{σ:St}{H:Hp}{s s':E9}
theorem Inv.env0(I:Inv X p σ H s):se X.prog X.w X.K X.mg X.base X.A X.stack s H :=
 ⟨I.ok.frames,I.ok.mod,I.bs,O9 I.ok.bsz I.sz,I.stack,I.stkFree,I.hok,I.bare⟩
theorem Inv.after{Q:VK}{u:u8}(I:Inv X p σ H s)(h:CE X.stack X.prog X.w H s Q u s'):EP X p σ Q u s':=by
 obtain⟨v,j,os,a,un,i,r,q⟩:=h;obtain⟨l,g,d,t,e⟩:=s';obtain rfl:e=s.os:=os;exact⟨v,j,I.call (h':=l) (g':=g) (d':=d) (t':=t) (ch:=[]) un i a (λb z=>absurd z (by simp)),r,q⟩
end
def DO(sp:Sp)(a:List V)(E:XK)(t:TA):TE:=λe H Q=>t e H λg b=>sp (g++a) b Q E
def cE(K:E5)(b:K4)(ps:List Str)(ds:List u8):Prop :=
 ∀(s:E9) (a:List u8),K.In s.heap->(a++ds).length=ps.length->ar1 s b ⟨a,[]⟩ (ps.zip (a++ds))
theorem cE.all{K:E5}{a:K4}{ps:List Str}(h:∀us:List u8,us.length=ps.length->bindArgs a ⟨us,[]⟩=af8 (ps.zip us)):cE K a ps []:=λs us _ b=>by
 rw[V4]at b ⊢;exact .of_eq (h us b)
def iJ(CX:CXT)(X:Cx)(E:XK):Prop:=∀(b:List (F4×Obj)) (g:St) (H:Hp) (s:E9) (e:u8) (a:E9),Inv X b g H s->CX X.stack H s E e a->X.xe e a
section
variable{X:Cx}{CX:CXT}{k:Nat}{f C:F4}{z:K4}{ps:List Str}{sp:Sp}{g:List V}{ds:List u8}{E:XK}{x m:Str}{p pos B:Pos}{e o:N1}{y:List N1}{G:TE}{t:TA}
theorem BM{i:List (F4×Obj)}{σ:St}{H:Hp}{s:E9}{Q:VK}{us:List u8}{b:List V}(F:aP X.prog X.w X.K X.mg X.base CX k f z ps sp)(hr:cc k X.A)(m:cE X.K z ps ds)(q:aw g ds)(p:iJ CX X E)
  (I:Inv X i σ H s) (r:aw b us) (h:sp (b++g) H Q E):J0 (L4 X.prog X.w) X.A (ar9 (.ref f) us) (EP X i σ Q) X.xe s:=by
 have j:aw (b++g) (us++ds):=r.append q;have n:(us++ds).length=ps.length:=by rw[<-j.length];exact F.len _ _ _ _ h
 refine ad6 (ac5 (F.run X.A X.stack s H ⟨us,[]⟩ (us++ds) (b++g) Q E hr I.env0 (m s us I.kIn n) j h) λr l a=>?_);cases r with
 |error e=>exact p i σ H s e l I a
 |ok o =>
  cases o with
  |ret u=>exact I.after a
  |next=>exact T9 a
  |brk=>exact T9 a
  |cont=>exact T9 a
theorem oY(F:aP X.prog X.w X.K X.mg X.base CX k f z ps sp)(hr:cc k X.A)(hg:Gl X x)(l:X.mg x=some (.ref f))(o:U7 X.K (.ref f)=true)(j:cE X.K z ps ds)(u:aw g ds)(n:iJ CX X E)
  (ha:PA X (e::y) t) (hdb:(x==("__debug__":Str))=false:=by decide) (he:F3 (e::y) X.env=(false,aa2 e X.env)::F3 y X.env:=by rfl) (hpl:(U6 pos (F3 y X.env)).any (·.1)=false:=by rfl) :
  PE X (.Call (.Name x p) (e::y) [] pos) (DO sp g E t):=by
 intro i s m H Q I h;refine V5 (hV I hg l ?_ hdb);refine ah7 (h₀:=X.base) I.ok.mod.kin o (thn (ha pos i s m H _ I h) λw B a=>a.el λA C b r q=>⟨b.kIn,?_⟩) he hpl;exact BM F hr j u n b r q
end
structure av(N P:List Str) (sc:af7):Prop where
 kind:sc.kind=.function
 co:sc.isCoroutine=false
 gen:sc.isGenerator=false
 nd:N.Nodup
 pre:N.take P.length=P
 par:∀x∈P,sc.names.lookup x=some .local∨sc.names.lookup x=some .cell
 nofree:∀y∈sc.names,y.2≠.free
theorem nk{an2:Str->Option T0}{x:Str}:∀{binds:List (Str×u8)}{m:Str->Option u8},(∀v,(x,v)∉binds)->bindL an2 binds m x=m x
 |[],_,_=>rfl
 |(n,v)::r,m,h=>by
  unfold bindL;rw[nk λw a=>h w (K6 _ a)]
  split
  ·have:x≠n:=by rintro rfl;exact h v Q0
   simp[this]
  ·rfl
theorem mO{an2:Str->Option T0}{x:Str}:∀{binds:List (Str×u8)}{m:Str->Option u8},(∀v,(x,v)∉binds)->bindC an2 binds m x=m x
 |[],_,_=>rfl
 |(n,v)::r,m,h=>by
  unfold bindC;rw[mO λw a=>h w (K6 _ a)]
  split
  ·rfl
  ·have:x≠n:=by rintro rfl;exact h v Q0
   simp[this]
theorem mT{an2:Str->Option T0}{x:Str}{v:u8}:∀{P:List Str}{a:List u8}{i:Nat}{m:Str->Option u8},P.Nodup->P[i]?=some x->a[i]?=some v->an2 x=some .local ->
  bindL an2 (P.zip a) m x=some v
 |[],_,_,_,_,h,_,_=>by simp at h
 |_::_,[],_,_,_,_,h,_=>by simp at h
 |p::P,w::a,0,m,g,b,e,j=>by
  simp at b e;subst b;subst e;show bindL an2 ((p,w)::P.zip a) m p=_;unfold bindL;rw[nk λv l=>(T4.mp g).1 (List.of_mem_zip l).1,if_pos j];simp
 |p::P,w::a,i+1,m,g,b,e,j=>by
  show bindL an2 ((p,w)::P.zip a) m x=_;unfold bindL;exact mT (i:=i) (T4.mp g).2 (by simpa using b) (by simpa using e) j
theorem mW{an2:Str->Option T0}{x:Str}{v:u8}:∀{P:List Str}{a:List u8}{i:Nat}{m:Str->Option u8},P.Nodup->P[i]?=some x->a[i]?=some v->an2 x≠some .local ->
  bindC an2 (P.zip a) m x=some v
 |[],_,_,_,_,h,_,_=>by simp at h
 |_::_,[],_,_,_,_,h,_=>by simp at h
 |p::P,w::a,0,m,g,b,e,j=>by
  simp at b e;subst b;subst e;show bindC an2 ((p,w)::P.zip a) m p=_;unfold bindC;rw[mO λv l=>(T4.mp g).1 (List.of_mem_zip l).1,if_neg j];simp
 |p::P,w::a,i+1,m,g,b,e,j=>by
  show bindC an2 ((p,w)::P.zip a) m x=_;unfold bindC;exact mW (i:=i) (T4.mp g).2 (by simpa using b) (by simpa using e) j
def fL(N:List Str)(a:List V):St:=a.map some++F5 (N.length-a.length) none
noncomputable def ja(CX:CXT)(P:K9)(w:P7)(K:E5)(i:Str->Option u8)(base:K3)(N:List Str)(g:Str)(b:af7)(f:F4)(cd:u8)(A:M8)(a:List Env)(s:E9)(H:Hp)(E:XK):Cx where
 prog:=P
 w:=w
 K:=K
 mg:=i
 base:=base
 A:=A.deeper (ac6 g b s.heap.objs.size f cd)
 N:=N
 s₀:=s
 H₀:=H
 env:=ac6 g b s.heap.objs.size f cd
 outer:=a
 stack:=ac6 g b s.heap.objs.size f cd::a
 ex:=[]
 calm:=true
 fn:=λ_=>true
 pn:=[]
 xe:=λe j=>J0 (L4 P w) (A.deeper (ac6 g b s.heap.objs.size f cd)) (leaving (ac6 g b s.heap.objs.size f cd) e) (λ_ h=>CX a H s E e h) (λl h=>CX a H s E l h) j
theorem pH{a:af7}{n:Nat}{x:Str}(h:a.names.lookup x=some .cell):∃c,(as4 n a.names []).lookup x=some c:=by
 have q:=PySem.W.cellsFrom_some a.names n [] (.inl h);exact X6.mp q
theorem um{CX:CXT}{P:K9}{w:P7}{K:E5}{M:Str->Option u8}{base:K3}{N ps:List Str}{l:Str}{g:af7}{f:F4}{cd:u8}{A:M8}{j:List Env}{s Q:E9}{H:Hp}{E:XK}{us:List u8}{B:List V}
  (S:av N ps g) (X:A.handled=none) (o:se P w K M base A j s H) (hl:B.length=ps.length) (r:aw B us)
  (x:InCallC s s.heap.objs.size (bindL (ac6 l g s.heap.objs.size f cd).kindOf (ps.zip us) λ_=>none) (as4 (s.heap.objs.size+1) g.names []) (bindC (ac6 l g s.heap.objs.size f cd).kindOf (ps.zip us) λ_=>none) Q) :
  Inv (ja CX P w K M base N l g f cd A j s H E) [] (fL N B) H Q:=by
 have Y:ps.length<=N.length:=by have:=congrArg X9 S.pre;rw[O7]at this;lia
 obtain⟨J,Z,rfl,R⟩:=x.done;have t:∀b:F4,b∉(ja CX P w K M base N l g f cd A j s H E).ex:=λb z=>absurd (show b∈([]:List F4)from z) (by simp);refine⟨⟨o.mod,S.kind,rfl,rfl,F6 _,λy z c J m=>?_,λy C=>?_,λy c _ h=>?_,λ_=>X,M8.frames_deeper o.frames,.inr ⟨rfl,rfl⟩,λb z=>absurd z (t b),o.bs,o.bsz,λb _ _=>t b,λb z=>absurd z (t b),o.funs,o.frf⟩,
  rfl,o.bare,Un.kept R,⟨_,x.toInCall.ns,λi y v J m h3=>?_⟩,λy c h=>⟨_,x.cell y c h⟩,o.hok.fresh (F6 _),λy c h=>?_,λp G=>absurd (show p∈([]:List (F4×Obj))from G) (by simp),o.hok.kept R,?_⟩
 ·exact name_of_addr x.apart (T5 J) (T5 m)
 ·have C:g.names.lookup y=some .cell∨g.names.lookup y=some .free:=C;rcases C with C|C
  ·exact pH C
  ·exact absurd rfl (S.nofree _ (T5 C))
 ·exact ae0 (x.above y c (T5 h))
 ·have L:i<B.length:=by
   unfold fL at m
   by_cases L:i<B.length
   ·exact L
   ·rw[U1 (by simpa using L)]at m;rw[Z4]at m
    split at m<;>cases m
  have T:B[i]?=some v:=by
   unfold fL at m;rw[Q6 (by simpa using L),F7]at m;cases e:B[i]? with
   |none=>rw[e]at m;cases m
   |some a=>rw[e]at m;cases m;rfl
  obtain⟨u,O,U⟩:=r.get T;have G:ps[i]?=some y:=by
   rw[<-S.pre,X7 (by lia)];exact J
  have I:ps.Nodup:=by rw[<-S.pre];exact S.nd.sublist (List.take_sublist _ _)
  refine⟨u,U,?_⟩;rcases S.par y (K7 G)with k|k
  ·exact .inl ⟨k,mT I G O k⟩
  ·obtain⟨c,e⟩:=pH (n:=s.heap.objs.size+1) k;refine .inr ⟨.inl k,c,e,?_⟩;have q:=x.cell y c e;rw[mW I G O (by show g.names.lookup y≠_;rw[k];decide)]at q;exact q
 ·exact o.hok.fresh (ae0 (x.above y c (T5 h)))
 ·unfold fL;show _=N.length;rw[F2,E8,aa6]
  lia
theorem zE{CX:CXT}{P:K9}{w:P7}{K:E5}{T:Str->Option u8}{base:K3}{k:Nat}{f:F4}{name h:Str}{j:Arguments}{l:List Z7}{a:af7}{dV kV M pm i ct oc:u8}{an od:Option F4}
  {a1:Array (Option u8)} {N ps:List Str} {sp:Sp} (lk:K.lookup f=some ⟨oc,od,.func (aa7 name h j l a dV kV M pm an i ct),a1⟩) (a0:aj9 K i h=true) (S:av N ps a)
  (len:∀m H Q E,sp m H Q E->m.length=ps.length)
  (B:∀ (A:M8) (g:List Env) (s:E9) (H:Hp) (m:List V) (Q:VK) (E:XK),cc k (A.deeper (ac6 h a s.heap.objs.size f i)) → sp m H Q E →
   ∃t,PSs (ja CX P w K T base N h a f i A g s H E) l t/\t { nx:=λ_ z=>Q .non z,rt:=Q } (fL N m) H) :
  aP P w K T base CX (k+1) f (aa7 name h j l a dV kV M pm an i ct) ps sp:=by
 refine⟨len,λA g s H a2 us m Q E Y L hb r O=>?_⟩;have hl:=len _ _ _ _ O;have KX:K.In s.heap:=L.mod.kin.keeps λb o e=>(L.bs b o e).1;have Z:s.heap.NoLimit:=L.mod.nolimit.keeps λb o e=>(L.bs b o e).1;have C:∀y∈ps.zip us,a.names.lookup y.1=some .local∨(a.names.lookup y.1=some .cell/\((as4 (s.heap.objs.size+1) a.names []).lookup y.1).isSome=true):=λ⟨n,v⟩ hy=>by
  rcases S.par n (List.of_mem_zip hy).1 with q|q
  ·exact .inl q
  ·exact .inr ⟨q,PySem.W.cellsFrom_some _ _ _ (.inl q)⟩
 refine codeAny_call_function Y.depth (KX _ _ lk) rfl S.co S.gen rfl (PySem.W.codeRec_of KX a0) (hb _ _ _ _ ?_);refine wpAny_newFunctionEnv_cells S.kind C λa3 he s1 x=>?_;subst he;refine⟨Z.keeps x.toInCall.keep,codeAny_func ?_⟩;obtain⟨t,ht,hq⟩:=B A g s H m Q E (Y.deeper _) O;have I:Inv (ja CX P w K T base N h a f i A g s H E) [] (fL N m) H s1:=um S Y.hd L hl r x;refine P5 (ht [] s1 (fL N m) H _ I hq) (λfl U G=>?_) λe U G=>G;have R:∀{p:St} {z:Hp} {v:V} {u:u8},Inv (ja CX P w K T base N h a f i A g s H E) [] p z U->aM v u->Q v z->CE g P w H s Q u U :=
  λ{p z v u} J X q=>⟨v,z,J.os,J.bare,J.base,J.hok,X,q⟩
 cases fl with
 |ret u =>
  obtain⟨v,p,z,J,X,q⟩:=G;exact R J X q
 |next =>
  obtain⟨p,z,J,q⟩:=G;exact R (v:=V.non) (u:=J9) J rfl q
 |brk =>
  obtain⟨_,_,_,q⟩:=G;exact T9 q
 |cont =>
  obtain⟨_,_,_,q⟩:=G;exact T9 q
section
variable{X:Cx}{x:Str}{p pos:Pos}{e:N1}{g:List N1}{t:TA}{id T:String}{r:List V->Hp->VK->Prop}
def tCB(r:List V->Hp->VK->Prop)(t:TA):TE:=λb H Q=>t b H λe a=>r e a Q
theorem gF(m:cy X (.builtin id) r)(hg:Gl X x)(n:X.mg x=none)(l:aa5 x=some (.builtin id))(ha:PA X (e::g) t)(hn:x≠"__name__":=by decide)(hdb:(x==("__debug__":Str))=false:=by decide)
  (he:F3 (e::g) X.env=(false,aa2 e X.env)::F3 g X.env:=by rfl) (hpl:(U6 pos (F3 g X.env)).any (·.1)=false:=by rfl):PE X (.Call (.Name x p) (e::g) [] pos) (tCB r t):=by
 intro b s i H Q I h;refine V5 (jV I hg n l ?_ hn hdb);exact PyProof.Rows.callWith_builtin1 (thn (ha pos b s i H _ I h) λo u a=>a.el λq z w A j=>m b u i z q o Q w A j) he hpl
theorem u5(m:cy X (.type T) r)(hg:Gl X x)(n:X.mg x=none)(l:aa5 x=some (.type T))(ha:PA X (e::g) t)(hn:x≠"__name__":=by decide)(hdb:(x==("__debug__":Str))=false:=by decide)
  (he:F3 (e::g) X.env=(false,aa2 e X.env)::F3 g X.env:=by rfl) (hpl:(U6 pos (F3 g X.env)).any (·.1)=false:=by rfl):PE X (.Call (.Name x p) (e::g) [] pos) (tCB r t):=by
 intro b s i H Q I h;refine V5 (jV I hg n l ?_ hn hdb);exact PyProof.Rows.callWith_type1 (thn (ha pos b s i H _ I h) λo u a=>a.el λq z w A j=>m b u i z q o Q w A j) he hpl
end
end L2
namespace HT
open PySem PyProof.Rows
section
open PySem.SeqAt
open PySem.AutoSeq1 (wpAny_loadPart')
open PySem.MeetsSeq PySem.MeetsSeq2 PySem.MeetsSeq3
end
section
variable{prog:K9}{w:P7}{A:M8}{E:u8->E9->Prop}{s:E9}
theorem cat_tup{t b:F4}{g ws:List u8}{Q:u8->E9->Prop}(H:al9 s.heap t g.toArray)(I:al9 s.heap b ws.toArray)(p:g≠[])
  (J:ws=[]->Q (.ref t) s) (L:ws≠[]->Q (.ref s.heap.objs.size) { s with heap:=s.heap.push { cls:=.type "tuple",data:=.seq (g++ws).toArray } })
  (hsz:g.length+ws.length<=F9):J0 (L4 prog w) A (X5 .Add (.ref t) (.ref b)) Q E s:=by
 obtain⟨⟨cls,z,data,q⟩,m,u,n,C⟩:=id H;obtain⟨⟨G,h,data2,l⟩,a,i,B,j⟩:=id I;simp only at u C i j;subst u C i j;have e:g.toArray++ws.toArray=(g++ws).toArray:=by simp
 by_cases o:ws=[]
 ·exact concat_meets ⟨_,m,rfl⟩ ⟨_,a,rfl⟩ noFill_tuple_add seq_tuple_add PySem.F.slot_tuple_add PySem.F.entry_tuple_add (PySem.F.args_tuple_add_2 _ _)
   (tuple_addW1 t b g.toArray ws.toArray n B z h q l (by simpa using p) (by simp[o])) ⟨m,a,J o⟩
 ·refine concat_meets ⟨_,m,rfl⟩ ⟨_,a,rfl⟩ noFill_tuple_add seq_tuple_add PySem.F.slot_tuple_add PySem.F.entry_tuple_add (PySem.F.args_tuple_add_2 _ _)
   (tuple_addW2 t b g.toArray ws.toArray n B z h q l (by simpa using p) (by simpa using o) (by rw[F1,F1];exact hsz)) ⟨m,a,?_⟩
  rw[e];exact L o
noncomputable def sIx(n d:Nat):Option Int->Nat
 |none=>d
 |some v=>if v<0 then(v+(n:Int)).toNat else min v.toNat n
theorem sIx_none(n d:Nat):sIx n d none=d:=rfl
theorem sIx_nat(n d k:Nat):sIx n d (some (k:Int))=min k n:=by
 show(if(k:Int)<0 then((k:Int)+(n:Int)).toNat else min (k:Int).toNat n)=min k n;rw[if_neg (by lia),S3]
theorem AL(n d:Nat)(b:d<=n)(o:Option Int):sIx n d o<=n:=by
 cases o with
 |none=>exact b
 |some v =>
  show(if v<0 then(v+(n:Int)).toNat else min v.toNat n)<=n
  by_cases a:v<0
  ·rw[if_pos a];lia
  ·rw[if_neg a];exact Nat.min_le_right _ _
theorem sQ(v:Int)(n d:Nat):(if v<0 then max (v+(n:Int)) 0 else min v (n:Int))=((sIx n d (some v):Nat):Int):=by
 show(if v<0 then max (v+(n:Int)) 0 else min v (n:Int))=(((if v<0 then(v+(n:Int)).toNat else min v.toNat n):Nat):Int)
 by_cases a:v<0
 ·simp only[if_pos a];lia
 ·simp only[if_neg a];lia
theorem qT(lo hi:Option Int)(n:Nat):M7.Slice.sliceAdjust lo hi 1 (n:Int)=(((sIx n 0 lo:Nat):Int),((sIx n n hi:Nat):Int)):=by
 have a:¬ ((1:Int)<0):=by lia
 unfold M7.Slice.sliceAdjust;simp only[a,if_false];refine Prod.ext ?_ ?_
 ·cases lo with
  |none=>rfl
  |some v=>exact sQ v n 0
 ·cases hi with
  |none=>rfl
  |some v=>exact sQ v n n
theorem qW(i j:Nat):ab0 (i:Int) (j:Int) 1=j-i:=by
 unfold ab0;have a:(1:Int) > 0:=by lia
 simp only[a,if_true,Int.ediv_one]
 split<;>lia
theorem k8{v:u8}{o:Option Int}{Q:Option Int->E9->Prop}(p:aq8 v o)(h:Q o s):J0 (L4 prog w) A (M7.Slice.slicePartIndex v) Q E s:=by
 cases p with
 |none=>exact slicePart_none h
 |int i t=>exact slicePart_int h
theorem eV{i:F4}{e g:u8}{lo hi:Option Int}{n:Nat}{Q:Int×Int×Nat->E9->Prop}(hs:s.heap.IsSliceOf i e g .none)(pl:aq8 e lo)(l:aq8 g hi)
  (h:Q (((sIx n 0 lo:Nat):Int),1,sIx n n hi-sIx n 0 lo) s):J0 (L4 prog w) A (M7.Slice.sliceApplied (.ref i) (af8 (n:Int))) Q E s:=by
 obtain⟨os,a,j,b⟩:=id hs;unfold M7.Slice.sliceApplied M7.Slice.sliceFields;refine o0 (o0 (ae4 a b (x:=e) rfl (o0 (ae4 a b (x:=g) rfl (o0 (ae4 a b (x:=.none) rfl (E6 ?_)))))));refine o0 (slicePart_none ?_);show J0 _ _ (if((1:Int)==0)=true then _ else _) _ _ s;rw[if_neg (by decide)];refine o0 (k8 pl (o0 (k8 l (o0 (E6 ?_)))));show J0 _ _ (match M7.Slice.sliceAdjust lo hi 1 (n:Int)with|(lo,hi)=>af8 (lo,(1:Int),ab0 lo hi 1)) _ _ s;rw[qT lo hi n];show J0 _ _ (af8 (((sIx n 0 lo:Nat):Int),(1:Int),ab0 ((sIx n 0 lo:Nat):Int) ((sIx n n hi:Nat):Int) 1)) _ _ s;rw[qW];exact E6 h
theorem wf(xs:Array u8)(i k:Nat):((Q8 k).filterMap λ(m:Nat)=>xs[((i:Int)+(m:Int)*1).toNat]?).toArray=((xs.toList.drop i).take k).toArray:=by
 have e:(λ(m:Nat)=>xs[((i:Int)+(m:Int)*1).toNat]?)=λm=>xs[i+m]?:=by
  funext m;have:((i:Int)+(m:Int)*1).toNat=i+m:=by lia
  rw[this]
 rw[e];have:=pick_run xs i k;rw[List.filterMap_map]at this;have a:((λx=>xs[x]?)∘λx=>i+x)=λm=>xs[i+m]?:=rfl;rw[a]at this;rw[this]
theorem getItem_tuple_cut{t j:F4}{a:Array u8}{o p:u8}{lo hi:Option Int}{Q:u8->E9->Prop}(e:al9 s.heap t a)(hs:s.heap.IsSliceOf j o p .none)(pl:aq8 o lo)(u:aq8 p hi)
  (B:¬ (sIx a.size 0 lo=0/\sIx a.size a.size hi=a.size))
  (h:Q (.ref s.heap.objs.size) { s with heap:=s.heap.push { cls:=.type "tuple",data:=.seq ((a.toList.drop (sIx a.size 0 lo)).take (sIx a.size a.size hi-sIx a.size 0 lo)).toArray } })
  (hsz:a.size<=F9):J0 (L4 prog w) A (ar2 (.ref t) (.ref j)) Q E s:=by
 have b:sizeOk (.seq ((a.toList.drop (sIx a.size 0 lo)).take (sIx a.size a.size hi-sIx a.size 0 lo)).toArray):=by
  show((a.toList.drop (sIx a.size 0 lo)).take (sIx a.size a.size hi-sIx a.size 0 lo)).toArray.size<=F9;rw[F1,O7,W3,J1]
  lia
 have G:sIx a.size a.size hi<=a.size:=AL _ _ (F6 _) hi;obtain⟨os,i,g,z⟩:=id hs;have n:s.TypeIs (.ref j) "slice":=⟨os,i,g⟩;unfold ar2
 try with_reducible refine N6 ?_
 first|refine o0 (E6 ?_)|skip
 refine o0 (wpAny_sequenceKey e.typeIs (by decide) ?_);refine o0 (wpAny_callSpecial?_slot (name:=J5 "__getitem__") e.typeIs R3
  (aa4 R3 e.typeIs entry_tuple_getitem ?_ (args_tuple_getitem _ _)))
 show J0 _ _ (aa3 (.ref t) >>= _) _ _ s;refine o0 (tupleItemsOf_ e ?_);refine o0 (an3 n ?_);rw[if_pos (by decide)];refine o0 (eV hs pl u ?_);have l:¬ ((((sIx a.size 0 lo:Nat):Int)==0&&(1:Int)==1&&(sIx a.size a.size hi-sIx a.size 0 lo)==a.size)=true):=by
  intro q;rw[F8,F8]at q;have C:((sIx a.size 0 lo:Nat):Int)=0:=eq_of_beq q.1.1;have H:sIx a.size a.size hi-sIx a.size 0 lo=a.size:=eq_of_beq q.2;exact B ⟨by lia,by lia⟩
 show J0 _ _ (if(((sIx a.size 0 lo:Nat):Int)==0&&(1:Int)==1&&(sIx a.size a.size hi-sIx a.size 0 lo)==a.size)=true then _ else _) _ _ s;rw[if_neg l,wf]
 first
  |exact o0 (m:=S9 _) (V0 (E6 ⟨_,rfl,E6 h⟩) b)
  |exact o0 (m:=S9 _) (V0 (o0 (E6 (E6 ⟨_,rfl,E6 h⟩))) b)
  |exact o0 (o0 (m:=S9 _) (V0 (E6 (E6 ⟨_,rfl,E6 h⟩)) b))
  |exact o0 (o0 (m:=S9 _) (V0 (E6 ⟨_,rfl,E6 h⟩) b))
end
end HT
namespace L2
open PySem PySem.Spec PyProof.Rows
abbrev TO:=St->Hp->(Option Int->Hp->Prop)->Prop
def PO(X:Cx)(e:Option N1)(t:TO):Prop :=
 ∀(g:List (F4×Obj)) (s:E9) (a:St) (H:Hp) (Q:Option Int->Hp->Prop),Inv X g a H s->t a H Q ->
  J0 (L4 X.prog X.w) X.A (evalPart e X.env) (λu h=>∃o b,Inv X g a b h/\aq8 u o/\Q o b) X.xe s
def yO:TO:=λ_ H Q=>Q none H
def DB(t:TE):TO:=λb H Q=>t b H λx a=>∃i,x=.int i/\Q (some i) a
section
variable{X:Cx}{e:N1}{te:TE}{lo hi:Option N1}{g B:TO}{pos G:Pos}
theorem zh:PO X none yO:=by
 intro a s b H Q I h;rw[evalPart_none];exact E6 ⟨none,H,I,.none,h⟩
theorem yE(h:PE X e te):PO X (some e) (DB te):=by
 intro g s j H Q I n;rw[evalPart_some];refine thn (h g s j H _ I n) λu p a=>a.el λx m l o b=>?_;obtain⟨i,rfl,q⟩:=b;obtain⟨t,rfl⟩:=o;exact⟨some i,m,l,.int i t,q⟩
def SlR(X:Cx)(r:V->Option Int->Option Int->Hp->VK->Prop):Prop :=
 ∀(a:List (F4×Obj)) (s:E9) (b:St) (H:Hp) (x:V) (v vl vu:u8) (lo hi:Option Int) (e:F4) (Q:VK),Inv X a b H s->aM x v->s.heap.IsSliceOf e vl vu .none->aq8 vl lo->aq8 vu hi->r x lo hi H Q ->
  ∃T id,typeLookup (.type T) "__getitem__"=af8 (some (.builtin id))/\s.TypeIs v T/\J0 (L4 X.prog X.w) X.A (ar2 v (.ref e)) (EP X a b Q) X.xe s
theorem SlR.or{r e:V->Option Int->Option Int->Hp->VK->Prop}(h:SlR X r)(h':SlR X e):SlR X (λx lo hi H Q=>r x lo hi H Q∨e x lo hi H Q):=by
 intro a s b H x v vl vu lo hi sl Q I rx hs pl pu q;rcases q with q|q
 ·exact h a s b H x v vl vu lo hi sl Q I rx hs pl pu q
 ·exact h' a s b H x v vl vu lo hi sl Q I rx hs pl pu q
def tSl(r:V->Option Int->Option Int->Hp->VK->Prop)(te:TE)(g B:TO):TE:=λa H Q=>te a H λx b=>g a b λl e=>B a e λu h=>r x l u h Q
theorem xg{r:V->Option Int->Option Int->Hp->VK->Prop}(hr:SlR X r)(he:PE X e te)(P:PO X lo g)(C:PO X hi B):PE X (.Subscript e (.Slice lo hi none G) pos) (tSl r te g B):=by
 intro j s m H Q I h;refine Subscript_ (thn (he j s m H _ I h) λv E p=>p.el λx Y J M A=>?_);refine wpAny_Slice (thn (P j E m Y _ J A) λo s2 ⟨l,z,Z,O,U⟩=>thn (C j s2 m z _ Z U) λn a ⟨u,t,S,N,R⟩=>?_);rw[evalPart_none];refine E6 ?_;have I4:Inv X j m t { a with heap:=a.heap.push { cls:=.type "slice",data:=.fields #[o,n,.none] } }:=S.kept (t':=a.toks) λb ob q=>E7 _ q;obtain⟨T,id,L,w,hg⟩:=hr j { a with heap:=a.heap.push { cls:=.type "slice",data:=.fields #[o,n,.none] } } m t x v o n l u a.heap.objs.size Q I4 M (K3.IsSliceOf.new ..) O N R;show J0 (L4 X.prog X.w) X.A (subscriptTail e (.Slice lo hi none G) v (.ref a.heap.objs.size)) (EP X j m Q) X.xe { a with heap:=a.heap.push { cls:=.type "slice",data:=.fields #[o,n,.none] } };exact tail_any (ops:=[.ref a.heap.objs.size,v]) w L hg (by with_unfolding_all rfl)
def oK(xs:List V)(lo hi:Option Int):List V:=(xs.drop (HT.sIx xs.length 0 lo)).take (HT.sIx xs.length xs.length hi-HT.sIx xs.length 0 lo)
theorem j9(xs:List V)(lo hi:Option Int):(oK xs lo hi).length<=xs.length:=by
 unfold oK;rw[O7,W3]
 lia
def EN(K:E5):V->Option Int->Option Int->Hp->VK->Prop:=λx lo hi H Q=>∃a b,x=.ref a/\SqT K H a b /\
 ¬ (HT.sIx b.length 0 lo=0/\HT.sIx b.length b.length hi=b.length)/\∀p,H p=none->Q (.ref p) (upd H p (.tup (oK b lo hi)))
theorem Ca:SlR X (EN X.K):=by
 intro p s t H x v vl vu lo hi sl Q I rx hs pl pu h;obtain⟨a,e,rfl,m,n,q⟩:=h;cases rx;obtain⟨g,r,j,l⟩:=I.tuple m;have i:g.toArray.size=e.length:=by rw[F1];exact r.length.symm
 refine⟨"tuple",_,R3.lookup,j.typeIs,?_⟩;refine HT.getItem_tuple_cut j hs pl pu (by rw[i];exact n) ?_ (by rw[i];exact l);rw[i];refine⟨.ref s.heap.objs.size,_,I.laid (t':=s.toks) (o:=.tup (oK e lo hi)) (λb u q=>E7 _ q) (F6 _) ?_,rfl,q _ (I.hok.fresh (F6 _))⟩;exact⟨O9 (j9 e lo hi) l,_,(r.drop (HT.sIx e.length 0 lo)).take (HT.sIx e.length e.length hi-HT.sIx e.length 0 lo),kl.new _ _⟩
def D7(K:E5):R2:=λx y H Q=>∃a b g e,x=.ref a/\y=.ref b/\SqT K H a g/\SqT K H b e/\g≠[]/\g.length+e.length<=F9 /\
 (e=[]->Q (.ref a) H)/\(e≠[]->∀p,H p=none->Q (.ref p) (upd H p (.tup (g++e))))
theorem aw.nil_iff{xs:List V}{us:List u8}(r:aw xs us):us=[]↔xs=[]:=by
 cases r with
 |nil=>simp
 |cons _ _=>simp
theorem zc:OpR X (X5 .Add) (D7 X.K):=by
 intro J s L H x y v u Q I rx ry h;obtain⟨a,b,E,p,rfl,rfl,m,n,B,i,l,C⟩:=h;cases rx;cases ry;obtain⟨A,g,t,_⟩:=I.tuple m;obtain⟨j,e,G,_⟩:=I.tuple n;refine HT.cat_tup t G (λz=>B (g.nil_iff.mp z)) (λz=>⟨.ref a,H,I,rfl,l (e.nil_iff.mp z)⟩) (λz=>?_) (by rw[<-g.length,<-e.length];exact i);refine⟨.ref s.heap.objs.size,_,I.laid (t':=s.toks) (o:=.tup (E++p)) (λb M q=>E7 _ q) (F6 _) ?_,rfl,C (λw=>z (e.nil_iff.mpr w)) _ (I.hok.fresh (F6 _))⟩;exact⟨by rw[F2];exact i,_,g.append e,kl.new _ _⟩
end
noncomputable def ixN(n:Nat)(i:Int):Option Nat:=if 0<=i then(if i<n then some i.toNat else none)else if -(n:Int)<=i then some (i+n).toNat else none
def atI{a:Type}(xs:List a)(i:Int):Option a:=(ixN xs.length i).bind λj=>xs[j]?
theorem sZ{n:Nat}{i:Int}{j:Nat}(h:ixN n i=some j):seqIndex? i n=some j/\j<n/\-(n:Int)<=i/\i<n:=by
 unfold ixN at h
 by_cases b:0<=i
 ·rw[if_pos b]at h
  by_cases a:i<n
  ·rw[if_pos a]at h;have e:i.toNat=j:=R1 h;exact⟨by rw[seqIndex_of b a,e],by lia,by lia,a⟩
  ·rw[if_neg a]at h;cases h
 ·rw[if_neg b]at h
  by_cases a:-(n:Int)<=i
  ·rw[if_pos a]at h;have e:(i+n).toNat=j:=R1 h;exact⟨by rw[seqIndex_neg (by lia) a,e],by lia,a,by lia⟩
  ·rw[if_neg a]at h;cases h
theorem o4{a:Type}{xs:List a}{i:Int}{v:a}(h:atI xs i=some v):∃j,seqIndex? i xs.length=some j/\xs[j]?=some v/\j<xs.length/\-(xs.length:Int)<=i/\i<xs.length:=by
 unfold atI at h;cases e:ixN xs.length i with
 |none=>rw[e]at h;cases h
 |some j =>
  rw[e]at h;obtain⟨b,l,m,g⟩:=sZ e;exact⟨j,b,h,l,m,g⟩
theorem aI{a:Type}{xs:List a}{j:Nat}{v:a}(h:xs[j]?=some v):atI xs (j:Int)=some v:=by
 have b:j<xs.length:=(J4.mp h).1;have e:ixN xs.length (j:Int)=some j:=by
  unfold ixN;rw[if_pos (by lia),if_pos (by lia)];simp
 unfold atI;rw[e];exact h
def tO(b:N1):Prop:=∀o i,subscripted b false o i=operate [o,i] (ar2 o i)
def IxR(X:Cx)(r:R2):Prop :=
 ∀(a slice:N1) (b:List (F4×Obj)) (s:E9) (e:St) (H:Hp) (x y:V) (v u:u8) (Q:VK),Inv X b e H s->aM x v->aM y u->r x y H Q ->
  subscripted slice false v u=operate [v,u] (ar2 v u)->J0 (L4 X.prog X.w) X.A (subscriptTail a slice v u) (EP X b e Q) X.xe s
def MtR(X:Cx)(id:String)(r:V->List V->Hp->VK->Prop):Prop :=
 ∀(a:List (F4×Obj)) (s:E9) (e:St) (H:Hp) (x:V) (g:List V) (v:u8) (b:List u8) (Q:VK),Inv X a e H s->aM x v->aw g b->r x g H Q ->
  J0 (L4 X.prog X.w) X.A (ar9 (.builtin id) (v::b)) (EP X a e Q) X.xe s
section
variable{X:Cx}{a b:N1}{ta tb:TE}{pos:Pos}
theorem CG{r:R2}(hr:IxR X r)(ha:PE X a ta)(m:PE X b tb)(hs:tO b):PE X (.Subscript a b pos) (tOp r ta tb):=by
 intro l s e H Q I h;exact Subscript_ (Ap ha m I h λv u o x y g n i j q=>hr a b l o e g x y v u Q n i j q (hs _ _))
def EL(K:E5):R2:=λx y H Q=>∃p a i v,x=.ref p/\y=.int i/\SqL K H p a/\atI a i=some v/\Q v H
def E2(K:E5):R2:=λx y H Q=>∃p a i v,x=.ref p/\y=.int i/\SqT K H p a/\atI a i=some v/\Q v H
def Ej:R2:=λx y H Q=>∃z i c,x=.str z/\y=.int i/\z.length<=F9/\atI z.cps.toList i=some c/\Q (.str ⟨#[c]⟩) H
theorem si:IxR X (EL X.K):=by
 intro m slice o s B H x y v u Q I rx ry h hs;obtain⟨p,T,i,z,rfl,rfl,L,M,q⟩:=h;cases rx;obtain⟨t,rfl⟩:=ry;obtain⟨g,r,e,P⟩:=I.list L;obtain⟨j,b,O,S,E,J⟩:=o4 M;obtain⟨w,C,n⟩:=r.get O;have N:=r.length;have R:=jP;have a:EP X o B Q w s:=⟨z,H,I,n,q⟩
 by_cases A:0<=i
 ·have l:i.toNat=j:=by
   rw[seqIndex_of A J]at b;exact R1 b
  exact item_listR e.isList A (by lia) (by rw[l];simpa using C) a hs
 ·have l:(i+(g.toArray.size:Int)).toNat=j:=by
   rw[seqIndex_neg (by lia) E]at b;rw[F1,<-N];exact R1 b
  exact subscriptTail_builtinR (x:=w) e.isList.typeIs slot_list_getitem.lookup
   (wpAny_getItem_list_neg (Q:=λr G=>r=w/\EP X o B Q r G) e.isList (by lia) (by rw[F1]<;>lia) (by lia) (by rw[l];simpa using C) ⟨rfl,a⟩) hs
theorem By:IxR X (E2 X.K):=by
 intro b slice g s m H x y v u Q I rx ry h hs;obtain⟨p,R,i,z,rfl,rfl,A,B,q⟩:=h;cases rx;obtain⟨t,rfl⟩:=ry;obtain⟨E,r,l,M⟩:=I.tuple A;obtain⟨j,o,G,P,L,N⟩:=o4 B;obtain⟨w,J,e⟩:=r.get G;have C:=r.length;have O:=jP;have a:EP X g m Q w s:=⟨z,H,I,e,q⟩;exact subscriptTail_builtinR (x:=w) l.typeIs slot_tuple_getitem.lookup
  (getItem_tuple (j:=j) (Q:=λr n=>r=w/\EP X g m Q r n) l (by lia) (by lia) (by rw[F1,<-C];exact o) (by simpa using J) ⟨rfl,a⟩) hs
theorem AV:IxR X Ej:=by
 intro a slice B s G H x y v u Q I rx ry h hs;obtain⟨z,i,c,rfl,rfl,A,m,q⟩:=h;obtain⟨t,rfl⟩:=rx;obtain⟨w,rfl⟩:=ry;obtain⟨j,b,p,E,e,l⟩:=o4 m;have o:z.cps.toList.length=z.length:=by simp[Str.length]
 rw[o]at b e l;have C:=jP;exact tail_any (ap6 s z t) slot_str_getitem.lookup (getItem_str (c:=c) (by
  have g:decide (i < -(2 ^ 63:Int))=false:=decide_eq_false (by lia);have n:decide (i>=2 ^ 63)=false:=decide_eq_false (by lia);rw[g,n,Bool.or_false]) (by rw[b];simpa using p) ⟨.str ⟨#[c]⟩,H,I.tok _,⟨_,rfl⟩,q⟩) hs
theorem qX(a:List u8)(n j:Nat)(u:u8):ai9 (·.setIfInBounds j u) { cls:=.type "list",data:=.seq a.toArray n }={ cls:=.type "list",data:=.seq (a.set j u).toArray n }:=by
 simp[ai9]
theorem Inv.lst{b:List (F4×Obj)}{σ:St}{H:Hp}{s:E9}{p:F4}{xs:List V}(I:Inv X b σ H s)(h:H p=some (.lst xs)):
  ∃(a:List u8) (n:Nat),aw xs a/\s.heap.get? p=some { cls:=.type "list",data:=.seq a.toArray n }/\xs.length<=F9:=by
 obtain⟨z,a,n,r,e⟩:=I.hok p _ h;exact⟨a,n,r,e,z⟩
theorem Inv.lstUpd{j:List (F4×Obj)}{σ:St}{H:Hp}{s:E9}{p:F4}{xs i:List V}{a its':List u8}{n g:Nat}{f:Obj->Obj}(I:Inv X j σ H s)(h:H p=some (.lst xs))
  (o:s.heap.get? p=some { cls:=.type "list",data:=.seq a.toArray n }) (l:f { cls:=.type "list",data:=.seq a.toArray n }={ cls:=.type "list",data:=.seq its'.toArray g }) (r:aw i its') (m:i.length<=F9) (t:Nat) :
  Inv X j σ (upd H p (.lst i)) { s with heap:=s.heap.update p f,toks:=t }:=by
 have e:(s.heap.update p f).get? p=some { cls:=.type "list",data:=.seq its'.toArray g }:=by
  rw[P3 f o (by rw[l]<;>rfl),l]
 refine I.write (x:=p) (e:=p) (by rw[h];trivial) (.inl rfl) (λb u w q=>(L5 _ _ (U2 w)).trans q) ⟨_,e⟩ ?_;exact⟨m,its',g,r,e⟩
def CC:V->V->V->Hp->(Hp->Prop)->Prop:=λo i v H Q=>∃p a k j,o=.ref p/\i=.int k/\H p=some (.lst a)/\ixN a.length k=some j/\Q (upd H p (.lst (a.set j v)))
theorem vO:Eh X CC:=by
 intro G s J H o i v ov iv u Q I ro ri rv h;obtain⟨p,M,k,j,rfl,rfl,w,L,q⟩:=h;cases ro;obtain⟨t,rfl⟩:=ri;obtain⟨a,n,r,e,E⟩:=I.lst w;obtain⟨b,O,A,m⟩:=sZ L;have g:=r.length;have N:=jP;have C:Inv X G J (upd H p (.lst (M.set j v))) { s with heap:=s.heap.update p (ai9 (·.setIfInBounds j u)) } :=
  I.lstUpd w e (qX a n j u) (r.set rv j) (by rw[ah8];exact E) s.toks
 by_cases B:0<=k
 ·have l:k.toNat=j:=by
   rw[seqIndex_of B m]at b;exact R1 b
  exact PySem.W.ki_setAt e B (by lia) (by rw[F1,<-g];exact m) (by rw[l];exact⟨_,C,q⟩)
 ·have l:(k+(a.toArray.size:Int)).toNat=j:=by
   rw[seqIndex_neg (by lia) A]at b;rw[F1,<-g];exact R1 b
  exact PySem.W.ki_setBack e (by lia) (by rw[F1,<-g];exact A) (by lia) (by rw[l];exact⟨_,C,q⟩)
theorem oR(lo hi:Option Int)(n:Nat):(aj0 lo hi none n).1=((HT.sIx n 0 lo:Nat):Int)/\(aj0 lo hi none n).2.1=((HT.sIx n n hi:Nat):Int)/\(aj0 lo hi none n).2.2=1:=by
 refine⟨?_,?_,rfl⟩
 ·cases lo with
  |none=>simp[aj0,HT.sIx]
  |some i =>
   simp only[aj0,HT.sIx,Option.getD_none,show(1:Int) > 0 by decide,if_true]
   by_cases h:i<0
   ·simp only[h,if_true]<;>lia
   ·simp only[h,if_false]<;>lia
 ·cases hi with
  |none=>simp[aj0,HT.sIx]
  |some i =>
   simp only[aj0,HT.sIx,Option.getD_none,show(1:Int) > 0 by decide,if_true]
   by_cases h:i<0
   ·simp only[h,if_true]<;>lia
   ·simp only[h,if_false]<;>lia
theorem mj(a:List u8)(lo hi:Option Int):slicePick a.toArray lo hi none=((a.drop (HT.sIx a.length 0 lo)).take (HT.sIx a.length a.length hi-HT.sIx a.length 0 lo)).toArray:=by
 obtain⟨b,e,g⟩:=oR lo hi a.toArray.size;unfold slicePick;rw[b,e,g];simp only[sliceRange_one,pick_run,F1]<;>rfl
def EJ(K:E5):V->Option Int->Option Int->Hp->VK->Prop:=λx lo e H Q=>∃a b,x=.ref a/\SqL K H a b/\∀p,H p=none->Q (.ref p) (upd H p (.lst (oK b lo e)))
theorem zq:SlR X (EJ X.K):=by
 intro n s p H x v vl vu lo hi sl Q I rx hs pl pu h;obtain⟨a,e,rfl,i,q⟩:=h;cases rx;obtain⟨l,r,g,j⟩:=I.list i;have m:=r.length;refine⟨"list",_,slot_list_getitem.lookup,g.isList.typeIs,?_⟩;refine wpAny_getItem_list_slice g.isList hs pl pu .none (by simp) ?_ (by rw[F1]<;>lia);rw[mj,<-m];refine⟨.ref s.heap.objs.size,_,I.laid (t':=s.toks) (o:=.lst (oK e lo hi)) (λb t q=>E7 _ q) (F6 _) ?_,rfl,q _ (I.hok.fresh (F6 _))⟩;exact⟨O9 (j9 e lo hi) j,_,0,(r.drop (HT.sIx e.length 0 lo)).take (HT.sIx e.length e.length hi-HT.sIx e.length 0 lo),K1 _ rfl⟩
def gm:V->Bool
 |.non=>true
 |.bl _=>true
 |.int _=>true
 |.str _=>true
 |_=>false
noncomputable def eqV:V->V->Bool
 |.non,.non=>true
 |.bl a,.bl b=>a==b
 |.bl a,.int b=>(if a then 1 else 0)==b
 |.int a,.bl b=>a==(if b then 1 else 0)
 |.int a,.int b=>a==b
 |.str a,.str b=>a==b
 |_,_=>false
theorem Bv{A:M8}{s:E9}{y x:V}{u v:u8}(i:aM y u)(e:aM x v)(j:gm y=true)(h:gm x=true):T8 A s u v (eqV y x):=by
 cases y with
 |non =>
  cases i;cases x with
  |non=>cases e;exact T8.same _
  |bl b=>cases e;exact T8.none_bool b
  |int b=>obtain⟨t,rfl⟩:=e;exact T8.none_int b t
  |str b=>obtain⟨t,rfl⟩:=e;exact T8.none_str b t
  |_=>exact absurd (show false=true from h) P6
 |bl a =>
  cases i;cases x with
  |non=>cases e;exact T8.bool_none a
  |bl b=>cases e;exact T8.bool_bool a b
  |int b=>obtain⟨t,rfl⟩:=e;exact T8.bool_int a b t
  |str b=>obtain⟨t,rfl⟩:=e;exact T8.bool_str a b t
  |_=>exact absurd (show false=true from h) P6
 |int a =>
  obtain⟨g,rfl⟩:=i;cases x with
  |non=>cases e;exact T8.int_none a g
  |bl b=>cases e;exact T8.int_bool a g b
  |int b=>obtain⟨t,rfl⟩:=e;exact T8.int_int a g b t
  |str b=>obtain⟨t,rfl⟩:=e;exact T8.int_str a g b t
  |_=>exact absurd (show false=true from h) P6
 |str a =>
  obtain⟨g,rfl⟩:=i;cases x with
  |non=>cases e;exact T8.str_none a g
  |bl b=>cases e;exact T8.str_bool a g b
  |int b=>obtain⟨t,rfl⟩:=e;exact T8.str_int a g b t
  |str b=>obtain⟨t,rfl⟩:=e;exact T8.str_str a g b t
  |_=>exact absurd (show false=true from h) P6
 |_=>exact absurd (show false=true from j) P6
def eqU(x:V)(u:u8):Bool:=match u with
 |.none=>eqV .non x
 |.bool b=>eqV (.bl b) x
 |.int i _=>eqV (.int i) x
 |.str z _=>eqV (.str z) x
 |_=>false
theorem xH{x y:V}{u:u8}(r:aM y u)(f:gm y=true):eqU x u=eqV y x:=by
 cases y with
 |non=>cases r;rfl
 |bl b=>cases r;rfl
 |int i=>obtain⟨t,rfl⟩:=r;rfl
 |str z=>obtain⟨t,rfl⟩:=r;rfl
 |_=>exact absurd (show false=true from f) P6
theorem jv{x:V}:∀{xs:List V}{us:List u8},aw xs us->xs.all gm=true->us.any (eqU x)=xs.any λy=>eqV y x
 |_,_,.nil,_=>rfl
 |y::xs,u::us,.cons r t,f=>by
  rw[V6,F8]at f;rw[aa8,aa8,xH r f.1,jv t f.2]
theorem gN{A:M8}{s:E9}{x:V}{v:u8}(b:aM x v)(e:gm x=true):∀{xs:List V}{us:List u8},aw xs us->xs.all gm=true->∀u∈us,T8 A s u v (eqU x u)
 |_,_,.nil,_=>λu a=>by cases a
 |y::xs,u::us,.cons r t,f=>λg a=>by
  rw[V6,F8]at f;rcases J3.mp a with rfl|a
  ·rw[xH r f.1];exact Bv r b f.1 e
  ·exact gN b e t f.2 g a
def inV(x:V)(xs:List V):Bool:=xs.any λy=>eqV y x
def rIn(K:E5)(b:Bool):R2:=λx y H Q=>∃p a,y=.ref p/\(SqL K H p a∨SqT K H p a)/\gm x=true/\a.all gm=true/\Q (.bl (if b then !inV x a else inV x a)) H
theorem uu:OpR X (P2 .In) (rIn X.K false):=by
 intro l s m H x y v u Q I rx ry h;obtain⟨p,n,rfl,b,i,fs,q⟩:=h;cases ry;rcases b with b|b
 ·obtain⟨a,r,e,j⟩:=I.list b;refine SeqAt.in_listAt (eqU x) e.isList (λw g=>gN rx i r fs w (by simpa using g)) ⟨.bl _,H,I,rfl,?_⟩;rw[show a.toArray.any (eqU x)=a.any (eqU x)by simp,jv r fs];exact q
 ·obtain⟨a,r,e,j⟩:=I.tuple b;refine SeqAt.in_tupleAt (eqU x) e (λw g=>gN rx i r fs w (by simpa using g)) ⟨.bl _,H,I,rfl,?_⟩;rw[show a.toArray.any (eqU x)=a.any (eqU x)by simp,jv r fs];exact q
theorem nP:OpR X (P2 .NotIn) (rIn X.K true):=by
 intro l s m H x y v u Q I rx ry h;obtain⟨p,n,rfl,b,i,fs,q⟩:=h;cases ry;rcases b with b|b
 ·obtain⟨a,r,e,j⟩:=I.list b;refine SeqAt.notIn_listAt (eqU x) e.isList (λw g=>gN rx i r fs w (by simpa using g)) ⟨.bl _,H,I,rfl,?_⟩;rw[show a.toArray.any (eqU x)=a.any (eqU x)by simp,jv r fs];exact q
 ·obtain⟨a,r,e,j⟩:=I.tuple b;refine SeqAt.notIn_tupleAt (eqU x) e (λw g=>gN rx i r fs w (by simpa using g)) ⟨.bl _,H,I,rfl,?_⟩;rw[show a.toArray.any (eqU x)=a.any (eqU x)by simp,jv r fs];exact q
theorem oa:cy X (.builtin "len") (λxs H Q=>∃p a,xs=[.ref p]/\(SqL X.K H p a∨SqT X.K H p a)/\Q (.int a.length) H):=by
 intro n s w H xs t Q I r h;obtain⟨p,a,rfl,b,q⟩:=h;obtain⟨u,rfl,l⟩:=pZ r;cases l;have o:=jP;rcases b with b|b
 ·obtain⟨i,e,g,m⟩:=I.list b;have j:=e.length;exact Calls.call_len_list g.isList (by simp only[F1]<;>lia) ⟨.int a.length,H,I.tok _,⟨s.toks+1,by rw[F1,j]⟩,q⟩
 ·obtain⟨i,e,g,m⟩:=I.tuple b;have j:=e.length;exact len_tuple g (by simp only[F1]<;>lia) ⟨.int a.length,H,I.tok _,⟨s.toks+1,by rw[F1,j]⟩,q⟩
theorem nX:cy X (.builtin "len") (λxs H Q=>∃z,xs=[.str z]/\z.length<=F9/\Q (.int z.length) H):=by
 intro a s g H xs e Q I r h;obtain⟨z,rfl,i,q⟩:=h;obtain⟨u,rfl,t,rfl⟩:=pZ r;have b:=jP;exact len_str (by lia) ⟨.int z.length,H,I.tok _,⟨_,rfl⟩,q⟩
theorem cy.or{f:u8}{r e:List V->Hp->VK->Prop}(h:cy X f r)(h':cy X f e):cy X f (λxs H Q=>r xs H Q∨e xs H Q):=by
 intro g s b H xs a Q I rs q;rcases q with q|q
 ·exact h g s b H xs a Q I rs q
 ·exact h' g s b H xs a Q I rs q
theorem ot:cy X (.type "list") (λxs H Q=>∃p m,xs=[.ref p]/\(SqL X.K H p m∨SqT X.K H p m)/\∀l,H l=none->Q (.ref l) (upd H l (.lst m))):=by
 intro M s N H xs P Q I r h;obtain⟨p,m,rfl,w,q⟩:=h;obtain⟨u,rfl,L⟩:=pZ r;cases L;have z:∀(a:List u8),aw m a->m.length<=F9->∀(g:K3) (i:Nat),(∀b J,s.heap.get? b=some J->g.get? b=some J) ->
   g.get? s.heap.objs.size=some { cls:=.type "list",dict:=none,data:=.seq a.toArray i,slots:=#[] }->EP X M N Q (.ref s.heap.objs.size) { s with heap:=g }:=λa j t g i kp e =>
  ⟨.ref s.heap.objs.size,_,I.laid (t':=s.toks) kp (F6 _) (show bT X.prog X.w _ g _ (.lst m)from⟨t,a,i,j,e⟩),rfl,q _ (I.hok.fresh (F6 _))⟩
 rcases w with w|w
 ·obtain⟨a,j,C,t⟩:=I.list w;have O:=j.length;obtain⟨o,A,B,n,E⟩:=C.isList;exact call_list_seq p (.inl rfl) A B E (λg i kp e=>z a j t g i kp e) (by simp only[F1]<;>lia)
 ·obtain⟨a,j,C,t⟩:=I.tuple w;have O:=j.length;obtain⟨o,A,B,n,E⟩:=C;exact call_list_seq p (.inr rfl) A B E (λg i kp e=>z a j t g i kp e) (by simp only[F1]<;>lia)
theorem mI:cy X (.type "tuple") (λxs H Q=>∃p g,xs=[.ref p]/\((SqL X.K H p g/\∀l,H l=none->Q (.ref l) (upd H l (.tup g)))∨(SqT X.K H p g/\Q (.ref p) H))):=by
 intro z s A H xs G Q I r h;obtain⟨p,g,rfl,h⟩:=h;obtain⟨u,rfl,C⟩:=pZ r;cases C;rcases h with⟨n,q⟩|⟨n,q⟩
 ·obtain⟨a,m,t,w⟩:=I.list n;have J:=m.length;refine call_tuple_list t.isList (λj kp=>?_) (by simp only[F1]<;>lia);have B:Inv X z A H { s with heap:=j }:=I.kept (t':=s.toks) kp;have E:Inv X z A (upd H j.objs.size (.tup g)) { s with heap:=j.push { cls:=.type "tuple",data:=.seq a.toArray } } :=
   B.laid (t':=s.toks) (λb o e=>E7 _ e) (F6 _) (show bT X.prog X.w _ _ _ (.tup g)from⟨w,a,m,kl.new _ _⟩)
  exact⟨.ref j.objs.size,_,E,rfl,q _ (B.hok.fresh (F6 _))⟩
 ·obtain⟨a,m,t,w⟩:=I.tuple n;exact call_tuple_same t ⟨.ref p,H,I,rfl,q⟩
def tyV(K:E5)(T:String)(x:V)(H:Hp):Prop:=match x with
 |.str _=>T="str"
 |.int _=>T="int"
 | .ref p => (T = "list" ∧ ∃ b,SqL K H p b) ∨ (T = "tuple" ∧ ∃ o,K.lookup p = some o ∧ o.cls = .type "tuple" ∧ o.dict = none) ∨
   (T="dict"/\((∃a,H p=some (.dK a))∨∃a,H p=some (.dT a)))∨(T="set"/\∃S n,H p=some (.set S n))
 |_=>False
theorem xB{u:List (F4×Obj)}{σ:St}{H:Hp}{s:E9}{T:String}{x:V}{v:u8}(I:Inv X u σ H s)(r:aM x v)(ty:tyV X.K T x H):
  s.TypeIs v T/\∀a,v=.ref a->∃q,s.heap.get? a=some q/\q.dict=none:=by
 cases x with
 |str z =>
  obtain⟨t,rfl⟩:=r;cases(show T="str" from ty);exact⟨ap6 s z t,λ_ e=>nomatch e⟩
 |int i =>
  obtain⟨t,rfl⟩:=r;cases(show T="int" from ty);exact⟨ap7 s i t,λ_ e=>nomatch e⟩
 |ref p =>
  cases r;rcases ty with⟨rfl,C,w⟩|⟨rfl,o,b,A,l⟩|⟨rfl,b⟩|⟨rfl,S,n,b⟩
  ·obtain⟨B,_,m,_⟩:=I.list w;refine⟨m.isList.typeIs,λa e=>?_⟩;cases e;obtain⟨o,n,e,c,l,_⟩:=m;exact⟨o,e,l⟩
  ·refine⟨⟨o,I.kIn p o b,A⟩,λa e=>?_⟩;cases e;exact⟨o,I.kIn _ o b,l⟩
  ·have z:∃o,s.heap.get? p=some o/\o.ExactDict:=by
    rcases b with⟨h,b⟩|⟨h,b⟩
    ·obtain⟨_,_,_,_,o,_,_,e,g,_⟩:=I.hok p _ b;exact⟨o,e,g⟩
    ·obtain⟨_,_,_,_,o,_,_,e,g,_⟩:=I.hok p _ b;exact⟨o,e,g⟩
   obtain⟨o,e,g⟩:=z;refine⟨⟨o,e,g.1⟩,λa j=>?_⟩;cases j;exact⟨o,e,g.2.1⟩
  ·obtain⟨o,_,_,_,e,g,_⟩:=I.hok p _ b;refine⟨⟨o,e,g.1⟩,λa j=>?_⟩;cases j;exact⟨o,e,g.2.1⟩
 |_=>exact T9 ty
def EB(K:E5)(T:String)(r:V->List V->Hp->VK->Prop)(G:TE):TE:=λb H Q=>G b H λx a=>tyV K T x a/\r x [] a Q
def tBM(K:E5)(T:String)(r:V->List V->Hp->VK->Prop)(G:TE)(t:TA):TE:=λa H Q=>G a H λx b=>tyV K T x b/\t a b λg e=>r x g e Q
variable{o e:N1}{B:List N1}{G:TE}{t:TA}{name:Str}{Y g:Pos}{T id:String}{r:V->List V->Hp->VK->Prop}
theorem BC(l:PlainAttrs T)(slot:Slot T name id)(a:typeOf (.builtin id)=af8 (.type "method_descriptor"))(A:MtR X id r)(n:PE X o G)
  (z:V3 o name X.env (aa2 o X.env)=aa2 o X.env:=by rfl) (u:(Y.endLine==g.line)=true:=by rfl):PE X (.Call (.Attribute o name Y) [] [] g) (EB X.K T r G):=by
 intro e s b H Q I h;refine wpAny_Call_method0_late z u (thn (n e s b H _ I h) λv p ⟨x,t,i,j,ty,m⟩=>?_);obtain⟨q,w⟩:=xB i j ty;exact⟨T,id,l,slot,a,q,w,Calls.callWith_builtin rfl (PySem.evalArgs_none (A e p b t x [] v [] Q i j .nil m))⟩
theorem xo(p:PlainAttrs T)(slot:Slot T name id)(i:typeOf (.builtin id)=af8 (.type "method_descriptor"))(J:MtR X id r)(w:PE X o G)(ha:PA X (e::B) t)
  (cF:V3 o name X.env (aa2 o X.env)=aa2 o X.env:=by rfl)
  (C:((U6 g (F3 (e :: B) X.env)).all (λx => !x.1) && (an4 g (ae5 [] X.env)).all (λx => x.1.isSome)
  &&decide ((e::B).length+([]:List ag6).length+(if([]:List ag6).isEmpty then 0 else 1)<30))=true:=by rfl)
  (U:(Y.endLine==g.line)=true:=by rfl) (hs:F3 (e::B) X.env=(false,aa2 e X.env)::F3 B X.env:=by rfl) (z:(U6 g (F3 B X.env)).any (·.1)=false:=by rfl) :
  PE X (.Call (.Attribute o name Y) (e::B) [] g) (tBM X.K T r G t):=by
 intro b s j H Q I h;refine wpAny_Call_method_late cF C U rfl (thn (w b s j H _ I h) λv O ⟨x,P,m,n,ty,u⟩=>?_);obtain⟨A,Z⟩:=xB m n ty;refine⟨T,id,p,slot,i,A,Z,?_⟩;have l:=ha g b O j P _ m u;rw[hs]at l ⊢;refine Calls.callWith_builtin (by show(false || (U6 g (F3 B X.env)).any (·.1))=false;rw[z]<;>rfl) (Calls.evalArgs_plain ?_);exact thn l λL S a=>a.el λM q R E N=>J b S j q x M v L Q R n E N
end
def MtM(X:Cx)(id:String)(r:V->List V->Hp->VK->Prop):Prop :=
 ∀(a:List (F4×Obj)) (s:E9) (e:St) (H:Hp) (x:V) (g:List V) (v:u8) (b:List u8) (Q:VK),Inv X a e H s->aM x v->aw g b->r x g H Q ->
  J0 (L4 X.prog X.w) X.A (ar9 (.builtin id) (v::b)) (EP X a e Q) X.xe s
theorem aw.un{x:V}{xs:List V}{us:List u8}(h:aw (x::xs) us):∃u a,us=u::a/\aM x u/\aw xs a:=by
 cases h with
 |cons r t=>exact⟨_,_,rfl,r,t⟩
theorem aw.one{x:V}{us:List u8}(h:aw [x] us):∃u,us=[u]/\aM x u:=by
 obtain⟨u,a,rfl,r,t⟩:=h.un;cases t;exact⟨u,rfl,r⟩
theorem aw.two{x y:V}{us:List u8}(h:aw [x,y] us):∃u v,us=[u,v]/\aM x u/\aM y v:=by
 obtain⟨u,a,rfl,r,t⟩:=h.un;obtain⟨v,rfl,q⟩:=t.one;exact⟨u,v,rfl,r,q⟩
theorem aw.zero:∀{us:List u8},aw [] us->us=[]
 |_,.nil=>rfl
theorem aw.dropLast{xs:List V}{us:List u8}(h:aw xs us):aw xs.dropLast us.dropLast:=by
 induction h with
 |nil=>exact .nil
 |cons r t ih =>
  cases t with
  |nil=>exact .nil
  |cons q a=>exact .cons r ih
theorem aw.reverse{xs:List V}{us:List u8}(h:aw xs us):aw xs.reverse us.reverse:=by
 induction h with
 |nil=>exact .nil
 |cons r t ih=>rw[aj1,aj1];exact aw.append ih (.cons r .nil)
theorem aw.rep{xs:List V}{us:List u8}(h:aw xs us):∀k:Nat,aw (F5 k xs).flatten (F5 k us).flatten
 |0=>.nil
 |k+1=>by
  rw[Q7,Q7,Z8,Z8];exact aw.append h (aw.rep h k)
theorem rX{g:Type}(l:List g):l.eraseIdx (l.length-1)=l.dropLast:=by
 induction l with
 |nil=>rfl
 |cons a r ih =>
  cases r with
  |nil=>rfl
  |cons b r =>
   have e:(a::b::r).length-1=((b::r).length-1)+1:=by
    have h:(a::b::r).length=r.length+2:=rfl;have i:(b::r).length=r.length+1:=rfl
    lia
   rw[e,List.eraseIdx_cons_succ,ih]
   all_goals rfl
theorem jR(b:List u8):∀(k:Nat) (a:List u8),
  ar3 (λh g=>h++g) a.toArray (F5 k b.toArray)=(a++(F5 k b).flatten).toArray
 |0,a=>by simp
 |k+1,a=>by
  have e:a.toArray++b.toArray=(a++b).toArray:=by simp
  have i:(a++b)++(F5 k b).flatten=a++(F5 (k+1) b).flatten:=by
   rw[Q7,Z8,aj2]
  rw[<-i,<-jR b k (a++b),<-e,Q7,X3]
section
variable{X:Cx}{g:List (F4×Obj)}{σ:St}{H:Hp}{s:E9}{l b:F4}{xs p y:List V}
theorem Inv.lset{a its':List u8}{n:Nat}{f:Array u8->Array u8}{t':Nat}(I:Inv X g σ H s)(j:H l=some (.lst xs))
  (e:s.heap.get? l=some { cls:=.type "list",data:=.seq a.toArray n }) (o:f a.toArray=its'.toArray) (b:aw p its') (m:p.length<=F9) :
  Inv X g σ (upd H l (.lst p)) { s with heap:=s.heap.update l (ai9 f),toks:=t' }:=by
 have q:=PySem.IsL.update e f;rw[o]at q;refine I.write (x:=l) (e:=l) (by rw[j];exact trivial) (.inl rfl) (λt u h i=>(L5 s.heap (ai9 f) (U2 h)).trans i) ⟨_,q⟩ ?_;exact⟨m,its',_,b,q⟩
theorem Inv.lnew{a:List u8}{t':Nat}(I:Inv X g σ H s)(b:aw p a)(e:p.length<=F9):
  Inv X g σ (upd H s.heap.objs.size (.lst p)) { s with heap:=s.heap.push { cls:=.type "list",data:=.seq a.toArray },toks:=t' } :=
 I.laid (λ_ _ q=>E7 _ q) (F6 _) ⟨e,a,0,b,K1 _ rfl⟩
theorem Inv.fresh(I:Inv X g σ H s):H s.heap.objs.size=none:=I.hok.fresh (F6 _)
theorem Inv.lstM(I:Inv X g σ H s)(b:H l=some (.lst xs)):xs.length<=F9/\∃(a:List u8) (n:Nat),aw xs a/\xs.length=a.length/\s.heap.get? l=some { cls:=.type "list",data:=.seq a.toArray n }:=by
 obtain⟨z,a,n,r,e⟩:=I.hok l _ b;exact⟨z,a,n,r,r.length,e⟩
theorem o8{n:Nat}(h:n<=F9):ac1 n=false:=by
 unfold ac1;exact decide_eq_false (by lia)
end
section
variable{X:Cx}
def tD:V->List V->Hp->VK->Prop:=λx b H Q=>∃l a y,x=.ref l/\b=[y]/\H l=some (.lst a)/\a.length<F9/\Q .non (upd H l (.lst (a++[y])))
theorem uT:MtM X "list.append" tD:=by
 intro j s m H x p v us Q I rx rv h;obtain⟨l,t,y,rfl,rfl,b,i,q⟩:=h;cases rx;obtain⟨u,rfl,g⟩:=rv.one;obtain⟨z,a,n,r,o,e⟩:=I.lstM b;refine ah0 F.slot_list_append ⟨_,e,rfl⟩ F.entry_list_append (F.args_list_append_2 _ _) (PySem.list_append l a.toArray n u (by rw[F1];lia)) ⟨e,?_⟩;refine⟨.non,_,I.lset (its':=a++[u]) b e (by simp) (r.append (.cons g .nil)) ?_,rfl,q⟩;rw[F2,aa9]
 lia
def tm:V->List V->Hp->VK->Prop:=λx g H Q=>∃l b e a,x=.ref l/\g=[.ref b]/\H l=some (.lst e)/\H b=some (.lst a)/\e.length+a.length<=F9/\Q .non (upd H l (.lst (e++a)))
theorem uS:MtM X "list.extend" tm:=by
 intro G s J H x M v us Q I rx rv h;obtain⟨l,b,O,N,rfl,rfl,m,B,E,q⟩:=h;cases rx;obtain⟨u,rfl,p⟩:=rv.one;cases p;obtain⟨z,g,n,r,L,e⟩:=I.lstM m;obtain⟨C,a,w,o,A,t⟩:=I.lstM B;have j:g.toArray.size+a.toArray.size<=F9:=by rw[F1,F1];lia
 have i:¬ (!g.toArray.isEmpty&&ac1 (g.toArray.size+a.toArray.size))=true:=by
  rw[o8 j,R8];exact P6
 refine ah0 F.slot_list_extend ⟨_,e,rfl⟩ F.entry_list_extend (F.args_list_extend_2 _ _)
  (AutoSeq1.list_extend_list_list_0 l g.toArray n b a.toArray w i (by rw[F1];lia) (by lia)) ⟨e,t,?_⟩
 refine⟨.non,_,I.lset (its':=g++a) m e (by simp) (r.append o) ?_,rfl,q⟩;rw[F2]
 lia
def DD:V->List V->Hp->VK->Prop:=λx b H Q=>∃l a y,x=.ref l/\b=[]/\H l=some (.lst a)/\a[a.length-1]?=some y/\Q y (upd H l (.lst a.dropLast))
theorem AI:MtM X "list.pop" DD:=by
 intro t s w H x A v us Q I rx rv h;obtain⟨l,B,y,rfl,rfl,i,j,q⟩:=h;cases rx;have b:=rv.zero;subst b;obtain⟨z,a,n,r,p,e⟩:=I.lstM i;obtain⟨u,o,m⟩:=r.get j;have g:a.toArray[a.toArray.size-1]?=some u:=by
  show a.toArray[a.length-1]?=some u;rw[<-R9,<-p];exact o
 refine ah0 F.slot_list_pop ⟨_,e,rfl⟩ F.entry_list_pop (F.args_list_pop_1 _) (MeetsSeq.list_pop_last l a.toArray n u g (by rw[F1];lia)) ⟨e,?_⟩;refine⟨y,_,I.lset (its':=a.dropLast) i e ?_ r.dropLast ?_,m,q⟩
 ·show a.toArray.eraseIdxIfInBounds (a.toArray.size-1)=a.dropLast.toArray;rw[F1,List.eraseIdxIfInBounds_toArray,rX]
 ·rw[List.length_dropLast]
  lia
def ED:R2:=λx y H Q=>∃l b e a,x=.ref l/\y=.ref b/\H l=some (.lst e)/\H b=some (.lst a)/\e.length+a.length<=F9/\∀p,H p=none->Q (.ref p) (upd H p (.lst (e++a)))
theorem A4:OpR X (X5 .Add) ED:=by
 intro B s C H x y v u Q I rx ry h;obtain⟨l,b,L,J,rfl,rfl,i,t,A,q⟩:=h;cases rx;cases ry;obtain⟨z,g,n,r,E,e⟩:=I.lstM i;obtain⟨w,a,G,j,o,m⟩:=I.lstM t;refine PySem.P.add_list e m ?_ (by rw[F1,F1];lia);have p:g.toArray++a.toArray=(g++a).toArray:=by simp
 rw[p];exact⟨.ref _,_,I.lnew (t':=s.toks) (r.append j) (by rw[F2];lia),rfl,q _ I.fresh⟩
def Er:R2:=λx y H Q=>∃l k a,x=.ref l/\y=.int k/\H l=some (.lst a)/\-(2 ^ 63)<=k/\k<2 ^ 63/\a.length*k.toNat<=F9 /\
 ∀p,H p=none->Q (.ref p) (upd H p (.lst (F5 k.toNat a).flatten))
theorem o5{a:Type}(xs:List a)(k:Nat):(F5 k xs).flatten.length=k*xs.length:=by
 induction k with
 |zero=>simp
 |succ k ih=>rw[Q7,Z8,F2,ih,Nat.succ_mul,Nat.add_comm]
theorem vy:OpR X (X5 .Mult) Er:=by
 intro O s P H x y v u Q I rx ry h;obtain⟨l,k,R,rfl,rfl,G,E,L,A,q⟩:=h;cases rx;obtain⟨t,rfl⟩:=ry;obtain⟨z,b,n,r,J,e⟩:=I.lstM G;have M:b.toArray.size*k.toNat<=F9:=by rw[F1,<-J];exact A
 have j:¬ b.toArray.size*k.toNat > (2 ^ 63-1) / 8:=by
  have:(F9:Nat)<=(2 ^ 63-1) / 8:=by decide
  lia
 have i:¬ (!Builtin.List.listFitsIndex k)=true:=by
  rw[fitsIndex_both E L];exact P6
 have g:¬ ac1 (b.toArray.size*k.toNat)=true:=by
  rw[o8 M];exact P6
 have o:ar3 (λw p=>w++p) #[] (F5 (if b.toArray.isEmpty=true then 0 else k.toNat) b.toArray)=(F5 k.toNat b).flatten.toArray:=by
  have B:∀m:Nat,ar3 (λw p=>w++p) #[] (F5 m b.toArray)=(F5 m b).flatten.toArray:=λm=>by
   have:=jR b m [];rw[N0]at this;exact this
  rw[B];cases b with
  |nil=>simp
  |cons a N=>rw[if_neg (by simp)]
 refine wpAny_binaryOp_repeat_ref (T:="list") (U:="int") (by decide) ⟨_,e,rfl⟩ (λC=>ap7 C k t) noFill_list_mul F.fills_int_mul am2 repeat_list F.slot_int_index.lookup
  (ah0 am2 (ap7 s k t) F.entry_int_rmul (F.args_int_rmul_2 _ _) (int___rmul___int_list k t l b.toArray n)
   ⟨e,rfl,⟨_,e,rfl⟩,ah0 F.slot_list_mul ⟨_,e,rfl⟩ F.entry_list_mul (F.args_list_mul_2 _ _) (AutoListH.list___mul___list_int_3 l b.toArray n k t i j g) ⟨e,?_⟩⟩)
 rw[o];exact⟨.ref _,_,I.lnew (t':=s.toks) (r.rep k.toNat) (by rw[o5,ak5];exact A),rfl,q _ I.fresh⟩
end
end L2
namespace Att
open PySem PySem.W PySem.Calls PyProof.Rows
theorem kz{P:Params}{h:K3}:∀(ns:List Int) (e:List u8),WellAll P h e (ns.map WData.int)->as5 e ns:=by
 intro ns
 induction ns with
 |nil =>
  intro e w;rw[ah1]at w;cases w;exact .nil
 |cons n ns ih =>
  intro e w;rw[K0]at w;cases w with
  |cons a b =>
   cases a;exact .cons _ _ (ih _ b)
theorem uq{l:OpenLaw}{n:Nat}(hn:l.most=some n){P:Params}{h:K3}{args:List WData}{e:List u8}
  (b:l.row.toRowW.claim.pre args=true) (m:WellAll P h e args) :
  ∃a s ns,e=[J6 a]/\args=[WData.list (ns.map WData.int)]/\h.get? a=some { cls:=.type "list",data:=.seq s.toArray }/\as5 s ns/\ns.length<=n:=by
 have o:WShape.hasAll [] args [.list .int]=true:=(pre_splitW b).1;have p:l.pre.holds [] { args:=args }=true:=(pre_splitW b).2;obtain⟨d,r,rfl,w,C⟩:=hasAllW_cons o;obtain rfl:=hasAllW_nil C;obtain⟨G,rfl,z⟩:=hasW_list w;obtain⟨ns,rfl⟩:=items_int z;have E:ns.length<=n:=by
  unfold OpenLaw.pre at p;have i:(WTm.not (.lt (.lit (.int (n:Int))) (.len (.arg 0)))).holds [] { args:=[.list (ns.map .int)] }=true:=by
   have i:=(holds_andW p).1;rw[hn]at i;exact i
  have j:=condW_of i (w_not (w_lt w_lit (w_len_list (w_arg rfl))));rw[E8]at j;refine Nat.le_of_not_lt λq=>?_;have B:(n:Int)<((ns.length:Nat):Int):=by lia
  first
   |(rw[decide_eq_true B]at j;exact absurd j (by decide))
   |(simp at j;lia)
 cases m with
 |cons t A =>
  cases A;cases t with
  |list u g=>exact⟨_,_,ns,rfl,rfl,u,kz ns _ g,E⟩
theorem uh(l:OpenLaw)(args:List WData):l.row.toRowW.claim.post args (.bool true) args=true :=
 postW_of (r:=l.row.toRowW) (X:=(true==true))
  (show WShape.has [] (.bool true) .bool=true by first|rfl|decide|simp[WShape.has,WShape.arms,WShape.armsAll])
  (show(WTm.eq .res (.lit (.bool true))).value [] { args:=args,res:=some (.bool true),after:=args }=some (.bool (true==true))from w_eq_bool (w_res rfl) w_lit) rfl
theorem attach_call{l:OpenLaw}{n:Nat}{q:K9}{e:List Str}{L:(Str->Option u8)->K3->Prop}{J:P7->K3->Prop}{d:DefRec}
  (hn:l.most=some n) (u:d.params.defaults=[])
  (ar9:∀ (w:P7) (g b:E9) (t A:Str → Option u8) (s:F4) (o:Obj) (E cd i:u8) (a:F4) (j:List u8) (ns:List Int),
   Ground q e [] L w g t A b.heap->J w b.heap ->
   b.heap.get? s=some o->o.data=.func (docDef d.name d.params d.body d.scope E cd i)->b.heap.CodeRec cd d.name->t d.name=some (.ref s) ->
   b.heap.get? a=some { cls:=.type "list",data:=.seq j.toArray }->as5 j ns->ns.length<=n->b.gens=#[] ->
   am1 (L4 l.prog w) aq1 (.call (.ref s) ⟨[.ref a],[]⟩) (λr s'=>r=.ok (.ret (.bool true))/\OldK b.heap s'.heap/\s'.os=b.os/\ak8 s'.gens) b) :
  WalkO q e L J l.row.toRowW d [] (λf j=>PySem.call f j):=by
 intro w g b t A G Y s o E cd i O kV ho S z N C hg H M as p I R B Z;obtain rfl:O=.none:=Dflts.none N u;obtain rfl:kV=.none:=Dflts.noKw N;obtain⟨a,j,ns,rfl,rfl,m,h,U⟩:=uq hn p B;refine enter_call (ac5 (ar9 w g b t A s o E cd i a j ns G Y ho (fd_plain S) z C m h U hg) λr s' hq=>?_);obtain⟨rfl,T,Q,X⟩:=hq;exact⟨.inl ⟨.bool true,.bool true,[],rfl,λ_=>rfl,.bool true,uh l _,λ_=>⟨List.Pairwise.nil,λ_ P=>(nomatch P)⟩⟩,T,Q,X⟩
section
variable{prog:K9}{w:P7}{A:M8}{E:u8->E9->Prop}{s:E9}{K:Frag}
end
end Att
namespace L2
open PySem PySem.Spec PyProof.Rows
theorem m9:∀{a:List u8}{ns:List Int},as5 a ns->aw (ns.map V.int) a
 |_,_,.nil=>.nil
 |_,_,.cons n t h=>.cons ⟨t,rfl⟩ (m9 h)
def xS(H:Hp):Prop:=∀b,H b=none∨∃o a,H b=some (.frz o (.lst a))
theorem wX{P:K9}{w:P7}{K:E5}{I X:Str->Option u8}{CX:CXT}{k:Nat}{fa a:F4}{fd:K4}{x:Str}{sp:Sp}{g:E9}{t:List u8}{ns:List Int}
  (KX:K.In g.heap) (O:g.heap.Ns J8 I) (j:g.heap.Ns builtinsNs X) (Y:∀x:Str,x≠"__name__"->X x=aa5 x) (N:g.heap.NoLimit) (hg:g.gens=#[])
  (ha:g.heap.get? a=some { cls:=.type "list",data:=.seq t.toArray }) (hi:as5 t ns) (hl:ns.length<=F9) (hr:cc k aq1)
  (F:∀base:K3,K.In base->base.Ns J8 I->aP P w K I base CX k fa fd [x] sp) (A:∀(s:E9) (u:u8),ar1 s fd ⟨[u],[]⟩ [(x,u)])
  (T:∀H:Hp,xS H->SqL K H a (ns.map V.int)->sp [.ref a] H (λv _=>v=.bl true) λ_ _ _=>False)
  (S:∀H e s',CX [] H g (λ_ _ _=>False) e s'->False) :
  am1 (L4 P w) aq1 (.call (.ref fa) ⟨[.ref a],[]⟩) (λr s'=>r=.ok (.ret (.bool true))/\OldK g.heap s'.heap/\s'.os=g.os/\ak8 s'.gens) g:=by
 have rv:=m9 hi;have M:=hi.length
 -- from an abstract heap in which nothing but the script may be tracked
 have p:∀H:Hp,xS H->SqL K H a (ns.map V.int)->HOk P w H g.heap->(∀b,H b≠none->b=a)->(H a≠none->K.lookup a=none) ->
   am1 (L4 P w) aq1 (.call (.ref fa) ⟨[.ref a],[]⟩) (λr s'=>r=.ok (.ret (.bool true))/\OldK g.heap s'.heap/\s'.os=g.os/\ak8 s'.gens) g:=by
  intro H hO hS C hA hK;have i:∀{b:F4} {o:Obj},g.heap.get? b=some o->H b=none->(og g.heap H).get? b=some o:=λe n=>vM e n;have R:∀{b:F4} {o:Obj} {G:Array ag2} {L:Nat},g.heap.get? b=some o->o.data=.dict G L->H b=none:=λ{b o G L} e d=>by
   cases q:H b with
   |none=>rfl
   |some u =>
    have U:b=a:=hA b (by rw[q];simp);subst U;rw[ha]at e;cases e;have d':ao2 t.toArray _=an9 G L:=d;cases d'
  have l:∀{b:F4} {m:Str->Option u8},g.heap.Ns b m->(og g.heap H).Ns b m:=λ{b m} ⟨o,G,L,e,d,r⟩=>⟨o,G,L,i e (R e d),d,r⟩;have Q:K.In (og g.heap H):=λb o e=>i (KX b o e) (by
   cases q:H b with
   |none=>rfl
   |some u =>
    have U:b=a:=hA b (by rw[q];simp);subst U;rw[hK (by rw[q];simp)]at e;cases e)
  have hM:Mod K I (og g.heap H):=⟨Q,l O,⟨X,l j,Y⟩,let⟨mc,h1,h2⟩:=N;⟨mc,l h1,h2⟩⟩;have e0:se P w K I (og g.heap H) aq1 [] g H:=⟨rfl,hM,λb o e=>yA e,Nat.le_of_eq (ui _ _),trivial,λb j=>absurd (show b∈([]:List F4)from j) (by simp),C,.of_eq hg⟩;refine ac5 ((F _ Q (l O)).run aq1 [] g H ⟨[.ref a],[]⟩ [.ref a] [.ref a] _ _ hr e0 (A g (.ref a)) (.cons rfl .nil) (T H hO hS)) λr s' h=>?_;cases r with
  |error e=>exact(S H e s' h).elim
  |ok fl =>
   cases fl with
   |next=>exact T9 h
   |brk=>exact T9 h
   |cont=>exact T9 h
   |ret u =>
    obtain⟨v,H',os,E,un,B,r',q⟩:=h;have q':v=.bl true:=q;subst q';obtain rfl:u=ai6 true:=r';refine⟨rfl,OldK.of_keep λb o e=>?_,os,E⟩;cases q:H b with
    |none=>exact un.keep b o e q (by intro z;exact absurd (show b∈([]:List F4)from z) (by simp)) (by simp)
    |some u =>
     rcases hO b with z|⟨ob,xs,z⟩
     ·rw[q]at z;cases z
     ·have z2:=un.frzs b ob _ z;obtain⟨e1,_⟩:=C b _ z;obtain⟨e2,_⟩:=B b _ z2;rw[e]at e1;cases e1;exact e2
 cases Z:K.lookup a with
 |some o =>
  -- the script is one of the module's own objects
  have e:=KX a o Z;rw[ha]at e;cases e;refine p (λ_=>none) (λ_=>.inl rfl) (.inr ⟨_,t.toArray,_,Z,rfl,rfl,rfl,by rw[F1,M];exact hl,by simpa using rv⟩) (λb u z=>by have J:(none:Option HO)=some u:=z;cases J) (λb z=>absurd rfl z) λz=>absurd rfl z
 |none =>
  refine p (λb=>if b=a then some (.frz { cls:=.type "list",data:=.seq t.toArray } (.lst (ns.map V.int)))else none) (λb=>?_) (.inl (.inr ⟨{ cls:=.type "list",data:=.seq t.toArray },if_pos rfl⟩)) (λb u z=>?_) (λb z=>?_) λ_=>Z
  ·by_cases j:b=a
   ·exact .inr ⟨_,_,if_pos j⟩
   ·exact .inl (if_neg j)
  ·by_cases j:b=a
   ·have J:=(if_pos j).symm.trans z;cases J;subst j;exact⟨ha,by rw[E8];exact hl,t,_,rv,ha⟩
   ·have J:=(if_neg j).symm.trans z;cases J
  ·by_cases j:b=a
   ·exact j
   ·exact absurd (if_neg j) z
theorem sV{l:PySem.W.OpenLaw}{n k:Nat}{q:K9}{b:List Str}{U:(Str->Option u8)->K3->Prop}{J:P7->K3->Prop}{d:DefRec}{K:Params->E5}{CX:P7->CXT}{sp:P7->Sp}{x:Str}
  (hn:l.most=some n) (z:n<=F9) (t:d.params.defaults=[]) (hr:cc k aq1)
  (T:∀(w:P7) (h:K3),J w h->(K w.params).In h)
  (F:∀ (w:P7) (i:Str → Option u8) (p:F4) (h:K3),(K w.params).In h → h.Ns J8 i → i d.name = some (.ref p) →
   ∃E:K4,(∀(s:E9) (u:u8),ar1 s E ⟨[u],[]⟩ [(x,u)]) /\
    ∀base:K3,(K w.params).In base->base.Ns J8 i->aP l.prog w (K w.params) i base (CX w) k p E [x] (sp w))
  (B:∀(w:P7) (H:Hp) (a:F4) (ns:List Int),ns.length<=n->xS H->SqL (K w.params) H a (ns.map V.int)->sp w [.ref a] H (λv _=>v=.bl true) λ_ _ _=>False)
  (A:∀(w:P7) (H:Hp) (s:E9) (e:u8) (s':E9),CX w [] H s (λ_ _ _=>False) e s'->False) :
  PySem.W.WalkO q b U J l.row.toRowW d [] (λf L=>PySem.call f L):=by
 refine Att.attach_call hn t λw I m i mb p o pm cd X a L ns G Y ho hd R C j g M Z=>?_;have N:=T w _ Y;obtain⟨E,Q,S⟩:=F w i p _ N G.T.g C;exact wX N G.T.g G.T.b G.T.builtins G.T.nolimit Z j g (O9 M z) hr S Q (λH O P=>B w H a ns M O P) λH e s'=>A w H m e s'
end L2
/- THE LAST THEOREM (shape; LID,My.* are yours):
   My.Adr: a structure of the addresses that your layer names (classes,functions);My.Txt K t: a structure (Prop) of the equations over K;
   My.txt_mk:{K} {implicit addresses ..} (e1:nsIn K J8 "law"=some (some (.ref f))) (e2:K.lookup f=some ⟨oc,od,.func (fnOf "law" "law" params body scope dV kV doc pm an cdv ct),sl⟩) (e3:codeIn K cdv "law"=true) ..:∃t,My.Txt K t
set_option maxRecDepth 100000 in
set_option maxHeartbeats 0 in
theorem PySem.Challenge.cw_LID_holds : PySem.Challenge.rw_LID.Holds := by
 w_on;o_law;k_head;(case hw=>w_witness2)
 k_fill
 refine L2.sV (l:=PySem.Challenge.rw_LID) (n:=63) (k:=40) (x:="script") (CX:=λw=>..) (sp:=λ_=>My.sp_law) rfl (by decide) rfl ⟨rfl,by decide,by decide⟩ (λw h Y=>PySem.W.kIn_of Y) ?F ?S ?C
 case F =>
  intro w E p h m G j;have T:∃t,My.Txt (L2.KOf m) t:=by
   dsimp only[L2.KOf]                          -- K must stand as «<heap const> w.params» for k_is
   refine' My.txt_mk ?e1 ?e2 ?e3 ..
   (case e1=>PySem.W.k_is)                    -- in the order: a name->its address->its object->its parts
   (case e2=>PySem.W.k_is)
   ..
  obtain⟨t,T⟩:=T;have o:=j.symm.trans (P9 m G T.law);cases o                                       -- p is the law's own address;exact⟨_,λs u=>.of_eq rfl,λe i g=>My.law_fn T i g⟩     -- if «.of_eq rfl» comes too early: refine' ⟨_,?b,λe i g=>My.law_fn T i g⟩;exact λs u=>.of_eq rfl
 case S=>exact λw H a A B q z=>..
 case C=>exact ..
(the tactic k_is has no namespace: write k_is) -/
namespace L2
open PySem PySem.Spec PyProof.Rows
def et(s:Z7):Arguments:=match s with
 |.FunctionDef _ a _ _ _ _ _ _ _ _=>a
 |_=>{ posonlyargs:=[],args:=[],vararg:=none,kwonlyargs:=[],kw_defaults:=[],kwarg:=none,defaults:=[] }
def cm(s:Z7):List Z7:=match s with
 |.FunctionDef _ _ b _ _ _ _ _ _ _=>b
 |_=>[]
def ai(s:Z7):af7:=match s with
 |.FunctionDef _ _ _ _ _ _ a _ _ _=>a
 |_=>{ kind:=.function,names:=[],isGenerator:=false,isCoroutine:=false }
abbrev CX0:CXT:=λ_ _ _ _ _ _=>False
abbrev E0:XK:=λ_ _ _=>False
theorem Dl{X:Cx}:iJ CX0 X E0:=λ_ _ _ _ _ _ _ h=>h.elim
structure Fun(K:E5) (x qual:Str) (st:Z7) (f:F4) (fd:K4):Prop where
 ex:∃(oc:u8) (od:Option F4) (kV doc pm:u8) (an:Option F4) (cdv ct:u8) (osl:Array (Option u8)),
  fd=aa7 x qual (et st) (cm st) (ai st) .none kV doc pm an cdv ct/\K.lookup f=some ⟨oc,od,.func fd,osl⟩/\aj9 K cdv qual=true
 kp:U7 K (.ref f)=true
section
variable{P:K9}{w:P7}{K:E5}{p:Str->Option u8}{base:K3}{f:F4}{g:K4}
theorem Fun.ok{x b:Str}{st:Z7}{f:F4}{g:K4}{N ps:List Str}{k:Nat}{sp:Sp}(F:Fun K x b st f g)(S:av N ps (ai st))(len:∀i H Q E,sp i H Q E->i.length=ps.length)
  (j:∀ (e:u8) (A:M8) (a:List Env) (s:E9) (H:Hp) (i:List V) (Q:VK) (E:XK),cc k (A.deeper (ac6 b (ai st) s.heap.objs.size f e)) → sp i H Q E →
   ∃t,PSs (ja CX0 P w K p base N b (ai st) f e A a s H E).nox (cm st) t/\t { nx:=λ_ n=>Q .non n,rt:=Q } (fL N i) H):aP P w K p base CX0 (k+1) f g ps sp:=by
 obtain⟨G,J,kV,B,L,I,e,C,u,rfl,o,l⟩:=F.ex;refine zE o l S len λA a s H i Q E z m=>?_;obtain⟨t,h,q⟩:=j e A a s H i Q E z m;exact⟨t,h.nox,q⟩
theorem Fun.binds{x a:Str}{st:Z7}{f:F4}{g:K4}{ps:List Str}(F:Fun K x a st f g)
  (h:∀(kV b j:u8) (i:Option F4) (e ct:u8) (us:List u8),us.length=ps.length->bindArgs (aa7 x a (et st) (cm st) (ai st) .none kV b j i e ct) ⟨us,[]⟩=af8 (ps.zip us)):cE K g ps []:=by
 obtain⟨o,p,kV,b,j,i,e,ct,l,rfl,n,m⟩:=F.ex;exact .all (h kV b j i e ct)
theorem rP{x a:Str}{st:Z7}{f:F4}{j:u8}{m h:Option F4}{g:Array (Option u8)}{kV e i b ct:u8}(l:K.lookup f=some ⟨j,m,.func (aa7 x a (et st) (cm st) (ai st) .none kV e i h b ct),g⟩)
  (c:aj9 K b a=true) (k:U7 K (.ref f)=true):Fun K x a st f (aa7 x a (et st) (cm st) (ai st) .none kV e i h b ct):=⟨⟨j,m,kV,e,i,h,b,ct,g,rfl,l,c⟩,k⟩
end
theorem jz{n:Nat}(h:n<=1000):n<F9:=Nat.lt_of_le_of_lt h (by decide)
section
variable{X:Cx}
theorem pv(i:Nat){x:Str}{pos:Pos}(g:X.N[i]?=some x:=by rfl)(b:Vis X.env.scope x:=by first|exact N8 rfl|exact ap1 (N8 rfl)|exact ap1 (ap1 rfl))(e:(x==("__debug__":Str))=false:=by decide)
  (a:(x==("__classdict__":Str))=false:=by decide):PE X (.Name x pos) (u0 i):=vm g b e a
end
theorem a7{c A B:Prop}[Decidable c](b:c->A)(a:¬ c->B):if c then A else B:=by
 by_cases h:c
 ·rw[if_pos h];exact b h
 ·rw[if_neg h];exact a h
section
variable{κ:Type} [DecidableEq κ]
noncomputable def pC(a:List (κ×V))(k:κ):Option V:=(a.find? λb=>decide (b.1=k)).map (·.2)
noncomputable def yh(a:List (κ×V))(k:κ)(v:V):List (κ×V) :=
 if(a.any λb=>decide (b.1=k))=true then a.map (λb=>if b.1=k then(b.1,v)else b)else a++[(k,v)]
def E3(a:List (κ×V))(k:κ):List (κ×V):=a.filter λb=>decide (b.1≠k)
theorem qB{p:κ×V}{r:List (κ×V)}{k:κ}(e:p.1=k):pC (p::r) k=some p.2:=by simp[pC,aa0,e]
theorem qh{p:κ×V}{r:List (κ×V)}{k:κ}(e:¬ p.1=k):pC (p::r) k=pC r k:=by simp[pC,aa0,e]
theorem xy.getD{o:Option V}{u:Option u8}{d:V}{d':u8}(r:xy o u)(rd:aM d d'):aM (o.getD d) (u.getD d'):=by
 cases o with
 |none=>cases u with
  |none=>exact rd
  |some _=>exact(show False from r).elim
 |some _=>cases u with
  |none=>exact(show False from r).elim
  |some _=>exact r
theorem KV.val{a:List (κ×V)}{j:List (κ×u8)}(r:KV a j)(k:κ):xy (pC a k) (as6 j k):=by
 unfold KV at r
 induction r with
 |nil=>exact True.intro
 |@cons p q n g h t ih =>
  obtain⟨l,m⟩:=h
  by_cases e:p.1=k
  ·have i:q.1=k:=l.symm.trans e;have b:as6 (q::g) k=some q.2:=by simp[as6,aa0,i]
   rw[qB e,b];exact m
  ·have i:¬ q.1=k:=λz=>e (l.trans z);have b:as6 (q::g) k=as6 g k:=by simp[as6,aa0,i]
   rw[qh e,b];exact ih
theorem KV.any{a:List (κ×V)}{e:List (κ×u8)}(r:KV a e)(k:κ):(a.any λb=>decide (b.1=k))=e.any λb=>decide (b.1=k):=by
 unfold KV at r
 induction r with
 |nil=>rfl
 |cons h t ih=>rw[aa8,aa8,ih,h.1]
theorem KV.repl{b:List (κ×V)}{i:List (κ×u8)}(r:KV b i)(k:κ){y:V}{u:u8}(j:aM y u):
  KV (b.map λa=>if a.1=k then(a.1,y)else a) (i.map λa=>if a.1=k then(a.1,u)else a):=by
 unfold KV at r ⊢
 induction r with
 |nil=>exact .nil
 |@cons p q n m h t ih =>
  rw[K0,K0];refine .cons ?_ ih;obtain⟨g,l⟩:=h
  by_cases e:p.1=k
  ·rw[if_pos e,if_pos (g.symm.trans e)];exact⟨g,j⟩
  ·rw[if_neg e,if_neg (λz=>e (g.trans z))];exact⟨g,l⟩
theorem KV.put{a:List (κ×V)}{b:List (κ×u8)}(r:KV a b)(k:κ){y:V}{u:u8}(g:aM y u):KV (yh a k y) (stored b k u):=by
 unfold yh stored;rw[r.any k]
 by_cases e:(b.any λh=>decide (h.1=k))=true
 ·rw[if_pos e,if_pos e];exact r.repl k g
 ·rw[if_neg e,if_neg e];exact ad3.snoc r ⟨rfl,g⟩
theorem KV.length{a:List (κ×V)}{b:List (κ×u8)}(r:KV a b):a.length=b.length:=ad3.length r
end
theorem wk{P:K9}{w:P7}{H:Hp}(h:K3)(a:ar0<h.objs.size):bT P w H (h.push { cls:=.type "dict",data:=.dict #[] }) h.objs.size (.dK []) :=
 ⟨P1 _,beq_eq_false_iff_ne.mpr (U2 (K8 a)),[],.nil,K3.DictOf.new h⟩
structure M1(X:Cx) (o:N1) (m:Str) (dh:Pos) (e:N1) (ba:Pos):Prop where
 base:V3 o m X.env (aa2 o X.env)=aa2 o X.env
 few:((U6 ba (F3 [e] X.env)).all (λx=>!x.1)&&(an4 ba (ae5 [] X.env)).all (λx=>x.1.isSome)
 &&decide (([e]:List N1).length+([]:List ag6).length+(if([]:List ag6).isEmpty then 0 else 1)<30))=true
 line:(dh.endLine==ba.line)=true
 trees:U6 ba (F3 [e] X.env)=[(false,aa2 e X.env)]
structure M2(X:Cx) (o:N1) (m:Str) (dh:Pos) (e f:N1) (ba:Pos):Prop where
 base:V3 o m X.env (aa2 o X.env)=aa2 o X.env
 few:((U6 ba (F3 [e,f] X.env)).all (λx=>!x.1)&&(an4 ba (ae5 [] X.env)).all (λx=>x.1.isSome)
 &&decide (([e,f]:List N1).length+([]:List ag6).length+(if([]:List ag6).isEmpty then 0 else 1)<30))=true
 line:(dh.endLine==ba.line)=true
 trees:U6 ba (F3 [e,f] X.env)=[(false,aa2 e X.env),(false,aa2 f X.env)]
noncomputable def aS(X:Cx)(a:af7)(e:List (Str×F4))(N:List Str)(C:F4)(s:E9)(H:Hp)(b:List F4):Cx where
 prog:=X.prog
 w:=X.w
 K:=X.K
 mg:=X.mg
 base:=X.base
 A:=X.A
 N:=N
 s₀:=s
 H₀:=H
 env:=compEnvC a e C X.env
 outer:=X.stack
 stack:=X.stack
 ex:=b
 calm:=X.calm
 fn:=λ_=>false
 pn:=[]
 xe:=λ_ _=>False
noncomputable def bD:List Bool->St->St
 |true::b,v::a=>v::bD b a
 |false::b,_::a=>none::bD b a
 |[],_::a=>none::bD [] a
 |_,[]=>[]
theorem bE:∀(ms:List Bool) (σ:St),(bD ms σ).length=σ.length
 |true::ms,v::σ=>by simp[bD,bE ms σ]
 |false::ms,_::σ=>by simp[bD,bE ms σ]
 |[],_::σ=>by simp[bD,bE [] σ]
 |[],[]=>by simp[bD]
 |true::_,[]=>by simp[bD]
 |false::_,[]=>by simp[bD]
theorem g9:∀{ms:List Bool}{σ:St}{i:Nat}{v:V},(bD ms σ)[i]?=some (some v)->ms[i]?=some true/\σ[i]?=some (some v)
 |true::ms,v::σ,0,x,h=>by simpa[bD]using h
 |true::ms,v::σ,i+1,x,h=>by
  have:=g9 (ms:=ms) (σ:=σ) (i:=i) (v:=x) (by simpa[bD]using h);simpa using this
 |false::ms,_::σ,0,x,h=>by simp[bD]at h
 |false::ms,_::σ,i+1,x,h=>by
  have:=g9 (ms:=ms) (σ:=σ) (i:=i) (v:=x) (by simpa[bD]using h);simpa using this
 |[],_::σ,0,x,h=>by simp[bD]at h
 |[],_::σ,i+1,x,h=>by
  have:=g9 (ms:=[]) (σ:=σ) (i:=i) (v:=x) (by simpa[bD]using h);simpa using this
 |[],[],_,_,h=>by simp[bD]at h
 |true::_,[],_,_,h=>by simp[bD]at h
 |false::_,[],_,_,h=>by simp[bD]at h
def iu(ms:List Bool)(k:Nat)(σ:St):St:=bD ms σ++F5 k none
theorem uV{ms:List Bool}{k:Nat}{σ:St}{i:Nat}{v:V}(h:(iu ms k σ)[i]?=some (some v)):i<σ.length/\ms[i]?=some true/\σ[i]?=some (some v):=by
 unfold iu at h
 by_cases a:i<(bD ms σ).length
 ·rw[Q6 a]at h;exact⟨by rwa [bE]at a,g9 h⟩
 ·rw[U1 (by lia),Z4]at h
  split at h<;>cases h
structure fh(X:Cx) (scope:af7) (cl:List (Str×F4)) (ms:List Bool) (ar:List Str):Prop where
 kind:scope.kind=.function
 ncell:∀y∈scope.names,y.2≠.cell
 names:∀y∈scope.names,y.2=.local->scope.names.lookup y.1=some .local
 clos:closureFor scope X.env=af8 cl
 sub:∀x c,cl.lookup x=some c->X.env.cells.lookup x=some c
 has:∀x,scope.names.lookup x=some .free->∃c,cl.lookup x=some c
 fr:∀x,scope.names.lookup x=some .free->X.env.scope.names.lookup x=some .cell∨X.env.scope.names.lookup x=some .free
 mask:∀(i:Nat) (x:Str),ms[i]?=some true->X.N[i]?=some x->scope.names.lookup x=some .free
 mlen:ms.length<=X.N.length
theorem jx{env:Env}:∀{names:List (Str×T0)}{x:Str}{k:T0},
  (names.map λ(n,k)=>if(k==W9&&env.scope.kind==.function&&env.kindOf n==some .cell)then(n,ah9)else(n,k)).lookup x=some k->(∀y∈names,y.2≠.cell)->k=.cell∨k=.free->names.lookup x=some .free
 |[],_,_,h,_,_=>by simp at h
 |(n,b)::r,x,k,h,i,j=>by
  have ih:=@jx env r x k;have h:aq2 x ((if(b==W9&&env.scope.kind==.function&&env.kindOf n==some .cell)=true then(n,ah9)else(n,b))::_)=some k:=h;cases e:x==n with
  |true =>
   by_cases a:(b==W9&&env.scope.kind==.function&&env.kindOf n==some .cell)=true
   ·have:b=.free:=by
     simp at a;exact a.1.1
    subst this;simp[O1,e]
   ·rw[if_neg a]at h;simp only[O1,e]at h;cases h;rcases j with rfl|rfl
    ·exact absurd rfl (i (n,.cell) Q0)
    ·simp[O1,e]
  |false =>
   by_cases a:(b==W9&&env.scope.kind==.function&&env.kindOf n==some .cell)=true
   ·rw[if_pos a]at h;simp only[O1,e]at h ⊢;exact ih h (λy g=>i y (K6 _ g)) j
   ·rw[if_neg a]at h;simp only[O1,e]at h ⊢;exact ih h (λy g=>i y (K6 _ g)) j
theorem jj{env:Env}:∀{names:List (Str×T0)}{x:Str},names.lookup x=some .free ->
  (names.map λ(n,k)=>if(k==W9&&env.scope.kind==.function&&env.kindOf n==some .cell)then(n,ah9)else(n,k)).lookup x=some .cell ∨
  (names.map λ(n,k)=>if(k==W9&&env.scope.kind==.function&&env.kindOf n==some .cell)then(n,ah9)else(n,k)).lookup x=some .free
 |[],_,h=>by simp at h
 |(n,b)::r,x,h=>by
  have ih:=@jj env r x;show aq2 x ((if(b==W9&&env.scope.kind==.function&&env.kindOf n==some .cell)=true then(n,ah9)else(n,b))::_)=_∨aq2 x ((if(b==W9&&env.scope.kind==.function&&env.kindOf n==some .cell)=true then(n,ah9)else(n,b))::_)=_;cases a:x==n with
  |true =>
   simp only[O1,a]at h;cases h
   split
   ·left;simp[O1,a]
   ·right;simp[O1,a]
  |false =>
   simp only[O1,a]at h
   split<;>(simp only[O1,a];exact ih h)
section
variable{X:Cx}{W:List (F4×Obj)}{σ:St}{H Y:Hp}{s B:E9}{g:af7}{G:List (Str×F4)}{ms:List Bool}{ar:List Str}
theorem wb(I:Inv X W σ H s)(S:fh X g G ms ar){l:List F4}(a:∀b∈l,jE X W H b)(m:∀b∈l,b<s.heap.objs.size){C:F4}(n:s.heap.objs.size<=C):
  (aS X g G (X.N++ar) C s H l).Ok where
 mod:=I.ok.mod
 kind:=S.kind
 glob:=I.ok.glob
 blt:=I.ok.blt
 above:=n
 inj:=λx y c p q=>I.ok.inj x y c (S.sub x c p) (S.sub y c q)
 has:=λx j=>S.has x (jx (env:=X.env) (k:=if(aS X g G (X.N++ar) C s H l).env.kindOf x=some .cell then .cell else .free) (by
  rcases j with j|j
  ·rw[if_pos j];exact j
  ·rw[if_neg (by rw[j];decide)];exact j) S.ncell (by split<;>simp))
 cab:=λx c h=>by cases h
 hd:=I.ok.hd
 frames:=I.ok.frames
 stk:=.inl rfl
 exf:=λb i=>⟨K8 (H0 (m b i) n),λx c e=>(a b i).2.2.2.2.1 x c (S.sub x c e)⟩
 bs:=I.bs
 bsz:=O9 I.ok.bsz I.sz
 noex:=λb o e i=>by
  rcases(a b i).2.2.2.1 with z|z
  ·exact I.ok.noex b o e z
  ·exact absurd (H0 (I0 e) (O9 I.ok.bsz z)) (Z3 _)
 exfs:=λb i z=>by
  rcases J3.mp (I.stkSub b z)with e|e
  ·exact(a b i).2.1 e
  ·exact(a b i).2.2.1 e
 funs:=I.stack
 frf:=I.stkFree
theorem yn(I:Inv X W σ H s)(S:fh X g G ms ar){q:List F4}(A:∀b∈q,jE X W H b)(j:∀b∈q,b<s.heap.objs.size){C:F4}(L:s.heap.objs.size<=C)
  (os:B.os=s.os) (a:ak8 B.gens) (keep:∀b o,s.heap.get? b=some o->B.heap.get? b=some o) {m:Str->Option u8} (hn:B.heap.Ns C m) :
  Inv (aS X g G (X.N++ar) C s H q) [] (iu ms ar.length σ) H B where
 ok:=wb I S A j L
 os:=os
 bare:=a
 base:=Un.kept keep
 loc:=⟨m,hn,λi x v R h2 h3=>by
  obtain⟨Y,T,Q⟩:=uV h2;have t:i<X.N.length:=by rw[<-I.len];exact Y
  have O:X.N[i]?=some x:=by
   have E:(X.N++ar)[i]?=some x:=R
   rwa [Q6 t]at E
  have h:=S.mask i x T O;obtain⟨m0,Z,U⟩:=I.loc;obtain⟨u,r,l⟩:=U i x v O Q (by rcases S.fr x h with z|z<;>simp[Vis,z]);refine⟨u,r,.inr ⟨?_,?_⟩⟩
  ·exact jj (env:=X.env) h
  ·obtain⟨c,M⟩:=S.has x h;have w:=S.sub x c M;rcases l with⟨k,_⟩|⟨_,c',e,z⟩
   ·rcases S.fr x h with z|z<;>(have N:X.env.scope.names.lookup x=some .local:=k;rw[z]at N;cases N)
   ·rw[w]at e;cases e;obtain⟨o,n,J⟩:=z;exact⟨c,M,o,keep _ _ n,J⟩⟩
 cell:=λx c e=>by
  obtain⟨v,o,n,J⟩:=I.cell x c (S.sub x c e);exact⟨v,o,keep _ _ n,J⟩
 free:=I.hok.fresh L
 freeC:=λx c e=>I.freeC x c (S.sub x c e)
 pin:=λp P=>absurd (show p∈([]:List (F4×Obj))from P) (by simp)
 hok:=I.hok.kept keep
 len:=by
  unfold iu;rw[F2,bE,aa6,I.len];show _=(X.N++ar).length;rw[F2]
end
def PIf(X:Cx)(a:List N1)(t:TT):Prop :=
 ∀(e:List (F4×Obj)) (s:E9) (b:St) (H:Hp) (Q:Bool->Hp->Prop),Inv X e b H s->t b H Q ->
  J0 (L4 X.prog X.w) X.A (forIn a true λc r=>if r=true then do let ok <-isTrue c X.env (aa2 c X.env);af8 (V7 ok)else af8 (V7 r)) (TP X e b Q) X.xe s
def Em:TT:=λ_ H Q=>Q true H
theorem yq{X:Cx}:PIf X [] Em:=λ_ _ _ H _ I h=>wpAny_tests_nil ⟨H,I,h⟩
theorem ze{X:Cx}{c:N1}{t:TT}(h:PT X c t):PIf X [c] t:=λa s b H Q I q=>wpAny_tests_one (h a s b H Q I q)
abbrev fB(a:List u8)(n:Nat):Obj:={ cls:=.type "list",data:=.seq a.toArray n }
theorem thF{b:Type}{t:Sem b}{Q g:b->E9->Prop}{M:ar7}{A:M8}{E:u8->E9->Prop}{s:E9}(i:E=λ_ _=>False)(h:J0 M A t Q E s)(j:∀a s,Q a s->g a s):J0 M A t g (λ_ _=>False) s:=P5 h j λe s x=>by rw[i]at x;exact x
abbrev lcE(el:N1)(a:List al5)(b:af7)(ps:Pos):N1:=.ListComp el a b ps
section
variable{prog:K9}{w:P7}{A:M8}{R:as3->E9->Prop}{s:E9}{el G y i:N1}{fs:List N1}{k:Nat}{p:Pos}{it g:u8}{env:Env}{z:List al5}{B:af7}{ps:Pos}
abbrev AWt:=(E9->Prop)->E9->Prop
def sx(prog:K9)(w:P7)(A:M8)(y:N1)(g:u8)(env:Env):AWt:=λOk s=>J0 (L4 prog w) A (aa2 y env) (λx b=>J0 (L4 prog w) A (ar9 (.builtin "list.append") [g,x]) (λ_ a=>Ok a) (λ_ _=>False) b) (λ_ _=>False) s
def BP(a:N1)(k:Nat)(p:Pos)(G:N1)(fs:List N1)(b:u8->u8->Env->Sem Fin):Prop:=∀it g env,compTurn a k it g env=(do
  as1 p
  let r <-aq6 it
  match r with
   |none=>af8 (Fin.done Flow.next)
   |some v=>do
    ah6 G it v
    an1 G env v
    let ok <-forIn fs true λc r=>if r=true then do let ok <-PySem.isTrue c env (aa2 c env);af8 (V7 ok)else af8 (V7 r)
    if ok=true then b it g env else again (ao3 a k it g env))
def BE(prog:K9)(w:P7)(A:M8)(e:N1)(k:Nat)(i:u8->u8->Env->Sem Fin)(it g:u8)(env:Env)(j:AWt):Prop :=
 ∀Ok s (R:as3->E9->Prop) (E:u8->E9->Prop),j Ok s->J0 (L4 prog w) A (i it g env) (λa b=>match a with|.done f=>R (.ok f) b|.again h=>h=ao3 e k it g env/\Ok b) E s
theorem mm{u:u8->u8->Env->Sem Fin}{C:AWt}(J:BP (lcE el z B ps) k p G fs u)(H:(ao3 (lcE el z B ps) k it g env).quiet=true:=by rfl)(E:BE prog w A (lcE el z B ps) k u it g env C)(I:Nat->E9->Prop)
  (o:∀ n s,I n s → J0 (L4 prog w) A (aq6 it) (λr a => match r with
   |none=>R (.ok .next) a
   | some v => J0 (L4 prog w) A (ah6 G it v) (λ_ a => J0 (L4 prog w) A (an1 G env v) (λ_ i =>
     J0 (L4 prog w) A (forIn fs true λc r=>if r=true then do let ok <-isTrue c env (aa2 c env);af8 (V7 ok)else af8 (V7 r)) (λok e =>
      if ok=true then C (λq=>∃m,m<n/\I m q) e
      else ∃m,m<n/\I m e) (λ_ _=>False) i) (λ_ _=>False) a) (λ_ _=>False) a) (λ_ _=>False) s)
  (n:Nat) (h:I n s) :
  am1 (L4 prog w) A (.compLoop (lcE el z B ps) k it g env) R s:=by
 refine codeAny_loop H I (λn s L=>?_) n h;show J0 _ A ((compTurn (lcE el z B ps) k it g env).onRaise (λx=>do aq9 x env;theTreesLotGoes x)) _ _ s;refine wpAny_noted ?_;rw[J];refine o0 (al4 (o0 (P5 (o n s L) (λr a b=>?_) λ_ _ l=>l.elim)));cases r with
 |none=>exact E6 b
 |some v =>
  refine o0 (P5 b (λ_ M b=>?_) λ_ _ l=>l.elim);refine o0 (P5 b (λ_ i t=>o0 (P5 t (λok e j=>?_) λ_ _ l=>l.elim)) λ_ _ l=>l.elim);cases ok with
  |false=>exact E6 ⟨rfl,j⟩
  |true=>exact E _ _ _ _ j
noncomputable def zG(a:N1)(k:Nat)(y:N1):u8->u8->Env->Sem Fin:=λit g env=>bind (bind (aa2 y env) λx=>bind (ar9 (af1 "list.append") [g,x]) λ_=>af8 ()) λ(_:Unit)=>again (ao3 a k it g env)
theorem yw:BE prog w A (lcE el z B ps) k (zG (lcE el z B ps) k y) it g env (sx prog w A y g env):=λOk s R E h =>
 o0 (o0 (P5 h (λx j a=>o0 (P5 a (λ_ i b=>E6 (E6 ⟨rfl,b⟩)) λ_ _ e=>e.elim)) λ_ _ e=>e.elim))
end
abbrev BK:=List V->St->Hp->(List V->St->Hp->Prop)->Prop
def oj(J:It)(g:TG)(tc:TT)(B:BK)(W:Nat->Nat->List V->St->Hp->Prop)(Z:List V->St->Hp->Prop):Prop :=
 ∀i m e l H,W i m e l H->e.length<=F9/\((J.stop i H/\Z e l H) ∨
  (J.go i H/\∀x j,J.yld i H x j->g x l j λa q=>tc a q λb p=>if b=true then B e a p (λn o j=>∃h,h<m/\W (i+1) h n o j)else ∃h,h<m/\W (i+1) h e a p))
def pQ(te:TE):BK:=λb a H Z=>te a H λy e=>Z (b++[y]) a e
section
variable{Y:Cx}{D:F4}{el W G i1:N1}{fs:List N1}{g:TG}{tc:TT}{te:TE}{wi:TI}{B:BK}{k:Nat}{p:Pos}{gs:List al5}{sc:af7}{ps:Pos}
def zH(Y:Cx)(D:F4)(n:AWt)(B:BK):Prop:=∀(P:List (F4×Obj)) (g:List u8) (l:Nat) (h:List V) (j:St) (H:Hp) (s:E9) (Z:List V->St->Hp->Prop),Inv Y ([(D,fB g l)]++P) j H s->aw h g->h.length<=F9->(∀p∈P,p.1≠D)->B h j H Z ->
 n (λm=>∃b a o e i,Inv Y ([(D,fB a o)]++P) e i m/\aw b a/\Z b e i) s
structure mZ(Y:Cx) (D:F4):Prop where
 pn:Y.pn=[]
 calm:Y.calm=true
 xe:Y.xe=λ_ _=>False
 ex:D∈Y.ex∨Y.s₀.heap.objs.size<=D
 cell:∀x c,Y.env.cells.lookup x=some c->c≠D
theorem AWt.mono_leaf{prog:K9}{w:P7}{A:M8}{a:u8}{env:Env}{Ok b:E9->Prop}{s:E9}(h:sx prog w A G a env Ok s)(k:∀s,Ok s->b s):sx prog w A G a env b s :=
 P5 h (λ_ _ e=>P5 e (λ_ _ g=>k _ g) λ_ _ x=>x) λ_ _ x=>x
theorem xI(c:mZ Y D)(he:PE Y G te):zH Y D (sx Y.prog Y.w Y.A G (.ref D) Y.env) (pQ te):=by
 intro P g B T n H s Z I E Q l q;refine thF c.xe (he _ s n H _ I q) λv A m=>m.el λy L u r9 X=>?_;have a:=u.pin (D,fB g B) (M0 _ (U3 _ Q0));have t:g.toArray.size<=F9:=by rw[F1,<-E.length];exact Q
 refine PySem.wpAny_list_append_plain (hsz:=t) ⟨B,a.1⟩ λO h j=>?_;obtain⟨J,h⟩:=h;have w:Inv Y [] n L { A with heap:=O } :=
  Inv.turned (t':=A.toks) (it:=D) (u.pins_of λp i=>absurd i (by simp)) (λb o S e=>(j.2 b S).trans e) a.2.1 a.2.2.1 c.ex c.cell (λp i=>absurd (show p∈([]:List (F4×Obj))from by rw[c.pn]at i;exact i) (by simp))
 refine⟨T++[y],g++[v],J,n,L,w.pins_of λp i=>?_,E.append (.cons r9 .nil),X⟩;rcases Q3.mp i with z|z
 ·have e:p=(D,fB (g++[v]) J):=L6.mp z;subst e;refine⟨?_,a.2.1,a.2.2.1,a.2.2.2.1,λv z=>by cases z⟩;rw[h];simp[fB]
 ·obtain⟨R,N,M,U,b5⟩:=u.pin p (M0 _ (M0 _ z));exact⟨(j.2 _ (l p z)).trans R,N,M,U,b5⟩
structure Lv(Y:Cx) (D:F4) (ce:N1) (k:Nat) (p:Pos) (W:N1) (fs:List N1) (B:BK):Prop where
 ex:∃bd AW,BP ce k p W fs bd/\(∀it,BE Y.prog Y.w Y.A ce k bd it (.ref D) Y.env AW)/\zH Y D AW B/\∀{Ok Ok':E9->Prop} {s:E9},AW Ok s->(∀s,Ok s->Ok' s)->AW Ok' s
theorem zt(c:mZ Y D)(he:PE Y G te)(a:BP (lcE el gs sc ps) k p W fs (zG (lcE el gs sc ps) k G)):Lv Y D (lcE el gs sc ps) k p W fs (pQ te):=⟨_,_,a,λ_=>yw,xI c he,AWt.mono_leaf⟩
theorem uE(c:mZ Y D)(L:Lv Y D (lcE el gs sc ps) k p W fs B){Z:F4}
  (hg:PG Y W g) (b4:PIf Y fs tc) {P:List (F4×Obj)} (b3:∀p∈P,p.1≠D)
  {its0:List u8} {nn0:Nat} {J:List V} {σ:St} {H:Hp} {s:E9} (I:Inv Y ([(D,fB its0 nn0)]++P) σ H s) (b5:aw J its0) {l:List F4} {A:Nat->K3->Prop} {J2:It} (T:qE Y.prog Y.w Y.K W J2 l Z A) (st:A 0 s.heap)
  (f:∀b∈l,jE Y ([(D,fB its0 nn0)]++P) H b) {W2:Nat->Nat->List V->St->Hp->Prop} {Z2:List V->St->Hp->Prop} {m0:Nat} (w0:W2 0 m0 J σ H) (O:oj J2 g tc B W2 Z2) {R:as3->E9->Prop}
  (hR:∀(s':E9) (w:List V) (a:List u8) (n:Nat) (j:St) (q:Hp),Inv Y ([(D,fB a n)]++P) j q s'->aw w a->w.length<=F9->Z2 w j q->R (.ok .next) s') :
  am1 (L4 Y.prog Y.w) Y.A (.compLoop (lcE el gs sc ps) k (.ref Z) (.ref D) Y.env) R s:=by
 obtain⟨bd,AW,hT,t,hB,b2⟩:=L.ex;have E:∀{H:Hp} {n:Nat} {a:List u8},(∀b∈l,H b=none)->∀b∈l,jE Y ([(D,fB a n)]++P) H b:=λhn b t=>by
  obtain⟨_,a1,a2,a3,a4,a5⟩:=f b t;refine⟨hn b t,a1,a2,a3,a4,λp hp=>?_⟩;rw[c.pn,N0]at hp;rcases Q3.mp hp with z|z
  ·obtain rfl:=L6.mp z;exact a5 (D,fB its0 nn0) (by rw[c.pn];simp)
  ·exact a5 p (by rw[c.pn];simp[z])
 refine mm hT rfl (t _) (λn s'=>∃i w a C j q,Inv Y ([(D,fB a C)]++P) j q s'/\aw w a/\A i s'.heap/\(∀b∈l,q b=none)/\W2 i n w j q) ?_ m0
  ⟨0,J,its0,nn0,σ,H,I,b5,st,λb t=>(f b t).1,w0⟩
 rintro n s' ⟨i,w,a,C,j,q,I4,rv,S,N,w4⟩;obtain⟨hz,h⟩:=O i n w j q w4;rcases h with⟨stop,hZ⟩|⟨go,step⟩
 ·refine thn (T.done Y rfl rfl rfl c.calm i _ s' _ q (λ_ _=>False) I4 (E N) S stop) λr s4 ⟨hr,I5⟩=>?_;subst hr;exact hR s4 w a C j q I5 rv hz hZ
 ·refine thn (T.item Y rfl rfl rfl c.calm i _ s' _ q (λ_ _=>False) I4 (E N) S go) λr s5 ⟨u,hr,h5⟩=>?_;subst hr;refine thn h5 λ_ s6 ⟨x,H6,I6,r6,y6,M,b'⟩=>?_;have b1:=I6.pinned (E b') (T.obj _ _ M);refine thF c.xe (hg _ s6 _ H6 x u _ b1 r6 (step x H6 y6)) λ_ s7 ⟨G,H7,I7,q7⟩=>?_;refine thF c.xe (b4 _ s7 G H7 _ I7 q7) λok s8 a0=>a0.el λH8 I8 q8=>?_;have m:∀{a:List u8} {C:Nat} {Q:St} {H9:Hp} {s9:E9},Inv Y (([(D,fB a C)]++P)++iL l s6.heap) Q H9 s9->A (i+1) s9.heap/\∀b∈l,H9 b=none:=λ{a C Q H9 s9} I9 =>
   ⟨T.keep _ _ _ M λb t o e=>(I9.pin (b,o) (M0 _ (M0 _ (fk t e)))).1,λb t=>by
    obtain⟨o,e,d⟩:=T.obj _ _ M b t;exact(I9.pin (b,o) (M0 _ (M0 _ (fk t e)))).2.1⟩
  cases ok with
  |false =>
   obtain⟨m',hm,w8⟩:=q8;obtain⟨a8,b8⟩:=m I8;exact⟨m',hm,i+1,w,a,C,G,H8,I8.unpinned,rv,a8,b8,w8⟩
  |true =>
   have X:∀p∈P++iL l s6.heap,p.1≠D:=λp hp=>by
    rcases Q3.mp hp with z|z
    ·exact b3 p z
    ·have t:=(nq z).1;intro e;exact(f _ t).2.2.2.2.2 (D,fB its0 nn0) (by rw[c.pn];simp) e.symm
   refine b2 (hB (P++iL l s6.heap) a C w G H8 s8 _ (by rw[<-aj2];exact I8) rv hz X q8) ?_;rintro s9 ⟨b0,U,n',j,q,I',a',m',hm,w'⟩;rw[<-aj2]at I';obtain⟨a9,b9⟩:=m I';exact⟨m',hm,i+1,b0,U,n',j,q,I'.unpinned,a',a9,b9,w'⟩
end
section
variable{X:Cx}{aa:List (F4×Obj)}{σ I:St}{H2 H':Hp}{G s':E9}{g:af7}{Y:List (Str×F4)}{ms:List Bool}{ar:List Str}{elt t0 i0:N1}{f0:List N1}{gs:List al5}{g0:TG}{tc0:TT}{B:BK}{p pos:Pos}
theorem mP(S:fh X g Y ms ar)(gE:X.calm=true)
  (a':∀C s H N,PG (aS X g Y (X.N++ar) C s H N) t0 g0) (a2:∀C s H N,PIf (aS X g Y (X.N++ar) C s H N) f0 tc0)
  (hL:∀C s H N D,mZ (aS X g Y (X.N++ar) C s H N) D->Lv (aS X g Y (X.N++ar) C s H N) D (lcE elt (⟨t0,i0,f0,0⟩::gs) g pos) 0 p t0 f0 B)
  (w:Inv X aa σ H2 G) {it:F4} {L:List F4} {tn:Nat->K3->Prop} {J:It} (T:qE X.prog X.w X.K t0 J L it tn) (M:tn 0 G.heap) (fz:∀b∈L,jE X aa H2 b)
  {W:Nat->Nat->List V->St->Hp->Prop} {Z:List V->St->Hp->Prop} {m0:Nat} (w0:W 0 m0 [] (iu ms ar.length σ) H2) (O:oj J g0 tc0 B W Z)
  {RR:u8->F4->as3->E9->Prop} {E:u8->E9->Prop}
  (a8:∀ (s':E9) (U:List V) (q:List u8) (n:Nat) (I:St) (H':Hp),Inv (aS X g Y (X.N ++ ar) (G.heap.objs.size + 1) G H2 L) [(G.heap.objs.size,fB q n)] I H' s' → aw U q → U.length ≤ F9 → Z U I H' →
   RR (.ref G.heap.objs.size) (G.heap.objs.size+1) (.ok .next) s') :
  J0 (L4 X.prog X.w) X.A (newList []) (λQ i=>J0 (L4 X.prog X.w) X.A (newFunctionEnv g X.env.globals Y [] X.env.qual none .none (some X.env)) (λu R =>
   am1 (L4 X.prog X.w) X.A (.compStart (lcE elt (⟨t0,i0,f0,0⟩::gs) g pos) 0 (.ref it) Q { u with scope:=relabel g X.env }) (RR Q u.locals) R) E i) E G:=by
 refine V0 (wpAny_newFunctionEnv S.ncell (by intro y hy;simp at hy) (λj h a=>?_) S.kind);dsimp only at h a ⊢;have a5:(G.heap.push { cls:=.type "list",dict:=none,data:=.seq ([]:List u8).toArray }).objs.size=G.heap.objs.size+1:=by rw[ab3]
 rw[a5]at h a ⊢;have m:∀b∈L,b<G.heap.objs.size:=λb l=>by
  obtain⟨o,e,_⟩:=T.obj _ _ M b l;exact I0 e
 have A:∀b o,G.heap.get? b=some o->j.get? b=some o:=λb o e=>a.extBut b o (K8 (U0 (I0 e))) (E7 _ (E7 _ e));have a1:j.get? G.heap.objs.size=some (fB [] 0):=a.extBut _ _ (K8 (ad4 _)) (E7 _ (K1 _ rfl));have a4:H2 G.heap.objs.size=none:=w.hok.fresh (F6 _);have a3:∀b,G.heap.objs.size<=b->b∉(aS X g Y (X.N++ar) (G.heap.objs.size+1) G H2 L).fs:=λb l z=>by
  rcases J3.mp (w.stkSub b z)with e|e
  ·subst e;exact absurd (H0 w.lt l) (Z3 _)
  ·exact w.nofs l e
 have t:∀i:E9,i={ G with heap:=j,toks:=G.toks+([]:List (Str×u8)).length } ->
   am1 (L4 X.prog X.w) X.A (.compLoop (lcE elt (⟨t0,i0,f0,0⟩::gs) g pos) 0 (.ref it) (.ref G.heap.objs.size) (compEnvC g Y (G.heap.objs.size+1) X.env)) (RR (.ref G.heap.objs.size) (G.heap.objs.size+1)) i:=by
  rintro i rfl;have I3:Inv (aS X g Y (X.N++ar) (G.heap.objs.size+1) G H2 L) [] (iu ms ar.length σ) H2 { G with heap:=j,toks:=G.toks+([]:List (Str×u8)).length } :=
   yn w S fz m (aj3 _) rfl w.bare A h
  have c:mZ (aS X g Y (X.N++ar) (G.heap.objs.size+1) G H2 L) G.heap.objs.size:=⟨rfl,gE,rfl,.inr (F6 _),λx c e=>by
   obtain⟨v,o,ho,_⟩:=w.cell x c (S.sub x c e);exact K8 (I0 ho)⟩
  refine uE c (hL _ _ _ _ _ c) (a' _ _ _ _) (a2 _ _ _ _) (P:=[]) (λp hp=>nomatch hp) (its0:=[]) (nn0:=0) (I3.pins_of λp hp=>?_) .nil T (T.keep _ _ _ M λb _ o e=>A b o e) (λb l=>?_) w0 O ?_
  ·have e:p=(G.heap.objs.size,fB [] 0):=L6.mp hp;subst e;exact⟨a1,a4,K8 (ad4 _),a3 _ (F6 _),λv z=>by cases z⟩
  ·exact⟨(fz b l).1,K8 (U0 (m b l)),(wb w S fz m (aj3 _)).exfs b l,.inl l,λx c e=>(fz b l).2.2.2.2.1 x c (S.sub x c e),λp hp=>by
    have:p=(G.heap.objs.size,_):=L6.mp (show p∈[(G.heap.objs.size,_)]from hp);subst this;exact ae1 (m b l)⟩
  ·exact λs' U q n I H' I' rv hz hZ=>a8 s' U q n I H' I' rv hz hZ
 exact codeAny_compStart_list (t _ rfl) (T.self _ 0 _ _ _ (T.keep _ _ _ M λb _ o e=>A b o e) (t _ rfl))
end
section
variable{X:Cx}{aa:List (F4×Obj)}{σ σ':St}{H2 H':Hp}{s2 s':E9}{G:af7}{cl:List (Str×F4)}{ms:List Bool}{ar:List Str}{tg Y elt:N1}{ifs:List N1}{g:TG}{tc:TT}{te:TE}{pos p:Pos}{B:BK}{gs:List al5}
theorem m8(R:Inv X aa σ H2 s2){w:List F4}(A:∀b∈w,jE X aa H2 b){g:List u8}{n:Nat}{s:List V}
  (l:Inv (aS X G cl (X.N++ar) (s2.heap.objs.size+1) s2 H2 w) [(s2.heap.objs.size,fB g n)] σ' H' s') (P:aw s g) (L:s.length<=F9) {h':K3} (hs:Q4 (s2.heap.objs.size+1) s'.heap h') :
  Inv X aa σ (upd H' s2.heap.objs.size (.lst s)) { s' with heap:=h' }/\H' s2.heap.objs.size=none:=by
 have h:=l.pin (s2.heap.objs.size,fB g n) (M0 _ Q0);have N:H' (s2.heap.objs.size+1)=none:=l.free;have I:H' s2.heap.objs.size=none:=h.2.1;have up:∀b o,b≠s2.heap.objs.size+1->s'.heap.get? b=some o->h'.get? b=some o:=λb o a e=>(hs.2 b a).trans e;have m:∀b u,H' b=some u->b≠s2.heap.objs.size:=λb u e z=>by rw[z,I]at e;cases e
 have H:∀b u,H' b=some u->b≠s2.heap.objs.size+1:=λb u e z=>by rw[z,N]at e;cases e
 have t:h'.get? s2.heap.objs.size=some (fB g n):=up _ _ (K8 (ad4 _)) h.1;have B:HOk X.prog X.w (upd H' s2.heap.objs.size (.lst s)) h':=λb u e=>by
  by_cases a:b=s2.heap.objs.size
  ·subst a;rw[aX]at e;cases e;exact⟨L,g,n,P,t⟩
  ·rw[aG a]at e;refine(l.hok b u e).stay (λc v E q=>up c v ?_ q) (λc q=>by rw[aG (m c _ q)];exact q) λc J q=>by rw[aG (m c _ q)];exact q
   rcases E with rfl|E
   ·exact H _ _ e
   ·exact H _ _ E
 have un:Un (frs X.stack) w H2 (upd H' s2.heap.objs.size (.lst s)) s2.heap h':=by
  have U:=l.base;have C:∀b o,s2.heap.get? b=some o->b≠s2.heap.objs.size:=λb o e=>K8 (I0 e);have i:∀b o,s2.heap.get? b=some o->b≠s2.heap.objs.size+1:=λb o e=>K8 (U0 (I0 e));refine⟨λb o e p a j=>up b o (i b o e) (U.keep b o e p a j),λb o e p a j=>?_,λb o e p j=>by rw[aG (C b o e)];exact U.free b o e p j,λb o e j=>?_,
   λb J e=>by have q:=U.tups b J e;rw[aG (m b _ q)];exact q,λb o u e=>by have q:=U.frzs b o u e;rw[aG (m b _ q)];exact q,λb M e=>?_⟩
  ·obtain⟨O,q⟩:=U.slot b o e p a j;exact⟨O,up b _ (i b o e) q⟩
  ·obtain⟨Q,q⟩:=U.there b o e j;exact⟨Q,up b _ (i b o e) q⟩
  ·obtain⟨more,q⟩:=U.tbls b M e;exact⟨more,by rw[aG (m b _ q)];exact q⟩
 exact⟨R.call' (s':={ s' with heap:=h' }) (ch:=w) l.os un B l.bare λb a=>⟨(A b a).2.2.2.1,(A b a).2.1,(A b a).2.2.2.2.1,(A b a).2.2.2.2.2⟩,I⟩
def B5(ms:List Bool)(k:Nat)(e:TI)(g:TG)(tc:TT)(B:BK):TE:=λσ H Q=>e σ H λJ b=>∃(W:Nat->Nat->List V->St->Hp->Prop) (Z:List V->St->Hp->Prop),(∃m,W 0 m [] (iu ms k σ) b)/\oj J g tc B W Z /\
 ∀a σ' H p,Z a σ' H->H p=none->Q (.ref p) (upd H p (.lst a))
abbrev tLc(ms:List Bool)(k:Nat)(a:TI)(g:TG)(tc:TT)(te:TE):TE:=B5 ms k a g tc (pQ te)
abbrev LvC(X:Cx)(G:af7)(cl:List (Str×F4))(ar:List Str)(b:N1)(p:Pos)(tg:N1)(ifs:List N1)(B:BK):Prop:=∀C s H a D,mZ (aS X G cl (X.N++ar) C s H a) D->Lv (aS X G cl (X.N++ar) C s H a) D b 0 p tg ifs B
theorem Ax(S:fh X G cl ms ar)(M:X.calm=true){u:TI}(hi:PI X tg Y u)
  (hg:∀C s H b,PG (aS X G cl (X.N++ar) C s H b) tg g) (j:∀C s H b,PIf (aS X G cl (X.N++ar) C s H b) ifs tc) (O:LvC X G cl ar (lcE elt (⟨tg,Y,ifs,0⟩::gs) G pos) p tg ifs B)
  (hs:∀x,W6 Y X.env x=af8 x:=by intro _;rfl):PE X (lcE elt (⟨tg,Y,ifs,0⟩::gs) G pos) (B5 ms ar.length u g tc B):=by
 intro aa s σ H Q I h;rw[eval_ListComp];refine wpAny_comprehension_free (use:=none) rfl hs S.clos S.kind S.names (thn (hi aa s σ H _ I h) λv s1 U=>thn U λA s2 N=>?_);obtain⟨it,fp,tn,J,H2,e,w,T,o,t,W,Z,⟨m0,P⟩,a,q⟩:=N;subst e;refine mP S M hg j O w T o t P a (RR:=λi C=>compPost (L4 X.prog X.w) X.A X.xe none (EP X aa σ Q) i C) ?_;intro s' ys a0 n σ' H' z E R hZ;obtain⟨m,L,_⟩:=z.loc;refine⟨m,L,λh' l=>?_⟩;obtain⟨I3,hD⟩:=m8 w t z E R l;exact⟨.ref s2.heap.objs.size,_,I3,rfl,q ys _ H' _ hZ hD⟩
theorem nE{i:Nat}{x:Str}{l j:Pos}(hN:X.N.Nodup)(M:X.N[i]?=some x)(hx:X.env.scope.names.lookup x=some .local)
  (a4:ah5 (lcE elt (⟨tg,Y,ifs,0⟩::gs) G pos) (some (.Name x j)) l.line X.env=af8 true)
  (S:fh X G cl ms ar) (gE:X.calm=true) {wi:TI} (hi:PI X tg Y wi)
  (hg:∀C s H E,PG (aS X G cl (X.N++ar) C s H E) tg g) (U:∀C s H E,PIf (aS X G cl (X.N++ar) C s H E) ifs tc) (P:LvC X G cl ar (lcE elt (⟨tg,Y,ifs,0⟩::gs) G pos) p tg ifs B)
  (hs:∀x,W6 Y X.env x=af8 x:=by intro _;rfl):PS X (.Assign [.Name x j] (lcE elt (⟨tg,Y,ifs,0⟩::gs) G pos) l) (A8 (B5 ms ar.length wi g tc B) (pJ i)):=by
 intro aa s σ H D I h;rw[exec_Assign_Name_used _ _ _ _ a4];refine o0 (al4 (o0 ?_));show J0 _ _ (do let _ <-comprehension (lcE elt (⟨tg,Y,ifs,0⟩::gs) G pos) G X.env _ (newList []) false (aa2 Y X.env) (some (an1 (.Name x j) X.env))) _ _ s;refine o0 (P5 (wpAny_comprehension_free (use:=some (an1 (.Name x j) X.env)) (Q:=λ_ s'=>SP X aa D .next s') rfl hs S.clos S.kind S.names
  (thn (hi aa s σ H _ I h) λv s1 h1=>thn h1 λa8 s2 h2=>?_)) (λ_ s' hq=>E6 (E6 hq)) λ_ _ e=>e)
 obtain⟨it,fp,tn,J,H2,e,u,T,a3,f2,W,Z,⟨m0,w0⟩,A,q⟩:=h2;subst e;refine mP S gE hg U P u T a3 f2 w0 A (RR:=λO C=>compPost (L4 X.prog X.w) X.A X.xe (some (an1 (.Name x j) X.env)) (λ_ s'=>SP X aa D .next s') O C) ?_;intro s' ys a9 n σ' H' I' rv hz hZ;obtain⟨m,hm,_⟩:=I'.loc;obtain⟨I3,hD⟩:=m8 u f2 I' rv hz (Q4.refl (s2.heap.objs.size+1) s'.heap);have hq:=q ys _ H' _ hZ hD;show J0 _ _ (an1 (.Name x j) X.env (.ref s2.heap.objs.size)) _ _ _;refine wpAny_assign_Name (nB I3 hN M (.inl hx) (v:=.ref s2.heap.objs.size) rfl (λs4 I4 t=>?_) (.inr hx));obtain⟨a,a1,L⟩:=t;have w:s2.heap.objs.size+1≠X.env.locals:=ae1 (U0 u.lt);have a5:s2.heap.objs.size+1≠a:=by
  rcases L with rfl|L
  ·exact w
  ·intro z;obtain⟨v,o,ho,_⟩:=u.cell x a L;exact absurd (U0 (I0 ho)) (by rw[<-z];exact Z3 _)
 have a0:upd H' s2.heap.objs.size (.lst ys) (s2.heap.objs.size+1)=none:=by rw[aG (ae1 (ad4 _))];exact I'.free
 refine⟨m,hm.sameBut a1 a5,λR a2=>?_⟩;refine⟨_,_,?_,hq⟩;have P:∀b o,b≠s2.heap.objs.size+1->s4.heap.get? b=some o->R.get? b=some o:=λb o N e=>(a2.2 b N).trans e;have I5:=Inv.turned (t':=s4.toks) (h':=R) (it:=s2.heap.objs.size+1) I4 (λb o N e=>P b o N e) a0 w (.inr (Nat.le_succ_of_le u.sz)) (λy c e=>by
  obtain⟨v,o,ho,_⟩:=u.cell y c e;exact K8 (U0 (I0 ho))) (λp hp=>by
  exact K8 (U0 (I0 (u.pin p hp).1)))
 exact I5
theorem qS(he:∀C s H a,PE (aS X G cl (X.N++ar) C s H a) elt te):LvC X G cl ar (lcE elt [⟨tg,Y,ifs,0⟩] G pos) Y.pos tg ifs (pQ te):=λ_ _ _ _ _ c=>zt c (he _ _ _ _) λ_ _ _=>rfl
end
inductive Bx where
 |dk (ks:List Key)|dt (ks:List (List Key))|ins (C:F4) (fs:List Str)|key
 deriving Inhabited
inductive D where
 |non|bl (b:Bool)|int (i:Int)|str (x:Str)|tup (ds:List D)|lst (ds:List D)|scr (ds:List D)|emp|ref (a:F4)|box (t:Bx) (ds:List D)
 deriving Inhabited
inductive HD where
 |lst (ds:List D)|dK (kvs:List (Key×D))|dT (kvs:List (List Key×D))|dKr (o:Obj) (ks:List (Key×V)) (kvs:List (Key×D))|ins (C:F4) (fs:List (Str×D))
 |ext (φ:List V->K3->Prop) (ds:List D)
 deriving Inhabited
abbrev DH:=F4->Option HD
def aF(M:DH)(a:F4)(o:HD):DH:=λb=>if b=a then some o else M b
def mK(M:DH)(a:F4):DH:=λb=>if b=a then none else M b
abbrev noM:DH:=λ_=>none
theorem bb{M:DH}{a:F4}{o:HD}:aF M a o a=some o:=if_pos rfl
theorem bS{M:DH}{a b:F4}{o:HD}(h:b≠a):aF M a o b=M b:=if_neg h
theorem eX{M:DH}{a:F4}{o u:HD}:aF (aF M a o) a u=aF M a u:=by
 funext b;unfold aF;split<;>rfl
theorem mQ{M:DH}{a:F4}:mK M a a=none:=if_pos rfl
theorem eU{M:DH}{a:F4}{o:HD}(h:M a=none):mK (aF M a o) a=M:=by
 funext b;unfold mK aF;split
 ·rename_i e;rw[e,h]
 ·rfl
def ni(K:E5)(M:DH)(H:Hp)(a:F4)(b:List V):Prop:=(Rd H a (.tup b)/\M a=none)∨SqT K (λ_=>none) a b
def ua(M:DH)(H:Hp)(a:F4)(b:List V):Prop:=H a=some (.lst b)/\M a=none
def nA(K:E5)(M:DH)(H:Hp)(a:F4)(b:List V):Prop:=((∃o,H a=some (.frz o (.lst b)))/\M a=none)∨SqL K (λ_=>none) a b
def Cj(M:DH)(H:Hp)(a:F4):Prop:=H a=some (.dK [])/\M a=none
def sA(M:DH)(H:Hp)(a:F4):Bx->List V->Prop
 |.dk e,b=>e.length=b.length/\(∃o,H a=some (.frz o (.dK (e.zip b))))/\M a=none
 |.dt e,b=>e.length=b.length/\(∃o,H a=some (.frz o (.dT (e.zip b))))/\M a=none
 |.ins C fs,b=>fs.length=b.length/\(∃g,H a=some (.ins C g (fs.zip b)))/\M a=none
 |.key,b=>True/\(∃h:Unit,H a=some (.tup b))/\M a=none
mutual
def Rep(K:E5)(M:DH)(H:Hp):D->V->Prop
 |.non,v=>v=.non
 |.bl b,v=>v=.bl b
 |.int i,v=>v=.int i
 |.str x,v=>v=.str x
 |.tup g,v=>∃a e,v=.ref a/\ni K M H a e/\ao K M H g e
 |.lst g,v=>∃a e,v=.ref a/\ua M H a e/\ao K M H g e
 |.scr g,v=>∃a e,v=.ref a/\nA K M H a e/\ao K M H g e
 |.emp,v=>∃a,v=.ref a/\Cj M H a
 |.ref a,v=>v=.ref a
 |.box t g,v=>∃a e,v=.ref a/\sA M H a t e/\ao K M H g e
def ao(K:E5)(M:DH)(H:Hp):List D->List V->Prop
 |[],a=>a=[]
 |d::e,a=>∃v b,a=v::b/\Rep K M H d v/\ao K M H e b
end
def Ext(M:DH)(H:Hp)(b:DH)(e:Hp):Prop:=∀a o,H a=some o->M a=none->e a=some o/\b a=none
theorem Ext.refl(M:DH)(H:Hp):Ext M H M H:=λ_ _ h n=>⟨h,n⟩
theorem Ext.trans{M M1 M2:DH}{H g e:Hp}(a:Ext M H M1 g)(b:Ext M1 g M2 e):Ext M H M2 e:=λc o h n=>b c o (a c o h n).1 (a c o h n).2
variable{K:E5}{M M' M1 M2:DH}{H H' H1 H2:Hp}
theorem ni.ext{a:F4}{b:List V}(h:ni K M H a b)(e:Ext M H M' H'):ni K M' H' a b:=by
 rcases h with⟨r|⟨o,r⟩,n⟩|h
 ·exact .inl ⟨.inl (e a _ r n).1,(e a _ r n).2⟩
 ·exact .inl ⟨.inr ⟨o,(e a _ r n).1⟩,(e a _ r n).2⟩
 ·exact .inr h
theorem ua.ext{a:F4}{b:List V}(h:ua M H a b)(e:Ext M H M' H'):ua M' H' a b:=e a _ h.1 h.2
theorem nA.ext{a:F4}{b:List V}(h:nA K M H a b)(e:Ext M H M' H'):nA K M' H' a b:=by
 rcases h with⟨⟨o,r⟩,n⟩|h
 ·exact .inl ⟨⟨o,(e a _ r n).1⟩,(e a _ r n).2⟩
 ·exact .inr h
theorem sA.ext{a:F4}{t:Bx}{b:List V}(h:sA M H a t b)(e:Ext M H M' H'):sA M' H' a t b:=by
 cases t<;>(obtain⟨l,⟨o,r⟩,n⟩:=h;exact⟨l,⟨o,(e a _ r n).1⟩,(e a _ r n).2⟩)
mutual
theorem Rep.ext:∀{d:D}{v:V},Rep K M H d v->Ext M H M' H'->Rep K M' H' d v
 |.non,_,h,_=>h
 |.bl _,_,h,_=>h
 |.int _,_,h,_=>h
 |.str _,_,h,_=>h
 |.ref _,_,h,_=>h
 |.emp,_,h,e=>by
  simp only[Rep]at h ⊢;obtain⟨a,rfl,b,g⟩:=h;exact⟨a,rfl,e a _ b g⟩
 |.tup j,_,h,e=>by
  simp only[Rep]at h ⊢;obtain⟨a,i,rfl,b,g⟩:=h;exact⟨a,i,rfl,b.ext e,ao.ext g e⟩
 |.lst j,_,h,e=>by
  simp only[Rep]at h ⊢;obtain⟨a,i,rfl,b,g⟩:=h;exact⟨a,i,rfl,b.ext e,ao.ext g e⟩
 |.scr j,_,h,e=>by
  simp only[Rep]at h ⊢;obtain⟨a,i,rfl,b,g⟩:=h;exact⟨a,i,rfl,b.ext e,ao.ext g e⟩
 |.box t j,_,h,e=>by
  simp only[Rep]at h ⊢;obtain⟨a,i,rfl,b,g⟩:=h;exact⟨a,i,rfl,b.ext e,ao.ext g e⟩
theorem ao.ext:∀{ds:List D}{a:List V},ao K M H ds a->Ext M H M' H'->ao K M' H' ds a
 |[],_,h,_=>h
 |d::ds,_,h,e=>by
  simp only[ao]at h ⊢;obtain⟨v,i,rfl,b,g⟩:=h;exact⟨v,i,rfl,Rep.ext b e,ao.ext g e⟩
end
theorem ao.length:∀{ds:List D}{a:List V},ao K M H ds a->ds.length=a.length
 |[],_,h=>by simp only[ao]at h;subst h;rfl
 |d::ds,_,h=>by
  simp only[ao]at h;obtain⟨v,g,rfl,e,b⟩:=h;simp[ao.length b]
theorem ao.nil:ao K M H [] []:=by simp[ao]
theorem ao.cons{d:D}{v:V}{ds:List D}{a:List V}(h:Rep K M H d v)(t:ao K M H ds a):ao K M H (d::ds) (v::a):=by
 simp only[ao];exact⟨v,a,rfl,h,t⟩
theorem ao.append:∀{ds a:List D}{b ws:List V},ao K M H ds b->ao K M H a ws->ao K M H (ds++a) (b++ws)
 |[],_,_,_,h,t=>by simp only[ao]at h;subst h;exact t
 |d::ds,a,_,ws,h,t=>by
  simp only[ao]at h;obtain⟨v,i,rfl,e,g⟩:=h;exact ao.cons e (ao.append g t)
theorem ao.get:∀{ds:List D}{l:List V}{i:Nat}{d:D},ao K M H ds l->ds[i]?=some d->∃v,l[i]?=some v/\Rep K M H d v
 |[],_,_,_,_,e=>by simp at e
 |d::ds,_,0,x,h,e=>by
  simp only[ao]at h;obtain⟨v,m,rfl,g,j⟩:=h;simp at e;subst e;exact⟨v,rfl,g⟩
 |d::ds,_,i+1,x,h,e=>by
  simp only[ao]at h;obtain⟨v,m,rfl,g,j⟩:=h;obtain⟨w,a,b⟩:=ao.get (i:=i) (d:=x) j (by simpa using e);exact⟨w,by simpa using a,b⟩
theorem ao.take:∀{ds:List D}{a:List V}(n:Nat),ao K M H ds a->ao K M H (ds.take n) (a.take n)
 |ds,a,0,_=>by simp[ao]
 |[],_,n+1,h=>by simp only[ao]at h;subst h;simp[ao]
 |d::ds,_,n+1,h=>by
  simp only[ao]at h;obtain⟨v,g,rfl,b,e⟩:=h;exact ao.cons b (ao.take n e)
theorem ao.drop:∀{ds:List D}{a:List V}(n:Nat),ao K M H ds a->ao K M H (ds.drop n) (a.drop n)
 |ds,a,0,h=>h
 |[],_,n+1,h=>by simp only[ao]at h;subst h;simp[ao]
 |d::ds,_,n+1,h=>by
  simp only[ao]at h;obtain⟨v,g,rfl,e,b⟩:=h;exact ao.drop n b
theorem ao.set:∀{ds:List D}{e:List V}{d:D}{v:V}(n:Nat),ao K M H ds e->Rep K M H d v->ao K M H (ds.set n d) (e.set n v)
 |[],_,_,_,n,h,r=>by simp only[ao]at h;subst h;simp[ao]
 |d::ds,_,_,_,0,h,r=>by
  simp only[ao]at h;obtain⟨v,g,rfl,b,a⟩:=h;exact ao.cons r a
 |d::ds,_,_,_,n+1,h,r=>by
  simp only[ao]at h;obtain⟨v,g,rfl,b,a⟩:=h;exact ao.cons b (ao.set n a r)
theorem ao.one{d:D}{a:List V}(h:ao K M H [d] a):∃v,a=[v]/\Rep K M H d v:=by
 simp only[ao]at h;obtain⟨v,e,rfl,b,rfl⟩:=h;exact⟨v,rfl,b⟩
def KR(K:E5)(M:DH)(H:Hp){κ:Type}:List (κ×D)->List (κ×V)->Prop:=ad3 λp q=>p.1=q.1/\Rep K M H p.2 q.2
theorem KR.ext{κ:Type}{a:List (κ×D)}{b:List (κ×V)}(h:KR K M H a b)(e:Ext M H M' H'):KR K M' H' a b:=ad3.imp' (λ_ _ r=>⟨r.1,r.2.ext e⟩) h
def ma(K:E5)(M:DH)(H:Hp)(a:F4):HD->Prop
 |.lst h=>∃g,H a=some (.lst g)/\ao K M H h g
 |.dK b=>∃e,H a=some (.dK e)/\KR K M H b e
 |.dT b=>∃e,H a=some (.dT e)/\KR K M H b e
 |.dKr o e b=>∃m:Unit,H a=some (.frz o (.dK e))/\KR K M H b e
 |.ins C fs=>∃i,(∃l,H a=some (.ins C l i))/\KR K M H fs i
 |.ext j h=>∃g,H a=some (.ext (j g))/\ao K M H h g
def HR(K:E5)(M:DH)(H:Hp):Prop:=∀a o,M a=some o->ma K M H a o
theorem ma.some{a:F4}{o:HD}(h:ma K M H a o):∃u,H a=R0 u/\∀xs,u≠.tup xs/\∀b,u≠.frz b (.tup xs):=by
 cases o with
 |ins C fs=>obtain⟨e,⟨i,r⟩,_⟩:=h;exact⟨_,r,λxs=>⟨(by intro z;cases z),(by intro b z;cases z)⟩⟩
 |_=>obtain⟨g,r,_⟩:=h;exact⟨_,r,λxs=>⟨(by intro z;cases z),(by intro b z;cases z)⟩⟩
theorem ma.keep{a:F4}{o:HD}(h:ma K M H a o)(e:Ext M H M' H')(q:H' a=H a):ma K M' H' a o:=by
 cases o with
 |ins C fs=>obtain⟨b,⟨i,r⟩,t⟩:=h;exact⟨b,⟨i,by rw[q];exact r⟩,t.ext e⟩
 |_=>obtain⟨g,r,t⟩:=h;exact⟨g,by rw[q];exact r,t.ext e⟩
theorem HR.fresh(h:HR K M H){p:F4}(e:H p=none):M p=none:=by
 cases q:M p with
 |none=>rfl
 |some o =>
  obtain⟨u,r,_⟩:=(h p _ q).some;rw[e]at r;cases r
theorem HR.nil:HR K noM H:=λ_ _ h=>nomatch h
theorem Ext.new{p:F4}{o:HO}(hr:HR K M H)(h:H p=none):Ext M H M (upd H p o):=λa u e n=>by
 have:a≠p:=cp e h;rw[aG this];exact⟨e,n⟩
theorem HR.ext1(h:HR K M H)(e:Ext M H M H')(keep:∀a o,M a=some o->H' a=H a):HR K M H':=λa o q=>(h a o q).keep e (keep a o q)
theorem HR.new{p:F4}{o:HO}(hr:HR K M H)(h:H p=none):HR K M (upd H p o):=hr.ext1 (Ext.new hr h) λa u q=>by
 have:a≠p:=λz=>by rw[z,hr.fresh h]at q;cases q
 rw[aG this]
theorem Ext.own{p:F4}{o:HO}{u:HD}(h:H p=none):Ext M H (aF M p u) (upd H p o):=λa x e n=>by
 have:a≠p:=cp e h;rw[aG this,bS this];exact⟨e,n⟩
theorem HR.put{p:F4}{o:HO}{u:HD}(hr:HR K M H)(e:Ext M H (aF M p u) (upd H p o))(c:ma K (aF M p u) (upd H p o) p u):HR K (aF M p u) (upd H p o):=λa w q=>by
 by_cases z:a=p
 ·subst z;rw[bb]at q;cases q;exact c
 ·rw[bS z]at q;exact(hr a w q).keep e (aG z)
theorem HR.own{p:F4}{ds:List D}{a:List V}(hr:HR K M H)(h:H p=none)(r:ao K M H ds a):HR K (aF M p (.lst ds)) (upd H p (.lst a)) :=
 hr.put (Ext.own h) ⟨a,aX,r.ext (Ext.own h)⟩
theorem Ext.write{a:F4}{o:HO}{u w:HD}(h:M a=some w):Ext M H (aF M a u) (upd H a o):=λb x e n=>by
 have:b≠a:=λz=>by rw[z,h]at n;cases n
 rw[aG this,bS this];exact⟨e,n⟩
theorem HR.write{a:F4}{w:HD}{ds:List D}{b:List V}(hr:HR K M H)(h:M a=some w)(r:ao K M H ds b):HR K (aF M a (.lst ds)) (upd H a (.lst b)) :=
 hr.put (Ext.write h) ⟨b,aX,r.ext (Ext.write h)⟩
def LeM(M1 M:DH):Prop:=∀a o,M1 a=some o->M a=some o
theorem LeM.none(h:LeM M1 M){a:F4}(n:M a=none):M1 a=none:=by
 cases q:M1 a with
 |none=>rfl
 |some o=>rw[h a o q]at n;cases n
theorem LeM.no:LeM noM M:=λ_ _ h=>nomatch h
theorem LeM.del{a:F4}:LeM (mK M a) M:=λb o h=>by
 unfold mK at h;split at h
 ·cases h
 ·exact h
theorem Ext.le(h:LeM M1 M):Ext M H M1 H:=λa o e n=>⟨e,h.none n⟩
theorem HR.le(hr:HR K M H)(h:LeM M1 M):HR K M1 H:=λa o q=>(hr a o (h a o q)).keep (Ext.le h) rfl
theorem Rep.froze(hr:HR K M H)(h:LeM M1 M){a:F4}{ds:List D}(e:M a=some (.lst ds))(n:M1 a=none):Rep K M1 H (.lst ds) (.ref a):=by
 obtain⟨b,r,t⟩:=hr a _ e;simp only[Rep];exact⟨a,b,rfl,⟨r,n⟩,t.ext (Ext.le h)⟩
mutual
def noL:D->Bool
 |.tup a=>yL a
 |.lst _=>false
 |.scr _=>false
 |.emp=>false
 |.box _ _=>false
 |_=>true
def yL:List D->Bool
 |[]=>true
 |d::a=>noL d&&yL a
end
mutual
theorem Rep.hard:∀{d:D}{v:V},noL d=true->Rep K M H d v->(∀a xs,Rd H a (.tup xs)->M' a=none)->Rep K M' H d v
 |.non,_,_,h,_=>h
 |.bl _,_,_,h,_=>h
 |.int _,_,_,h,_=>h
 |.str _,_,_,h,_=>h
 |.ref _,_,_,h,_=>h
 |.emp,_,n,_,_=>by simp[noL]at n
 |.box _ _,_,n,_,_=>by simp[noL]at n
 |.lst _,_,n,_,_=>by simp[noL]at n
 |.scr _,_,n,_,_=>by simp[noL]at n
 |.tup j,_,n,h,e=>by
  simp only[Rep]at h ⊢;obtain⟨a,b,rfl,g,i⟩:=h;refine⟨a,b,rfl,?_,ao.hard (by simpa[noL]using n) i e⟩;rcases g with⟨r,_⟩|r
  ·exact .inl ⟨r,e a b r⟩
  ·exact .inr r
theorem ao.hard:∀{ds:List D}{b:List V},yL ds=true->ao K M H ds b->(∀a xs,Rd H a (.tup xs)->M' a=none)->ao K M' H ds b
 |[],_,_,h,_=>h
 |d::ds,_,n,h,e=>by
  simp only[ao]at h ⊢;obtain⟨v,j,rfl,g,i⟩:=h;simp only[yL,F8]at n;exact⟨v,j,rfl,Rep.hard n.1 g e,ao.hard n.2 i e⟩
end
abbrev DE:=List (Option D)
def SR(K:E5)(M:DH)(H:Hp)(σ:St)(a:DE):Prop:=σ.length=a.length/\∀(i:Nat) (d:D),a[i]?=some (some d)->∃v,σ[i]?=some (some v)/\Rep K M H d v
theorem SR.ext{σ:St}{b:DE}(h:SR K M H σ b)(e:Ext M H M' H'):SR K M' H' σ b:=⟨h.1,λi d q=>let⟨v,a,r⟩:=h.2 i d q;⟨v,a,r.ext e⟩⟩
theorem SR.set{σ:St}{a:DE}{d:D}{v:V}(h:SR K M H σ a)(i:Nat)(r:Rep K M H d v):SR K M H (σ.set i (some v)) (a.set i (some d)):=by
 refine⟨by simp[h.1],λj e q=>?_⟩
 by_cases g:j=i
 ·subst g
  by_cases b:j<a.length
  ·rw[P8 b]at q;cases q;exact⟨v,P8 (by rw[h.1];exact b),r⟩
  ·rw[S0 (by simp;lia)]at q;cases q
 ·rw[U4 (U2 g)]at q ⊢;exact h.2 j e q
abbrev TEd:=DE->DH->(D->DH->Prop)->Prop
abbrev TAd:=DE->DH->(List D->DH->Prop)->Prop
abbrev TTd:=DE->DH->(Bool->DH->Prop)->Prop
structure dH where
 nx:DE->DH->Prop
 rt:D->DH->Prop
 bk:DE->DH->Prop:=λ_ _=>False
 ct:DE->DH->Prop:=λ_ _=>False
abbrev TSd:=dH->DE->DH->Prop
def up(K:E5)(t:TEd):TE:=λb H Q=>∃(a:DE) (M:DH) (R:D->DH->Prop),SR K M H b a/\HR K M H/\t a M R /\
 ∀d M' v H',R d M'->Ext M H M' H'->HR K M' H'->Rep K M' H' d v->Q v H'
def upA(K:E5)(t:TAd):TA:=λg H Q=>∃(e:DE) (M:DH) (R:List D->DH->Prop),SR K M H g e/\HR K M H/\t e M R /\
 ∀b M' a H',R b M'->Ext M H M' H'->HR K M' H'->ao K M' H' b a->Q a H'
def upT(K:E5)(t:TTd):TT:=λe H Q=>∃(a:DE) (M:DH) (R:Bool->DH->Prop),SR K M H e a/\HR K M H/\t a M R /\
 ∀b M' H',R b M'->Ext M H M' H'->HR K M' H'->Q b H'
theorem upT.el{K:E5}{t:TTd}{σ:St}{H:Hp}{Q:Bool->Hp->Prop}{P:Prop}(h:upT K t σ H Q)(f:∀(e:DE) (M:DH) (R:Bool->DH->Prop),SR K M H σ e->HR K M H->t e M R->(∀b M' H',R b M'->Ext M H M' H'->HR K M' H'->Q b H')->P):P:=by
 obtain⟨j,i,g,a,b,c,d⟩:=h;exact f j i g a b c d
theorem up.el{K:E5}{t:TEd}{σ:St}{H:Hp}{Q:VK}{P:Prop}(h:up K t σ H Q)(f:∀(e:DE) (M:DH) (R:D->DH->Prop),SR K M H σ e->HR K M H->t e M R->(∀d M' v H',R d M'->Ext M H M' H'->HR K M' H'->Rep K M' H' d v->Q v H')->P):P:=by
 obtain⟨j,i,g,a,b,c,d⟩:=h;exact f j i g a b c d
theorem upA.el{K:E5}{t:TAd}{σ:St}{H:Hp}{Q:List V->Hp->Prop}{P:Prop}(h:upA K t σ H Q)(f:∀(e:DE) (M:DH) (R:List D->DH->Prop),SR K M H σ e->HR K M H->t e M R->(∀ds M' g H',R ds M'->Ext M H M' H'->HR K M' H'->ao K M' H' ds g->Q g H')->P):P:=by
 obtain⟨l,j,i,a,b,c,d⟩:=h;exact f l j i a b c d
structure UpE(K:E5) (E:dH) (D:mF) (M:DH) (H:Hp):Prop where
 nx:∀ Δ' M' σ' H',E.nx Δ' M'->Ext M H M' H'->HR K M' H'->SR K M' H' σ' Δ'->D.nx σ' H'
 bk:∀ Δ' M' σ' H',E.bk Δ' M'->Ext M H M' H'->HR K M' H'->SR K M' H' σ' Δ'->D.bk σ' H'
 ct:∀ Δ' M' σ' H',E.ct Δ' M'->Ext M H M' H'->HR K M' H'->SR K M' H' σ' Δ'->D.ct σ' H'
 rt:∀d M' v H',E.rt d M'->Ext M H M' H'->HR K M' H'->Rep K M' H' d v->D.rt v H'
theorem UpE.ext{E:dH}{D:mF}(u:UpE K E D M H)(e:Ext M H M' H'):UpE K E D M' H' :=
 ⟨λa b c d h x=>u.nx a b c d h (e.trans x),λa b c d h x=>u.bk a b c d h (e.trans x),λa b c d h x=>u.ct a b c d h (e.trans x),λa b c d h x=>u.rt a b c d h (e.trans x)⟩
def upS(K:E5)(t:TSd):TS:=λD b H=>∃(a:DE) (M:DH) (E:dH),SR K M H b a/\HR K M H/\t E a M/\UpE K E D M H
theorem upS.el{K:E5}{t:TSd}{E:mF}{σ:St}{H:Hp}{P:Prop}(h:upS K t E σ H)(f:∀(e:DE) (M:DH) (R:dH),SR K M H σ e->HR K M H->t R e M->UpE K R E M H->P):P:=by
 obtain⟨i,j,g,a,b,c,d⟩:=h;exact f i j g a b c d
def PEd(X:Cx)(e:N1)(t:TEd):Prop:=PE X e (up X.K t)
def PAd(X:Cx)(a:List N1)(t:TAd):Prop:=PA X a (upA X.K t)
def PTd(X:Cx)(e:N1)(t:TTd):Prop:=PT X e (upT X.K t)
def PWd(X:Cx)(e:N1)(t:TTd):Prop:=PW X e (upT X.K t)
def PSd(X:Cx)(st:Z7)(t:TSd):Prop:=PS X st (upS X.K t)
def yj(X:Cx)(st:List Z7)(t:TSd):Prop:=PSs X st (upS X.K t)
theorem PE.conv{X:Cx}{e:N1}{t t':TE}(h:PE X e t)(k:∀ σ H Q,t' σ H Q->t σ H Q):PE X e t':=λp s σ H Q I q=>h p s σ H Q I (k σ H Q q)
theorem PT.conv{X:Cx}{e:N1}{t t':TT}(h:PT X e t)(k:∀ σ H Q,t' σ H Q->t σ H Q):PT X e t':=λp s σ H Q I q=>h p s σ H Q I (k σ H Q q)
theorem PA.conv{X:Cx}{e:List N1}{t t':TA}(h:PA X e t)(k:∀ σ H Q,t' σ H Q->t σ H Q):PA X e t':=λa p s σ H Q I q=>h a p s σ H Q I (k σ H Q q)
theorem PS.conv{X:Cx}{e:Z7}{t t':TS}(h:PS X e t)(k:∀D σ H,t' D σ H->t D σ H):PS X e t':=λp s σ H D I q=>h p s σ H D I (k D σ H q)
theorem PSs.conv{X:Cx}{e:List Z7}{t t':TS}(h:PSs X e t)(k:∀D σ H,t' D σ H->t D σ H):PSs X e t':=λp s σ H D I q=>h p s σ H D I (k D σ H q)
section
variable{X:Cx}{a b c:N1}{W:List N1}{g B:TEd}{pos:Pos}
def DC(i:Nat):TEd:=λa M Q=>∃d,a[i]?=some (some d)/\Q d M
def dC(d:D):TEd:=λ_ M Q=>Q d M
theorem zj{x:Str}{i:Int}{t:Tok}{pos:Pos}(hg:Gl X x)(g:X.mg x=some (.int i t))(e:(x==("__debug__":Str))=false:=by decide):PEd X (.Name x pos) (dC (.int i)) :=
 (oN (v:=.int i) hg g ⟨t,rfl⟩ e).conv λh H Q a=>a.el λl M R j b q k=>k _ M _ H q (Ext.refl _ _) b (by simp[Rep])
theorem ym{x y:Str}{t:Tok}{pos:Pos}(hg:Gl X x)(g:X.mg x=some (.str y t))(e:(x==("__debug__":Str))=false:=by decide):PEd X (.Name x pos) (dC (.str y)) :=
 (oN (v:=.str y) hg g ⟨t,rfl⟩ e).conv λh H Q a=>a.el λj M R i b q k=>k _ M _ H q (Ext.refl _ _) b (by simp[Rep])
def C3:TAd:=λ_ M Q=>Q [] M
def z8(g:TEd)(b:TAd):TAd:=λa M Q=>g a M λx M1=>b a M1 λe M2=>Q (x::e) M2
def Cv(t:TAd):TEd:=λb M Q=>t b M λa M1=>a.length<=F9/\Q (.tup a) M1
def Cw(t:TAd):TEd:=λb M Q=>t b M λa M1=>a.length<=F9/\Q (.lst a) M1
def zK(t:TAd):TEd:=λb M Q=>t b M λa M1=>a.length<=F9/\∀p,M1 p=none->Q (.ref p) (aF M1 p (.lst a))
def rdM(M:DH):D->D
 |.ref a=>match M a with|some (.lst b)=>.lst b|_=>.ref a
 |d=>d
def aN(K:E5)(M:DH)(H:Hp)(d:D)(v:V):Prop:=match d with
 |.tup e=>∃a b,v=.ref a/\SqT K H a b/\ao K M H e b
 |.lst e=>∃a b,v=.ref a/\H a=some (.lst b)/\ao K M H e b
 |.scr e=>∃a b,v=.ref a/\SqL K H a b/\ao K M H e b
 |d=>Rep K M H d v
theorem ni.sq{K:E5}{M:DH}{H:Hp}{a:F4}{b:List V}(h:ni K M H a b):SqT K H a b:=by
 rcases h with⟨h,_⟩|h
 ·exact .inl h
 ·rcases h with(h|⟨_,h⟩)|h
  ·cases h
  ·cases h
  ·exact .inr h
theorem nA.sq{K:E5}{M:DH}{H:Hp}{a:F4}{b:List V}(h:nA K M H a b):SqL K H a b:=by
 rcases h with⟨⟨o,h⟩,_⟩|h
 ·exact .inl (.inr ⟨o,h⟩)
 ·rcases h with(h|⟨_,h⟩)|h
  ·cases h
  ·cases h
  ·exact .inr h
theorem Rep.rd{K:E5}{M:DH}{H:Hp}{d:D}{v:V}(hr:HR K M H)(h:Rep K M H d v):aN K M H (rdM M d) v:=by
 cases d with
 |tup j=>simp only[Rep]at h;obtain⟨a,g,e,t,r⟩:=h;exact⟨a,g,e,t.sq,r⟩
 |lst j=>simp only[Rep]at h;obtain⟨a,g,e,t,r⟩:=h;exact⟨a,g,e,t.1,r⟩
 |scr j=>simp only[Rep]at h;obtain⟨a,g,e,t,r⟩:=h;exact⟨a,g,e,t.sq,r⟩
 |ref a =>
  simp only[rdM];cases q:M a with
  |none=>exact h
  |some o =>
   cases o with
   |lst j =>
    obtain⟨g,e,r⟩:=hr a _ q;simp only[Rep]at h;exact⟨a,g,h,e,r⟩
   |dK _=>exact h
   |dT _=>exact h
   |dKr _ _ _=>exact h
   |ins _ _=>exact h
   |ext _ _=>exact h
 |non=>exact h
 |bl b=>exact h
 |int i=>exact h
 |str x=>exact h
 |emp=>exact h
 |box _ _=>exact h
def bP(X:Cx)(f:u8->u8->Sem u8)(r:D->D->Option D):Prop :=
 ∀(a:List (F4×Obj)) (s:E9) (b:St) (H:Hp) (M:DH) (x y:V) (v u:u8) (h g e:D) (Q:VK),Inv X a b H s->HR X.K M H->aM x v->aM y u->aN X.K M H h x->aN X.K M H g y->r h g=some e ->
  (∀w H',Ext M H M H'->HR X.K M H'->Rep X.K M H' e w->Q w H')->J0 (L4 X.prog X.w) X.A (f v u) (EP X a b Q) X.xe s
def Dh(X:Cx)(f:u8->Sem u8)(r:D->Option D):Prop :=
 ∀(a:List (F4×Obj)) (s:E9) (b:St) (H:Hp) (M:DH) (x:V) (v:u8) (g e:D) (Q:VK),Inv X a b H s->HR X.K M H->aM x v->aN X.K M H g x->r g=some e ->
  (∀w H',Ext M H M H'->HR X.K M H'->Rep X.K M H' e w->Q w H')->J0 (L4 X.prog X.w) X.A (f v) (EP X a b Q) X.xe s
def bQ(X:Cx)(f:u8)(r:List D->Option D):Prop :=
 ∀(a:List (F4×Obj)) (s:E9) (g:St) (H:Hp) (M:DH) (h:List V) (b:List u8) (i:List D) (e:D) (Q:VK),Inv X a g H s->HR X.K M H->aw h b->ad3 (aN X.K M H) i h->r i=some e ->
  (∀w H',Ext M H M H'->HR X.K M H'->Rep X.K M H' e w->Q w H')->J0 (L4 X.prog X.w) X.A (ar9 f b) (EP X a g Q) X.xe s
def dOp(r:D->D->Option D)(g B:TEd):TEd:=λa M Q=>g a M λx M1=>B a M1 λy M2=>∃z,r (rdM M2 x) (rdM M2 y)=some z/\Q z M2
def dUn(r:D->Option D)(g:TEd):TEd:=λa M Q=>g a M λx M1=>∃z,r (rdM M1 x)=some z/\Q z M1
def opV(K:E5)(r:D->D->Option D):R2:=λx y H Q=>∃e b a M,HR K M H/\aN K M H e x/\aN K M H b y/\r e b=some a/\∀w H',Ext M H M H'->HR K M H'->Rep K M H' a w->Q w H'
theorem bP.v{f:u8->u8->Sem u8}{r:D->D->Option D}(h:bP X f r):OpR X f (opV X.K r):=λi s n H x y v u Q I a b ⟨g,l,o,M,m,p,j,e,k⟩=>h i s n H M x y v u g l o Q I m a b p j e k
theorem vi{K:E5}{r:D->D->Option D}{g B:TEd}:∀ σ H Q,up K (dOp r g B) σ H Q->tOp (opV K r) (up K g) (up K B) σ H Q:=λσ H Q e=>e.el λm M R l t q k =>
 ⟨m,M,_,l,t,q,λx M1 v H1 o j b s=>⟨m,M1,_,l.ext j,b,o,λy M2 u H2 ⟨z,A,C⟩ n a p=>⟨_,_,z,M2,a,(s.ext n).rd a,p.rd a,A,λw H' E i h=>k z M2 w H' C ((j.trans n).trans E) i h⟩⟩⟩
def vH(t:TEd):TTd:=λa M Q=>t a M λx M1=>∃k,x=.bl k/\Q k M1
theorem DS{K:E5}{t:TEd}:∀ σ H Q,upT K (vH t) σ H Q->wu (up K t) σ H Q:=λσ H Q g=>g.el λm M R j n q k =>
 ⟨m,M,_,j,n,q,λd M1 v H1 ⟨b,e,h⟩ i a l=>⟨b,by subst e;simpa only[Rep]using l,k b M1 H1 h i a⟩⟩
def zT(t:TTd):TTd:=λa M Q=>t a M λc M1=>Q (!c) M1
def zJ(t u:TTd):TTd:=λa M Q=>t a M λc M1=>if c=true then u a M1 Q else Q false M1
def CK(t u:TTd):TTd:=λa M Q=>t a M λc M1=>if c=true then Q true M1 else u a M1 Q
variable{Y G:TTd}{rest:List N1}
theorem PW.conv{X:Cx}{e:N1}{t t':TT}(h:PW X e t)(k:∀ σ H Q,t' σ H Q->t σ H Q):PW X e t':=λw p s σ H Q I q=>h w p s σ H Q I (k σ H Q q)
theorem PWd.pt{e:N1}{t:TTd}(h:PWd X e t):PTd X e t:=PW.pt h
def CF(g B:TEd):TEd:=λa M Q=>g a M λx M1=>∃c,x=.bl c/\if c=true then B a M1 Q else Q (.bl false) M1
def Co(g:TEd):TEd:=λa M Q=>g a M λx M1=>∃c,x=.bl c/\Q (.bl (!c)) M1
def dIf(t:TTd)(g B:TEd):TEd:=λa M Q=>t a M λc M1=>if c=true then g a M1 Q else B a M1 Q
def rM(r e:D->D->Option D)(g B tc:TEd):TEd:=λb M Q=>g b M λx M1=>B b M1 λy M2=>∃k,r (rdM M2 x) (rdM M2 y)=some (.bl k)/\if k=true then tc b M2 λz a=>∃w,e (rdM a y) (rdM a z)=some w/\Q w a else Q (.bl false) M2
theorem tG{K:E5}{M:DH}{H:Hp}(hr:HR K M H):∀{ds:List D}{a:List V},ao K M H ds a->ad3 (aN K M H) (ds.map (rdM M)) a
 |[],_,h=>by simp only[ao]at h;subst h;exact .nil
 |d::ds,_,h=>by
  simp only[ao]at h;obtain⟨v,g,rfl,b,e⟩:=h;exact .cons (b.rd hr) (tG hr e)
def dCB(r:List D->Option D)(t:TAd):TEd:=λb M Q=>t b M λa M1=>∃z,r (a.map (rdM M1))=some z/\Q z M1
theorem zN{K:E5}{r:List D->Option D}{t:TAd}:∀ σ H Q,up K (dCB r t) σ H Q->tCB (λxs H Q=>∃ds g M,HR K M H/\ad3 (aN K M H) ds xs/\r ds=some g/\∀w H',Ext M H M H'->HR K M H'->Rep K M H' g w->Q w H') (upA K t) σ H Q:=λσ H Q b=>b.el λn M R j o q k =>
 ⟨n,M,_,j,o,q,λds M1 u H1 ⟨z,s,h⟩ i a m=>⟨_,z,M1,a,tG a m,s,λw H' p e l=>k z M1 w H' h (i.trans p) e l⟩⟩
theorem bQ.v{f:u8}{r:List D->Option D}(h:bQ X f r):cy X f (λxs H Q=>∃ds a M,HR X.K M H/\ad3 (aN X.K M H) ds xs/\r ds=some a/\∀w H',Ext M H M H'->HR X.K M H'->Rep X.K M H' a w->Q w H') :=
 λb s l H xs j Q I g ⟨ds,a,M,i,m,e,k⟩=>h b s l H M xs j ds a Q I i g m e k
end
section
variable{X:Cx}
theorem bP.of{f:u8->u8->Sem u8}{b:R2}{r:D->D->Option D}(h:OpR X f b)
  (k:∀(H:Hp) (M:DH) (x y:V) (a g i:D) (Q:VK),HR X.K M H->aN X.K M H a x->aN X.K M H g y->r a g=some i->(∀w H',Ext M H M H'->HR X.K M H'->Rep X.K M H' i w->Q w H')->b x y H Q):bP X f r :=
 λm s o H M x y v u a g i Q I n j l p b e q=>h m s o H x y v u Q I j l (k H M x y a g i Q n p b e q)
theorem bQ.of{f:u8}{b:List V->Hp->VK->Prop}{r:List D->Option D}(h:cy X f b)
  (k:∀(H:Hp) (M:DH) (xs:List V) (ds:List D) (a:D) (Q:VK),HR X.K M H->ad3 (aN X.K M H) ds xs->r ds=some a->(∀w H',Ext M H M H'->HR X.K M H'->Rep X.K M H' a w->Q w H')->b xs H Q):bQ X f r :=
 λg s m H M xs l ds a Q I j i n e q=>h g s m H xs l Q I i (k H M xs ds a Q j n e q)
theorem gS{K:E5}{M:DH}{H:Hp}{i:Int}{v:V}(h:aN K M H (.int i) v):v=.int i:=by simpa[aN,Rep]using h
theorem mr{K:E5}{M:DH}{H:Hp}{i:Str}{v:V}(h:aN K M H (.str i) v):v=.str i:=by simpa[aN,Rep]using h
def iOp(f:Int->Int->Option D):D->D->Option D
 |.int a,.int b=>f a b
 |_,_=>none
theorem qL{f:Int->Int->Option D}{x y z:D}(h:iOp f x y=some z):∃a b,x=.int a/\y=.int b/\f a b=some z:=by
 cases x<;>first|cases h|skip
 rename_i a;cases y<;>first|cases h|skip
 rename_i b;exact⟨a,b,rfl,rfl,h⟩
noncomputable def bo:D->Bool
 |.non=>true|.bl _=>true|.int _=>true|.str _=>true|_=>false
def toV:D->V
 |.bl b=>.bl b|.int i=>.int i|.str x=>.str x|_=>.non
theorem pX{K:E5}{M:DH}{H:Hp}{d:D}(h:bo d=true):Rep K M H d (toV d):=by
 cases d<;>first|(simp[Rep,toV];done)|cases h
theorem sL{f:u8->u8->Sem u8}{C:Int->Int->Prop}[∀i j,Decidable (C i j)]{g:Int->Int->D}(hs:∀i j,bo (g i j)=true)(h:OpR X f (rI C λi j=>toV (g i j))):
  bP X f (iOp λi j=>if C i j then some (g i j)else none) :=
 bP.of h λH M x y t u s Q m p o e q=>by
  obtain⟨a,b,rfl,rfl,n⟩:=qL e;clear e;have e:=n
  by_cases l:C a b
  ·rw[if_pos l]at e;cases e;exact⟨a,b,gS p,gS o,l,q _ _ (Ext.refl _ _) m (pX (hs a b))⟩
  ·rw[if_neg l]at e;cases e
theorem l7{f:u8->u8->Sem u8}{g:Int->Int->D}(hs:∀i j,bo (g i j)=true)(h:OpR X f (rI0 λi j=>toV (g i j))):
  bP X f (iOp λi j=>some (g i j)) :=
 bP.of h λH M x y o p s Q m n l e q=>by
  obtain⟨a,b,rfl,rfl,e⟩:=qL e;cases e;exact⟨a,b,gS n,gS l,q _ _ (Ext.refl _ _) m (pX (hs a b))⟩
instance:∀i j,Decidable (mD i j):=λi j=>by unfold mD;exact inferInstance
instance:∀i j,Decidable (jQ i j):=λi j=>by unfold jQ;exact inferInstance
instance:∀i j,Decidable (qj i j):=λi j=>by unfold qj;exact inferInstance
theorem kc:bP X (X5 .Sub) (iOp λi j=>some (.int (i-j))):=l7 (λ_ _=>rfl) BO
theorem B0:bP X (X5 .Mult) (iOp λi j=>if jQ i j then some (.int (i*j))else none):=sL (λ_ _=>rfl) B4
theorem eM:bP X (X5 .FloorDiv) (iOp λi j=>if mD i j then some (.int (i / j))else none):=sL (λ_ _=>rfl) yT
theorem bc:bP X (X5 .Mod) (iOp λi j=>if 0<j then some (.int (i % j))else none):=sL (C:=λ_ j=>0<j) (λ_ _=>rfl) AN
theorem C9:bP X (X5 .Pow) (iOp λi j=>if qj i j then some (.int (i ^ j.toNat))else none):=sL (λ_ _=>rfl) AE
theorem yB:bP X (P2 .Lt) (iOp λi j=>some (.bl (decide (i<j)))):=l7 (λ_ _=>rfl) CJ
theorem ib:bP X (P2 .LtE) (iOp λi j=>some (.bl (decide (i<=j)))):=l7 (λ_ _=>rfl) CY
theorem Bz:bP X (P2 .Gt) (iOp λi j=>some (.bl (decide (j<i)))):=l7 (λ_ _=>rfl) CD
theorem ET:bP X (P2 .GtE) (iOp λi j=>some (.bl (decide (j<=i)))):=l7 (λ_ _=>rfl) Cc
theorem ao.at_{K:E5}{M:DH}{H:Hp}{ds:List D}{g:List V}{i:Int}{d:D}(h:ao K M H ds g)(e:atI ds i=some d):∃v,atI g i=some v/\Rep K M H d v:=by
 unfold atI at e ⊢;rw[<-h.length];cases q:ixN ds.length i with
 |none=>rw[q]at e;cases e
 |some j =>
  rw[q]at e;have l:ds[j]?=some d:=e;obtain⟨v,a,b⟩:=h.get l;exact⟨v,a,b⟩
def ixD:D->D->Option D
 |.tup a,.int i=>atI a i
 |.lst a,.int i=>atI a i
 |.scr a,.int i=>atI a i
 |.str z,.int i=>if z.length<=F9 then(atI z.cps.toList i).map λc=>.str ⟨#[c]⟩else none
 |_,_=>none
theorem az:IxR X (opV X.K ixD):=by
 intro b slice n s A H x y v u Q I rx ry h hs;obtain⟨G,p,J,M,t,B,o,e,k⟩:=h;cases G with
 |tup E =>
  cases p with
  |int i =>
   obtain⟨a,l,rfl,sq,m⟩:=B;obtain⟨w,j,g⟩:=m.at_ e;exact By b slice n s A H _ _ v u Q I rx ry ⟨a,l,i,w,rfl,gS o,sq,j,k w H (Ext.refl _ _) t g⟩ hs
  |_=>cases e
 |lst E =>
  cases p with
  |int i =>
   obtain⟨a,l,rfl,sq,m⟩:=B;obtain⟨w,j,g⟩:=m.at_ e;exact si b slice n s A H _ _ v u Q I rx ry ⟨a,l,i,w,rfl,gS o,SqL.of sq,j,k w H (Ext.refl _ _) t g⟩ hs
  |_=>cases e
 |scr E =>
  cases p with
  |int i =>
   obtain⟨a,l,rfl,sq,m⟩:=B;obtain⟨w,j,g⟩:=m.at_ e;exact si b slice n s A H _ _ v u Q I rx ry ⟨a,l,i,w,rfl,gS o,sq,j,k w H (Ext.refl _ _) t g⟩ hs
  |_=>cases e
 |str z =>
  cases p with
  |int i =>
   simp only[ixD]at e
   by_cases C:z.length<=F9
   ·rw[if_pos C]at e;cases q:atI z.cps.toList i with
    |none=>rw[q]at e;cases e
    |some c =>
     rw[q]at e;cases e;exact AV b slice n s A H _ _ v u Q I rx ry ⟨z,i,c,mr B,gS o,C,q,k _ H (Ext.refl _ _) t (by simp[Rep])⟩ hs
   ·rw[if_neg C]at e;cases e
  |_=>cases e
 |_=>cases e
noncomputable def mE:D->D->Option D
 |.int a,.int b=>some (.int (a+b))
 |.str a,.str b=>if a.length+b.length<=F9 then some (.str (a++b))else none
 |.lst a,.lst b=>if a.length+b.length<=F9 then some (.lst (a++b))else none
 |.tup a,.tup b=>if a.length+b.length<=F9 then some (.tup (a++b))else none
 |_,_=>none
theorem fj{K:E5}{M:DH}{H:Hp}{p:F4}{ds:List D}{b:List V}{Q:VK}(hr:HR K M H)(a:H p=none)(r:ao K M H ds b)(q:∀w H',Ext M H M H'->HR K M H'->Rep K M H' (.lst ds) w->Q w H'):Q (.ref p) (upd H p (.lst b)) :=
 q _ _ (Ext.new hr a) (hr.new a) (by simp only[Rep];exact⟨p,b,rfl,⟨aX,hr.fresh a⟩,r.ext (Ext.new hr a)⟩)
theorem nV{K:E5}{M:DH}{H:Hp}{p:F4}{ds:List D}{b:List V}{Q:VK}(hr:HR K M H)(a:H p=none)(r:ao K M H ds b)(q:∀w H',Ext M H M H'->HR K M H'->Rep K M H' (.tup ds) w->Q w H'):Q (.ref p) (upd H p (.tup b)) :=
 q _ _ (Ext.new hr a) (hr.new a) (by simp only[Rep];exact⟨p,b,rfl,.inl ⟨.inl aX,hr.fresh a⟩,r.ext (Ext.new hr a)⟩)
theorem aN.tup{K:E5}{M:DH}{H:Hp}{ds:List D}{v:V}(hr:HR K M H)(h:aN K M H (.tup ds) v):Rep K M H (.tup ds) v:=by
 obtain⟨a,b,rfl,sq,e⟩:=h;simp only[Rep];refine⟨a,b,rfl,?_,e⟩;rcases sq with r|k
 ·refine .inl ⟨r,?_⟩;cases q:M a with
  |none=>rfl
  |some o =>
   obtain⟨u,z,m⟩:=(hr a _ q).some;rcases r with r|⟨g,r⟩
   ·rw[z]at r;exact absurd (R1 r) (m _).1
   ·rw[z]at r;exact absurd (R1 r) ((m _).2 g)
 ·exact .inr (.inr k)
theorem xr{prog:K9}{w:P7}{A:M8}{E:u8->E9->Prop}{s:E9}{t b:F4}{ws:List u8}{Q:u8->E9->Prop}(u:al9 s.heap t ([]:List u8).toArray)(z:al9 s.heap b ws.toArray)
  (h:Q (.ref b) s):J0 (L4 prog w) A (X5 .Add (.ref t) (.ref b)) Q E s:=by
 obtain⟨⟨cls,C,l,B⟩,m,o,n,p⟩:=id u;obtain⟨⟨q,i,data2,j⟩,g,a,G,e⟩:=id z;simp only at o p a e;subst o p a e;exact concat_meets ⟨_,m,rfl⟩ ⟨_,g,rfl⟩ noFill_tuple_add seq_tuple_add PySem.F.slot_tuple_add PySem.F.entry_tuple_add (PySem.F.args_tuple_add_2 _ _)
   (tuple_addW0 t b ([]:List u8).toArray ws.toArray n G C i B j (by simp)) ⟨m,g,h⟩
theorem bz:bP X (X5 .Add) mE:=by
 intro j s n H M x y v u dx dy dz Q I hr rx ry r1 r2 e k;cases dx with
 |int a =>
  cases dy with
  |int b =>
   cases e;exact Bu j s n H x y v u Q I rx ry ⟨a,b,gS r1,gS r2,k _ H (Ext.refl _ _) hr (by simp[Rep])⟩
  |_=>cases e
 |str a =>
  cases dy with
  |str b =>
   simp only[mE]at e
   by_cases i:a.length+b.length<=F9
   ·rw[if_pos i]at e;cases e;exact rk j s n H x y v u Q I rx ry ⟨a,b,mr r1,mr r2,i,k _ H (Ext.refl _ _) hr (by simp[Rep])⟩
   ·rw[if_neg i]at e;cases e
  |_=>cases e
 |lst a =>
  cases dy with
  |lst b =>
   simp only[mE]at e
   by_cases i:a.length+b.length<=F9
   ·rw[if_pos i]at e;cases e;obtain⟨t,o,rfl,l,h⟩:=r1;obtain⟨m,z,rfl,q,g⟩:=r2;exact A4 j s n H _ _ v u Q I rx ry ⟨t,m,o,z,rfl,rfl,l,q,by rw[<-h.length,<-g.length];exact i,λp w=>fj hr w (h.append g) k⟩
   ·rw[if_neg i]at e;cases e
  |_=>cases e
 |tup a =>
  cases dy with
  |tup b =>
   simp only[mE]at e
   by_cases i:a.length+b.length<=F9
   ·rw[if_pos i]at e;cases e;have O:=aN.tup hr r1;have J:=aN.tup hr r2;obtain⟨t,o,rfl,l,h⟩:=r1;obtain⟨m,z,rfl,q,g⟩:=r2
    by_cases A:o=[]
    ·subst A;have P:a=[]:=by
      have:=h.length;cases a with
      |nil=>rfl
      |cons _ _=>simp at this
     subst P;cases rx;cases ry;obtain⟨N,G,L,_⟩:=I.tuple l;obtain⟨B,S,E,_⟩:=I.tuple q;cases G;exact xr L E ⟨.ref m,H,I,rfl,k _ H (Ext.refl _ _) hr J⟩
    ·refine zc j s n H _ _ v u Q I rx ry ⟨t,m,o,z,rfl,rfl,l,q,A,by rw[<-h.length,<-g.length];exact i,λR=>?_,λ_ p w=>nV hr w (h.append g) k⟩;subst R;have C:b=[]:=by
      have:=g.length;cases b with
      |nil=>rfl
      |cons _ _=>simp at this
     subst C;rw[V4]at k;exact k _ H (Ext.refl _ _) hr O
   ·rw[if_neg i]at e;cases e
  |_=>cases e
 |_=>cases e
mutual
def eqD:D->D->Bool
 |.non,.non=>true
 |.bl a,.bl b=>a==b
 |.bl a,.int b=>(if a then 1 else 0)==b
 |.int a,.bl b=>a==(if b then 1 else 0)
 |.int a,.int b=>a==b
 |.str a,.str b=>a==b
 |.tup a,.tup b=>cZ a b
 |.lst a,.lst b=>cZ a b
 |_,_=>false
def cZ:List D->List D->Bool
 |[],[]=>true
 |a::e,b::bs=>eqD a b&&cZ e bs
 |_,_=>false
end
mutual
def dLe:D->Nat->Bool
 |.tup _,0=>false
 |.tup a,n+1=>bJ a n
 |.lst _,0=>false
 |.lst a,n+1=>bJ a n
 |.scr _,_=>false
 |.emp,_=>false
 |.box _ _,_=>false
 |.ref _,_=>false
 |_,_=>true
def bJ:List D->Nat->Bool
 |[],_=>true
 |d::a,n=>dLe d n&&bJ a n
end
theorem eZ:∀{ds:List D}{n i:Nat}{d:D},bJ ds n=true->ds[i]?=some d->dLe d n=true
 |[],_,_,_,_,e=>by simp at e
 |d::ds,n,0,x,h,e=>by
  simp only[bJ,F8]at h;simp at e;subst e;exact h.1
 |d::ds,n,i+1,x,h,e=>by
  simp only[bJ,F8]at h;exact eZ h.2 (by simpa using e)
theorem dG:∀{ds:List D}{n:Nat},bJ ds n=true↔∀d∈ds,dLe d n=true
 |[],n=>by simp[bJ]
 |d::ds,n=>by simp[bJ,dG (ds:=ds)]
def eqN(ds e:List D)(j:Nat):Bool:=match ds[j]?,e[j]? with|some a,some b=>eqD a b|_,_=>false
theorem qw:∀{ds a:List D},cZ ds a=true->ds.length=a.length
 |[],[],_=>rfl
 |[],_::_,h=>by simp[cZ]at h
 |_::_,[],h=>by simp[cZ]at h
 |_::ds,_::a,h=>by
  simp only[cZ,F8]at h;simp[qw h.2]
theorem kZ:∀{ds e:List D},cZ ds e=((Q8 (min ds.length e.length)).all (eqN ds e)&&ds.length==e.length)
 |[],[]=>by simp[cZ]
 |[],_::_=>by simp[cZ]
 |_::_,[]=>by simp[cZ]
 |a::ds,b::e=>by
  have ih:=@kZ ds e;simp only[cZ,O0,Nat.add_min_add_right,List.range_succ_eq_map,V6,S6];have i:eqN (a::ds) (b::e) 0=eqD a b:=by simp[eqN]
  have g:(eqN (a::ds) (b::e))∘Nat.succ=eqN ds e:=by
   funext j;simp[eqN]
  rw[i,g,ih];have h:(ds.length+1==e.length+1)=(ds.length==e.length):=by
   rw[O2];simp
  rw[h,Bool.and_assoc]
theorem uF{ds a:List D}(h:ds.length=a.length):cZ ds a=(Q8 ds.length).all (eqN ds a):=by
 rw[kZ,<-h,Nat.min_self];simp
theorem Rep.r{K:E5}{M:DH}{H:Hp}{d:D}{v:V}(h:Rep K M H d v):aN K M H d v:=by
 cases d with
 |tup g=>simp only[Rep]at h;obtain⟨a,b,e,t,r⟩:=h;exact⟨a,b,e,t.sq,r⟩
 |lst g=>simp only[Rep]at h;obtain⟨a,b,e,t,r⟩:=h;exact⟨a,b,e,t.1,r⟩
 |scr g=>simp only[Rep]at h;obtain⟨a,b,e,t,r⟩:=h;exact⟨a,b,e,t.sq,r⟩
 |_=>exact h
theorem zC{i:List (F4×Obj)}{σ:St}{H:Hp}{s:E9}{a:F4}{l ws:List V}(I:Inv X i σ H s)(h:SqT X.K H a l)(h':H a=some (.lst ws)):False:=by
 obtain⟨j,r,⟨o,e,c,n,d⟩,_⟩:=I.tuple h;obtain⟨_,g,m,_,b⟩:=I.hok a _ h';rw[e]at b;cases b;exact absurd (show N3 "list"=N3 "tuple" from c) (by decide)
theorem vk{E:List (F4×Obj)}{σ:St}{H:Hp}{s:E9}(I:Inv X E σ H s){M M':DH}:∀(n:Nat) {d e:D}{v:V},dLe d n=true->dLe e n=true->aN X.K M H d v->aN X.K M' H e v->eqD d e=true:=by
  intro n
  induction n with
  | zero =>
    intro d e v hd he r1 h;cases d<;>first|(simp[dLe]at hd;done)|skip
    all_goals cases e<;>first|(simp[dLe]at he;done)|skip
    all_goals (simp only[aN,Rep]at r1 h;subst r1;first|(cases h;simp[eqD];done)|cases h)
  | succ n ih =>
    intro d e v hd he r1 h;have m:∀{o j:List D} {q:List V},bJ o n=true->bJ j n=true->ao X.K M H o q->ao X.K M' H j q->cZ o j=true:=by
      intro o
      induction o with
      | nil =>
        intro j q _ _ t u;simp only[ao]at t;subst t;cases j with
        |nil=>simp[cZ]
        |cons _ _=>simp[ao]at u
      | cons a o A =>
        intro j q w z t u;simp only[ao]at t;obtain⟨v,p,rfl,J,C⟩:=t;cases j with
        |nil=>simp[ao]at u
        | cons b j =>
          simp only[ao]at u;obtain⟨O,N,l,G,L⟩:=u;cases l;simp only[bJ,F8]at w z;simp only[cZ,F8];exact⟨ih w.1 z.1 J.r G.r,A w.2 z.2 C L⟩
    cases d with
    | tup o =>
      obtain⟨a,q,rfl,sq,B⟩:=r1;cases e with
      | tup j =>
        obtain⟨b,p,l,g,i⟩:=h;cases l;have:=I.tuple_inj sq g;subst this;simp only[eqD];exact m (by simpa[dLe]using hd) (by simpa[dLe]using he) B i
      | lst j =>
        obtain⟨b,p,l,g,i⟩:=h;cases l;exact(zC I sq g).elim
      |_=>first|(simp[dLe]at he;done)|(simp only[aN,Rep]at h;cases h)
    | lst o =>
      obtain⟨a,q,rfl,sq,B⟩:=r1;cases e with
      | lst j =>
        obtain⟨b,p,l,g,i⟩:=h;cases l;rw[sq]at g;cases g;simp only[eqD];exact m (by simpa[dLe]using hd) (by simpa[dLe]using he) B i
      | tup j =>
        obtain⟨b,p,l,g,i⟩:=h;cases l;exact(zC I g sq).elim
      |_=>first|(simp[dLe]at he;done)|(simp only[aN,Rep]at h;cases h)
    | _ =>
      first
      |(simp[dLe]at hd;done)
      | (cases e with
         |tup j=>(obtain⟨b,p,l,g,i⟩:=h;subst l;simp only[aN,Rep]at r1;cases r1)
         |lst j=>(obtain⟨b,p,l,g,i⟩:=h;subst l;simp only[aN,Rep]at r1;cases r1)
         |_=>first|(simp[dLe]at he;done)|(simp only[aN,Rep]at r1 h;subst r1;first|(cases h;simp[eqD];done)|cases h))
theorem aN.at{K:E5}{M:DH}{H:Hp}{d:D}{v:V}{u:u8}(r:aN K M H d v)(q:aM v u):match d with|.non=>u=.none|.bl b=>u=.bool b|.int i=>∃t,u=.int i t|.str x=>∃t,u=.str x t|_=>True:=by
 cases d<;>first|trivial|(simp only[aN,Rep]at r;subst r;exact q)
open PySem.SeqAt in
theorem lG{aa:List (F4×Obj)}{σ:St}{H:Hp}{s:E9}(I:Inv X aa σ H s){M M':DH}:∀(n:Nat) {A:M8}{d e:D}{v w:V}{R Q:u8},A.units+n<af9->dLe d n=true->dLe e n=true ->
  aN X.K M H d v->aN X.K M' H e w->aM v R->aM w Q->EqAt A s R Q (eqD d e)/\RcAt A s R Q (eqD d e)/\RcNeAt A s R Q (!(eqD d e)):=by
 intro n
 induction n with
 |zero =>
  intro A d e v w R Q hu hd he G z E B;have g:A.units<af9:=by lia
  cases d<;>first|(simp[dLe]at hd;done)|skip
  all_goals cases e<;>first|(simp[dLe]at he;done)|skip
  all_goals simp only[aN,Rep]at G z
  all_goals subst G
  all_goals subst z
  all_goals simp only[aM]at E B
  all_goals first|(obtain⟨t1,rfl⟩:=E)|subst E
  all_goals first|(obtain⟨t2,rfl⟩:=B)|subst B
  all_goals simp only[eqD]
  ·exact⟨EqAt.same _,RcAt.none_none,RcNeAt.none_none⟩
  ·exact⟨EqAt.none_bool _,RcAt.none_bool _,RcNeAt.none_bool _⟩
  ·exact⟨EqAt.none_int _ _,RcAt.none_int _ _,RcNeAt.none_int _ _⟩
  ·exact⟨EqAt.none_str _ _,RcAt.none_str _ _,RcNeAt.none_str _ _⟩
  ·exact⟨EqAt.bool_none _,RcAt.bool_none _,RcNeAt.bool_none _⟩
  ·exact⟨EqAt.bool_bool _ _,RcAt.bool_bool _ _,RcNeAt.bool_bool _ _⟩
  ·exact⟨EqAt.bool_int _ _ _,RcAt.bool_int _ _ _,RcNeAt.bool_int _ _ _⟩
  ·exact⟨EqAt.bool_str _ _ _,RcAt.bool_str _ _ _,RcNeAt.bool_str _ _ _⟩
  ·exact⟨EqAt.int_none _ _,RcAt.int_none _ _,RcNeAt.int_none _ _⟩
  ·exact⟨EqAt.int_bool _ _ _,RcAt.int_bool _ _ _,RcNeAt.int_bool _ _ _⟩
  ·exact⟨EqAt.int_int _ _ _ _,RcAt.int_int _ _ _ _,RcNeAt.int_int _ _ _ _⟩
  ·exact⟨EqAt.int_str _ _ _ _,RcAt.int_str _ _ _ _,RcNeAt.int_str _ _ _ _⟩
  ·exact⟨EqAt.str_none _ _,RcAt.str_none _ _,RcNeAt.str_none _ _⟩
  ·exact⟨EqAt.str_bool _ _ _,RcAt.str_bool _ _ _,RcNeAt.str_bool _ _ _⟩
  ·exact⟨EqAt.str_int _ _ _ _,RcAt.str_int _ _ _ _,RcNeAt.str_int _ _ _ _⟩
  ·exact⟨EqAt.str_str _ _ _ _,RcAt.str_str _ _ _ _,RcNeAt.str_str _ _ _ _⟩
 |succ n ih =>
  intro A d e v w R Q hu hd he G z E B;have g:A.units<af9:=by lia
  have a1:A.in1.units+n<af9:=by show A.units+1+n<af9;lia
  have item:∀{C o:List D} {vs J:List V} {us N:List u8},bJ C n=true->bJ o n=true->ao X.K M H C vs->ao X.K M' H o J->aw vs us->aw J N ->
    ∀j (h1:j<us.toArray.size) (h2:j<N.toArray.size),EqAt A.in1 s us.toArray[j] N.toArray[j] (eqN C o j):=by
   intro C o vs J us N d1 d2 h1 h2 h3 h4 j T Y;have l1:=h1.length;have l2:=h2.length;have l3:=h3.length;have l4:=h4.length;have j1:j<C.length:=by simp at T;lia
   have j2:j<o.length:=by simp at Y;lia
   obtain⟨v1,g1,p1⟩:=h1.get (i:=j) (d:=C[j]) (by simp[j1]);obtain⟨v2,g2,p2⟩:=h2.get (i:=j) (d:=o[j]) (by simp[j2]);obtain⟨R,k1,m1⟩:=h3.get g1;obtain⟨Q,k2,m2⟩:=h4.get g2;have e1:us.toArray[j]=R:=by
    simp at T;simpa[E4 T]using k1
   have e2:N.toArray[j]=Q:=by
    simp at Y;simpa[E4 Y]using k2
   rw[e1,e2];have e3:eqN C o j=eqD C[j] o[j]:=by simp[eqN,j1,j2]
   rw[e3];exact(ih a1 (eZ d1 (i:=j) (by simp[j1])) (eZ d2 (i:=j) (by simp[j2])) p1.r p2.r m1 m2).1
  have P:∀{a b:F4},v=.ref a->w=.ref b->RcAt A s (.ref a) (.ref b) (eqD d e)->EqAt A s (.ref a) (.ref b) (eqD d e):=by
   intro a b ea eb S
   by_cases a0:a=b
   ·subst a0;subst ea;subst eb;rw[vk I (n+1) hd he G z];exact EqAt.same _
   ·exact EqAt.of_refs a0 S
  cases d with
  |tup C =>
   obtain⟨a,vs,rfl,sq,rl⟩:=id G;cases E;obtain⟨O,rv,pt,_⟩:=I.tuple sq;have U:bJ C n=true:=by simpa[dLe]using hd
   cases e with
   |tup o =>
    obtain⟨b,J,rfl,l,p⟩:=id z;cases B;obtain⟨m,u,h,_⟩:=I.tuple l;have Z:bJ o n=true:=by simpa[dLe]using he
    have it:=item U Z rl p rv u;have t1:=RcAt.tuples (e:=eqN C o) pt h g it;have t2:=RcNeAt.tuples (e:=eqN C o) pt h g it;rw[F1,F1,<-rv.length,<-u.length,<-rl.length,<-p.length,<-kZ]at t1 t2;have S:RcAt A s (.ref a) (.ref b) (eqD (.tup C) (.tup o)):=by simpa only[eqD]using t1
    exact⟨P rfl rfl S,S,by simpa only[eqD]using t2⟩
   |lst o =>
    obtain⟨b,J,rfl,l,p⟩:=id z;cases B;obtain⟨m,u,h,_⟩:=I.list (SqL.of l);simp only[eqD];exact⟨EqAt.tuple_list pt h.isList g,RcAt.tuple_list pt h.isList g,RcNeAt.tuple_list pt h.isList g⟩
   |non=>obtain rfl:=z.at B;simp only[eqD];exact⟨EqAt.tuple_none pt g,RcAt.tuple_none pt g,RcNeAt.tuple_none pt g⟩
   |bl b=>obtain rfl:=z.at B;simp only[eqD];exact⟨EqAt.tuple_bool _ pt g,RcAt.tuple_bool _ pt g,RcNeAt.tuple_bool _ pt g⟩
   |int b=>obtain⟨t,rfl⟩:=z.at B;simp only[eqD];exact⟨EqAt.tuple_int _ _ pt g,RcAt.tuple_int _ _ pt g,RcNeAt.tuple_int _ _ pt g⟩
   |str b=>obtain⟨t,rfl⟩:=z.at B;simp only[eqD];exact⟨EqAt.tuple_str _ _ pt g,RcAt.tuple_str _ _ pt g,RcNeAt.tuple_str _ _ pt g⟩
   |_=>simp[dLe]at he
  |lst C =>
   obtain⟨a,vs,rfl,sq,rl⟩:=id G;cases E;obtain⟨O,rv,pt,_⟩:=I.list (SqL.of sq);have U:bJ C n=true:=by simpa[dLe]using hd
   cases e with
   |lst o =>
    obtain⟨b,J,rfl,l,p⟩:=id z;cases B;obtain⟨m,u,h,_⟩:=I.list (SqL.of l);have Z:bJ o n=true:=by simpa[dLe]using he
    have hs:O.toArray.size=C.length/\m.toArray.size=o.length:=by rw[F1,F1,<-rv.length,<-u.length,<-rl.length,<-p.length];exact⟨rfl,rfl⟩
    have S:RcAt A s (.ref a) (.ref b) (eqD (.lst C) (.lst o))/\RcNeAt A s (.ref a) (.ref b) (!(eqD (.lst C) (.lst o))):=by
     by_cases hl:C.length=o.length
     ·have L:O.toArray.size=m.toArray.size:=by rw[hs.1,hs.2];exact hl
      have it:=item U Z rl p rv u;have t1:=RcAt.lists (e:=eqN C o) pt.isList h.isList L g it;have t2:=RcNeAt.lists (e:=eqN C o) pt.isList h.isList L g it;rw[hs.1,<-uF hl]at t1 t2;exact⟨by simpa only[eqD]using t1,by simpa only[eqD]using t2⟩
     ·have L:(O.toArray.size != m.toArray.size)=true:=by rw[hs.1,hs.2];simpa using hl
      have e0:eqD (.lst C) (.lst o)=false:=by
       simp only[eqD];cases q:cZ C o with
       |false=>rfl
       |true=>exact absurd (qw q) hl
      rw[e0];exact⟨RcAt.lists_lengths pt.isList h.isList L g,RcNeAt.lists_lengths pt.isList h.isList L g⟩
    exact⟨P rfl rfl S.1,S⟩
   |tup o =>
    obtain⟨b,J,rfl,l,p⟩:=id z;cases B;obtain⟨m,u,h,_⟩:=I.tuple l;simp only[eqD];exact⟨EqAt.list_tuple pt.isList h g,RcAt.list_tuple pt.isList h g,RcNeAt.list_tuple pt.isList h g⟩
   |non=>obtain rfl:=z.at B;simp only[eqD];exact⟨EqAt.list_none pt.isList g,RcAt.list_none pt.isList g,RcNeAt.list_none pt.isList g⟩
   |bl b=>obtain rfl:=z.at B;simp only[eqD];exact⟨EqAt.list_bool _ pt.isList g,RcAt.list_bool _ pt.isList g,RcNeAt.list_bool _ pt.isList g⟩
   |int b=>obtain⟨t,rfl⟩:=z.at B;simp only[eqD];exact⟨EqAt.list_int _ _ pt.isList g,RcAt.list_int _ _ pt.isList g,RcNeAt.list_int _ _ pt.isList g⟩
   |str b=>obtain⟨t,rfl⟩:=z.at B;simp only[eqD];exact⟨EqAt.list_str _ _ pt.isList g,RcAt.list_str _ _ pt.isList g,RcNeAt.list_str _ _ pt.isList g⟩
   |_=>simp[dLe]at he
  |non =>
   cases e with
   |tup o =>
    obtain⟨b,J,rfl,l,p⟩:=id z;cases B;obtain⟨m,u,h,_⟩:=I.tuple l;obtain rfl:=G.at E;simp only[eqD];exact⟨EqAt.none_tuple h g,RcAt.none_tuple h g,RcNeAt.none_tuple h g⟩
   |lst o =>
    obtain⟨b,J,rfl,l,p⟩:=id z;cases B;obtain⟨m,u,h,_⟩:=I.list (SqL.of l);obtain rfl:=G.at E;simp only[eqD];exact⟨EqAt.none_list h.isList g,RcAt.none_list h.isList g,RcNeAt.none_list h.isList g⟩
   |_=>first|(simp[dLe]at he;done)|exact ih (A:=A) (by lia) (by simp[dLe]) (by simp[dLe]) G z E B
  |bl a =>
   cases e with
   |tup o =>
    obtain⟨b,J,rfl,l,p⟩:=id z;cases B;obtain⟨m,u,h,_⟩:=I.tuple l;obtain rfl:=G.at E;simp only[eqD];exact⟨EqAt.bool_tuple _ h g,RcAt.bool_tuple _ h g,RcNeAt.bool_tuple _ h g⟩
   |lst o =>
    obtain⟨b,J,rfl,l,p⟩:=id z;cases B;obtain⟨m,u,h,_⟩:=I.list (SqL.of l);obtain rfl:=G.at E;simp only[eqD];exact⟨EqAt.bool_list _ h.isList g,RcAt.bool_list _ h.isList g,RcNeAt.bool_list _ h.isList g⟩
   |_=>first|(simp[dLe]at he;done)|exact ih (A:=A) (by lia) (by simp[dLe]) (by simp[dLe]) G z E B
  |int a =>
   cases e with
   |tup o =>
    obtain⟨b,J,rfl,l,p⟩:=id z;cases B;obtain⟨m,u,h,_⟩:=I.tuple l;obtain⟨t,rfl⟩:=G.at E;simp only[eqD];exact⟨EqAt.int_tuple _ _ h g,RcAt.int_tuple _ _ h g,RcNeAt.int_tuple _ _ h g⟩
   |lst o =>
    obtain⟨b,J,rfl,l,p⟩:=id z;cases B;obtain⟨m,u,h,_⟩:=I.list (SqL.of l);obtain⟨t,rfl⟩:=G.at E;simp only[eqD];exact⟨EqAt.int_list _ _ h.isList g,RcAt.int_list _ _ h.isList g,RcNeAt.int_list _ _ h.isList g⟩
   |_=>first|(simp[dLe]at he;done)|exact ih (A:=A) (by lia) (by simp[dLe]) (by simp[dLe]) G z E B
  |str a =>
   cases e with
   |tup o =>
    obtain⟨b,J,rfl,l,p⟩:=id z;cases B;obtain⟨m,u,h,_⟩:=I.tuple l;obtain⟨t,rfl⟩:=G.at E;simp only[eqD];exact⟨EqAt.str_tuple _ _ h g,RcAt.str_tuple _ _ h g,RcNeAt.str_tuple _ _ h g⟩
   |lst o =>
    obtain⟨b,J,rfl,l,p⟩:=id z;cases B;obtain⟨m,u,h,_⟩:=I.list (SqL.of l);obtain⟨t,rfl⟩:=G.at E;simp only[eqD];exact⟨EqAt.str_list _ _ h.isList g,RcAt.str_list _ _ h.isList g,RcNeAt.str_list _ _ h.isList g⟩
   |_=>first|(simp[dLe]at he;done)|exact ih (A:=A) (by lia) (by simp[dLe]) (by simp[dLe]) G z E B
  |_=>simp[dLe]at hd
end
section
variable{X:Cx}{a b c e:N1}{es:List N1}{te Y G:TEd}{pos:Pos}{st:Z7}{rest:List Z7}{t u:TSd}
def v8:TSd:=λE a M=>E.nx a M
def yR(t u:TSd):TSd:=λE a M=>t { E with nx:=u E } a M
def BJ(te:TEd):TSd:=λE a M=>te a M E.rt
def zR(te:TEd):TSd:=λE a M=>te a M λ_ M1=>E.nx a M1
def B6(c:TTd)(t u:TSd):TSd:=λE a M=>c a M λb M1=>if b=true then t E a M1 else u E a M1
def yu(i:Nat)(te:TEd):TSd:=λE a M=>te a M λd M1=>E.nx (a.set i (some d)) M1
def v9(i:Nat)(t:TSd):TSd:=λE e M=>∃a b,e[i]?=some (some (.ref a))/\M a=some (.lst b)/\t E (e.set i (some (.lst b))) (mK M a)
abbrev GD:=D->DE->Option DE
def PGd(X:Cx)(B:N1)(g:GD):Prop:=∃i:TG,PG X B i/\∀(d:D) (v:V) (e:St) (h b:DE) (M:DH) (H:Hp) (Q:St->Hp->Prop),SR X.K M H e h->HR X.K M H->Rep X.K M H d v->g d h=some b->(∀ a,SR X.K M H a b->Q a H)->i v e H Q
def fo(i:Nat):GD:=λd a=>some (a.set i (some d))
theorem bv{i:Nat}{x:Str}(a:X.N.Nodup)(hi:X.N[i]?=some x)(g:Loc X.env.scope x)(j:X.fn x=true∨X.env.scope.names.lookup x=some .local:=by first|exact .inl rfl|exact .inr rfl|assumption):PGd X (.Name x pos) (fo i) :=
 ⟨pJ i,tX a hi g j,λd v n o b M H Q h m l e k=>by cases e;exact k _ (h.set i l)⟩
abbrev GDs:=List D->DE->Option DE
def xY(X:Cx)(e:List N1)(g:GDs):Prop:=∃m:TGs,PGs X e m/\∀(i:List D) (j:List V) (h:St) (l a:DE) (M:DH) (H:Hp) (Q:St->Hp->Prop),SR X.K M H h l->HR X.K M H->ao X.K M H i j->g i l=some a->(∀ b,SR X.K M H b a->Q b H)->m j h H Q
def mS:GDs:=λa b=>match a with|[]=>some b|_=>none
def gQ(g:GD)(b:GDs):GDs:=λe h=>match e with|[]=>none|d::r=>(g d h).bind λa=>b r a
def kh(g:GDs)(n:Nat):GD:=λd b=>match d with|.tup a=>if a.length=n then g a b else none|_=>none
theorem qz:xY X [] mS:=⟨AA,sg,λg l j m h M H Q b i a e k=>by
 cases g with
 |nil=>simp only[ao]at a;subst a;cases e;exact⟨rfl,k _ b⟩
 |cons _ _=>cases e⟩
theorem eG{B:N1}{a:List N1}{g:GD}{o:GDs}(I:PGd X B g)(C:xY X a o)
  (hs:(W5 (B::a) X.env).map (·.2)=an1 B X.env::(W5 a X.env).map (·.2):=by rfl):xY X (B::a) (gQ g o):=by
 obtain⟨s,z,J⟩:=I;obtain⟨N,G,L⟩:=C;refine⟨xN s N,o9 z G hs,λt O A n j M H Q u p m e k=>?_⟩;cases t with
 |nil=>cases e
 |cons d r =>
  simp only[ao]at m;obtain⟨v,l,rfl,w,E⟩:=m;simp only[gQ]at e;cases q:g d n with
  |none=>rw[q]at e;cases e
  |some b =>
   rw[q]at e;exact⟨v,l,rfl,J d v A n b M H _ u p w q λi h=>L r l i b j M H Q h p E e k⟩
theorem pI{b:List N1}{z:Nat}{g:GDs}{n:Nat}(B:X.calm=true)(h:xY X b g)(hn:(W5 b X.env).length=n:=by rfl)(j:(W5 b X.env).findIdx? (·.1)=none:=by rfl):PGd X (.Tuple b z pos) (kh g n):=by
 obtain⟨u,C,s⟩:=h;refine⟨BZ X.K n u,vP B C hn j,λd v w E l M H Q A t q e k=>?_⟩;cases d with
 |tup m =>
  simp only[kh]at e
  by_cases i:m.length=n
  ·rw[if_pos i]at e;simp only[Rep]at q;obtain⟨a,o,rfl,Y,p⟩:=q;exact⟨a,o,rfl,Y.sq,by rw[<-p.length];exact i,s m o w E l M H Q A t p e k⟩
  ·rw[if_neg i]at e;cases e
 |_=>cases e
def Ea(te:TEd)(g:GD):TSd:=λE b M=>te b M λd M1=>∃ a,g d b=some a/\E.nx a M1
abbrev TId:=DE->DH->(List D->DH->Prop)->Prop
def ItD(K:E5)(J:It)(ds:List D)(M1:DH)(H1:Hp):Prop:=∀M2 H2,Ext M1 H1 M2 H2->HR K M2 H2->∀i,(∀d,ds[i]?=some d->J.go i H2/\∀x H',J.yld i H2 x H'->Ext M2 H2 M2 H'/\HR K M2 H'/\Rep K M2 H' d x)/\(ds.length<=i->J.stop i H2)
def upI(K:E5)(h:TId):TI:=λg H R=>∃(b:DE) (M:DH) (e:List D->DH->Prop),SR K M H g b/\HR K M H/\h b M e/\∀a M1 J H1,e a M1->Ext M H M1 H1->HR K M1 H1->ItD K J a M1 H1->R J H1
theorem upI.el{K:E5}{t:TId}{σ:St}{H:Hp}{Q:It->Hp->Prop}{P:Prop}(h:upI K t σ H Q)(f:∀(e:DE) (M:DH) (R:List D->DH->Prop),SR K M H σ e->HR K M H->t e M R->(∀ds M1 J H1,R ds M1->Ext M H M1 H1->HR K M1 H1->ItD K J ds M1 H1->Q J H1)->P):P:=by
 obtain⟨j,i,g,a,b,c,d⟩:=h;exact f j i g a b c d
def PId(X:Cx)(B z:N1)(a:TId):Prop:=PI X B z (upI X.K a)
theorem PI.conv{B z:N1}{w a:TI}(h:PI X B z w)(k:∀ σ H R,a σ H R->w σ H R):PI X B z a:=λp s σ H R I q=>h p s σ H R I (k σ H R q)
variable{B z:N1}
def rJ(lo:Int)(n:Nat):List D:=(Q8 n).map λ(k:Nat)=>.int (lo+(k:Int))
theorem c8{lo:Int}{n i:Nat}{d:D}(h:(rJ lo n)[i]?=some d):i<n/\d=.int (lo+i):=by
 unfold rJ at h;rw[F7]at h
 by_cases a:i<n
 ·rw[List.getElem?_range a]at h;cases h;exact⟨a,rfl⟩
 ·rw[S0 (by simp;omega)]at h;cases h
theorem yi{K:E5}{lo:Int}{n:Nat}{M1:DH}{H1:Hp}:ItD K (Itr lo n) (rJ lo n) M1 H1:=λM2 H2 j a i=>⟨λd h=>by
  obtain⟨g,rfl⟩:=c8 h;refine⟨g,λx H' ⟨b,y⟩=>?_⟩;subst b;subst y;exact⟨Ext.refl _ _,a,by simp[Rep]⟩,λe=>by
  show n<=i;simpa[rJ]using e⟩
def wH(Y:TAd):TId:=λb M R=>Y b M λa M1=>∃j:Int,a=[.int j]/\-(2 ^ 62)<=j/\j<2 ^ 62/\R (rJ 0 j.toNat) M1
def cB(g:GD)(G:TSd)(E:dH):List D->DE->DH->Prop
 |[],b,M=>E.nx b M
 |d::e,b,M=>∃ a,g d b=some a/\G { E with nx:=cB g G E e,ct:=cB g G E e,bk:=E.nx } a M
def BA(b:TId)(g:GD)(G:TSd):TSd:=λE a M=>b a M λe M1=>cB g G E e a M1
def wI(c:TTd)(G:TSd):TSd:=λE e M=>∃W:Nat->DE->DH->Prop,(∃m,W m e M)/\∀m e M,W m e M->c e M λb M1=>if b=true then G { E with nx:=λa M'=>∃g,g<m/\W g a M',ct:=λa M'=>∃g,g<m/\W g a M',bk:=E.nx } e M1 else E.nx e M1
end
def sT:D->Prop
 |.tup a=>a.length<=F9
 |.lst a=>a.length<=F9
 |.scr a=>a.length<=F9
 |_=>True
section
variable{X:Cx}{a b c e:N1}{es:List N1}{te ta tb:TEd}{pos:Pos}{tg iter elt:N1}
theorem aN.len{K:E5}{i:List (F4×Obj)}{σ:St}{H:Hp}{s:E9}{M:DH}{d:D}{v:V}(I:Inv X i σ H s)(h:Rep X.K M H d v):sT d:=by
 cases d with
 |tup g =>
  simp only[Rep]at h;obtain⟨a,b,e,t,r⟩:=h;obtain⟨_,_,_,z⟩:=I.tuple t.sq;simp only[sT];rw[r.length];exact z
 |lst g =>
  simp only[Rep]at h;obtain⟨a,b,e,t,r⟩:=h;obtain⟨_,_,_,z⟩:=I.list (SqL.of t.1);simp only[sT];rw[r.length];exact z
 |scr g =>
  simp only[Rep]at h;obtain⟨a,b,e,t,r⟩:=h;obtain⟨_,_,_,z⟩:=I.list t.sq;simp only[sT];rw[r.length];exact z
 |_=>trivial
noncomputable def cb:List Bool->DE->DE
 |true::b,v::a=>v::cb b a
 |false::b,_::a=>none::cb b a
 |[],_::a=>none::cb [] a
 |_,[]=>[]
def qo(ms:List Bool)(k:Nat)(a:DE):DE:=cb ms a++F5 k none
theorem cA:∀(ms:List Bool) (σ:DE),(cb ms σ).length=σ.length
 |true::ms,v::σ=>by simp[cb,cA ms σ]
 |false::ms,_::σ=>by simp[cb,cA ms σ]
 |[],_::σ=>by simp[cb,cA [] σ]
 |[],[]=>by simp[cb]
 |true::_,[]=>by simp[cb]
 |false::_,[]=>by simp[cb]
theorem gX:∀{ms:List Bool}{σ:DE}{i:Nat}{v:D},(cb ms σ)[i]?=some (some v)->ms[i]?=some true/\σ[i]?=some (some v)
 |true::ms,v::σ,0,x,h=>by simpa[cb]using h
 |true::ms,v::σ,i+1,x,h=>by
  have:=gX (ms:=ms) (σ:=σ) (i:=i) (v:=x) (by simpa[cb]using h);simpa using this
 |false::ms,_::σ,0,x,h=>by simp[cb]at h
 |false::ms,_::σ,i+1,x,h=>by
  have:=gX (ms:=ms) (σ:=σ) (i:=i) (v:=x) (by simpa[cb]using h);simpa using this
 |[],_::σ,0,x,h=>by simp[cb]at h
 |[],_::σ,i+1,x,h=>by
  have:=gX (ms:=[]) (σ:=σ) (i:=i) (v:=x) (by simpa[cb]using h);simpa using this
 |[],[],_,_,h=>by simp[cb]at h
 |true::_,[],_,_,h=>by simp[cb]at h
 |false::_,[],_,_,h=>by simp[cb]at h
theorem iU:∀{ms:List Bool}{σ:St}{i:Nat}{v:V},ms[i]?=some true->σ[i]?=some (some v)->(bD ms σ)[i]?=some (some v)
 |true::ms,v::σ,0,x,h,a=>by simpa[bD]using a
 |true::ms,v::σ,i+1,x,h,a=>by
  have:=iU (ms:=ms) (σ:=σ) (i:=i) (v:=x) (by simpa using h) (by simpa using a);simpa[bD]using this
 |false::ms,_::σ,0,x,h,a=>by simp at h
 |false::ms,_::σ,i+1,x,h,a=>by
  have:=iU (ms:=ms) (σ:=σ) (i:=i) (v:=x) (by simpa using h) (by simpa using a);simpa[bD]using this
 |[],_,_,_,h,_=>by simp at h
 |_::_,[],_,_,_,h=>by simp at h
theorem SR.comp{K:E5}{M:DH}{H:Hp}{σ:St}{a:DE}(ms:List Bool)(k:Nat)(h:SR K M H σ a):SR K M H (iu ms k σ) (qo ms k a):=by
 refine⟨by simp[iu,qo,bE,cA,h.1],λi d q=>?_⟩;unfold qo at q
 by_cases b:i<(cb ms a).length
 ·rw[Q6 b]at q;obtain⟨m,e⟩:=gX q;obtain⟨v,g,j⟩:=h.2 i d e;refine⟨v,?_,j⟩;have:=iU m g;unfold iu;rw[Q6 (by rw[bE,h.1,<-cA ms];exact b)];exact this
 ·rw[U1 (by lia),Z4]at q
  split at q<;>cases q
def cz(g:GD)(tc:TTd)(te:TEd):List D->DE->DH->List D->(List D->DH->Prop)->Prop
 |[],_,M,e,Q=>Q e M
 |d::h,i,M,e,Q=>∃ a,g d i=some a/\tc a M λb M1=>if b=true then te a M1 λy M2=>cz g tc te h a M2 (e++[y]) Q else cz g tc te h a M1 e Q
def dLc(ms:List Bool)(k:Nat)(h:TId)(g:GD)(tc:TTd)(te:TEd):TEd:=λb M Q=>h b M λa M1=>a.length<=F9/\cz g tc te a (qo ms k b) M1 [] λe M2=>Q (.lst e) M2
def Dn(X:Cx)(G:List N1)(t:TTd):Prop:=PIf X G (upT X.K t)
def xV:TTd:=λ_ M Q=>Q true M
abbrev tT(K:E5)(g:GD)(i:TG):Prop:=∀(d:D) (v:V) (e:St) (h b:DE) (M:DH) (H:Hp) (Q:St->Hp->Prop),SR K M H e h->HR K M H->Rep K M H d v->g d h=some b->(∀ a,SR K M H a b->Q a H)->i v e H Q
theorem tV{K:E5}{g:GD}{tc:TTd}{te:TEd}{S:TG}(kg:tT K g S){J:It}{ds:List D}{M1:DH}{H1:Hp}(it:ItD K J ds M1 H1)(M:HR K M1 H1)(hz:ds.length<=F9){R:List D->DH->Prop}{σ:St}{P:DE}(U:SR K M1 H1 σ P)(q:cz g tc te ds P M1 [] R):
  ∃(W:Nat->Nat->List V->St->Hp->Prop) (Z:List V->St->Hp->Prop),(∃m,W 0 m [] σ H1)/\oj J S (upT K tc) (pQ (up K te)) W Z/\∀o n H',Z o n H'->∃M' a,Ext M1 H1 M' H'/\HR K M' H'/\ao K M' H' a o/\R a M':=by
 refine⟨λi m o n H'=>∃ u M' a,m=ds.length-i/\i<=ds.length/\Ext M1 H1 M' H'/\HR K M' H'/\SR K M' H' n u/\ao K M' H' a o/\a.length<=i/\cz g tc te (ds.drop i) u M' a R,_,
  ⟨ds.length,_,M1,[],by simp,P1 _,Ext.refl _ _,M,U,ao.nil,by simp,q⟩,?_,λ_ _ _ z=>z⟩
 rintro i m o G H2 ⟨N,M2,a,rfl,a1,E,p,L,B,la,s⟩;have hl:o.length<=F9:=by rw[<-B.length];lia
 refine⟨hl,?_⟩;obtain⟨X,stop⟩:=it M2 H2 E p i
 by_cases j:i<ds.length
 ·have hd:ds[i]?=some ds[i]:=by simp[j]
  obtain⟨T,y1⟩:=X _ hd;rw[X0 j]at s;simp only[cz]at s;obtain⟨e,eg,f3⟩:=s;refine .inr ⟨T,λx H' hy=>?_⟩;obtain⟨A,w,rx⟩:=y1 x H' hy;refine kg _ x G N e M2 H' _ (L.ext A) w rx eg λa0 h=>?_;refine⟨e,M2,_,h,w,f3,λb Q H4 C l t=>?_⟩;cases b with
  |true =>
   simp only[if_true]at C ⊢;refine⟨e,Q,_,h.ext l,t,C,λy Y v5 H5 q5 H O I=>?_⟩;refine⟨ds.length-(i+1),by lia,e,Y,a++[y],rfl,j,((E.trans A).trans l).trans H,O,(h.ext l).ext H,(((B.ext A).ext l).ext H).append (ao.cons I ao.nil),by simp;lia,q5⟩
  |false =>
   simp only[F0,if_false]at C ⊢;exact⟨ds.length-(i+1),by lia,e,Q,a,rfl,j,(E.trans A).trans l,t,h.ext l,(B.ext A).ext l,by lia,C⟩
 ·rw[ad7 (by lia)]at s;exact .inl ⟨stop (by lia),M2,a,E,p,B,s⟩
theorem sG{K:E5}{l:TId}{g:GD}{tc:TTd}{te:TEd}{m:TG}{ms:List Bool}{h:Nat}(B:tT K g m):
  ∀ σ H Q,up K (dLc ms h l g tc te) σ H Q->tLc ms h (upI K l) m (upT K tc) (up K te) σ H Q:=by
 rintro σ H Q ⟨G,M,R,j,L,q,k⟩;refine⟨G,M,_,j,L,q,λP M1 J H1 ⟨s,o⟩ i e E=>?_⟩;obtain⟨W,Z,C,u,O⟩:=tV B E e s ((j.ext i).comp ms h) o;refine⟨W,Z,C,u,λA I H' p z b=>?_⟩;obtain⟨M',n,t,a,w,N⟩:=O _ _ _ z;refine k _ M' _ _ N ((i.trans t).trans (Ext.new a b)) (a.new b) ?_;simp only[Rep];exact⟨p,A,rfl,⟨aX,a.fresh b⟩,w.ext (Ext.new a b)⟩
variable{B:af7}{Y:List (Str×F4)}{ms:List Bool}{ar:List Str}{G:List N1}
def PGa(X:Cx)(B:af7)(Y:List (Str×F4))(ar:List Str)(tg:N1)(g:GD):Prop:=∃a:TG,(∀C s H b,PG (aS X B Y (X.N++ar) C s H b) tg a)/\tT X.K g a
theorem aJ{i:Nat}{x:Str}{pos:Pos}(b:(X.N++ar).Nodup)(hi:(X.N++ar)[i]?=some x)(a:(relabel B X.env).names.lookup x=some .local):PGa X B Y ar (.Name x pos) (fo i) :=
 ⟨pJ i,λC s H m=>tX b hi (.inl a) (.inr a),λd v n o g M H Q h l j e k=>by cases e;exact k _ (h.set i j)⟩
end
abbrev SpD:=List D->DH->(D->DH->Prop)->Prop
def spD(K:E5)(n:Nat)(S:SpD):Sp:=λb H Q _=>∃(a:List D) (M:DH) (R:D->DH->Prop),a.length=n/\ao K M H a b/\HR K M H/\S a M R/\∀d M' v H',R d M'->Ext M H M' H'->HR K M' H'->Rep K M' H' d v->Q v H'
theorem yb{K:E5}{n:Nat}{S:SpD}{a:List V}{H:Hp}{Q:VK}{E:XK}(h:spD K n S a H Q E):a.length=n:=by
 obtain⟨e,M,R,b,r,_⟩:=h;rw[<-r.length];exact b
def fu(N:List Str)(ds:List D):DE:=ds.map some++F5 (N.length-ds.length) none
theorem qt{K:E5}{M:DH}{H:Hp}{N:List Str}:∀{ds:List D}{a:List V},ao K M H ds a->SR K M H (fL N a) (fu N ds):=by
 intro ds a h;have g:=h.length;refine⟨by simp[fL,fu,g],λi d q=>?_⟩;unfold fu at q
 by_cases b:i<ds.length
 ·rw[Q6 (by simpa using b),F7]at q;cases e:ds[i]? with
  |none=>rw[e]at q;cases q
  |some m =>
   rw[e]at q;cases q;obtain⟨v,l,j⟩:=h.get e;refine⟨v,?_,j⟩;unfold fL;rw[Q6 (by simp;lia),F7,l];rfl
 ·rw[U1 (by simpa using b),Z4]at q
  split at q<;>cases q
section
variable{P:K9}{w:P7}{K:E5}{p:Str->Option u8}{base:K3}{f:F4}{g:K4}
theorem Fun.okD{x b:Str}{st:Z7}{f:F4}{g:K4}{N ps:List Str}{k n:Nat}{S:SpD}(F:Fun K x b st f g)(hn:ps.length=n)(G:av N ps (ai st))
  (j:∀ (e:u8) (A:M8) (a:List Env) (s:E9) (H:Hp) (E:XK),cc k (A.deeper (ac6 b (ai st) s.heap.objs.size f e)) →
   ∃t:TSd,yj (ja CX0 P w K p base N b (ai st) f e A a s H E).nox (cm st) t/\∀ds M R,ds.length=n->S ds M R->t { nx:=λ_ M'=>R .non M',rt:=R } (fu N ds) M):aP P w K p base CX0 (k+1) f g ps (spD K n S):=by
 refine F.ok G (λT H Q E h=>by rw[hn];exact yb h) (λe A a s H T Q E L h=>?_);obtain⟨t,z,C⟩:=j e A a s H E L;obtain⟨ds,M,R,O,r,o,q,u⟩:=h;refine⟨_,z,fu N ds,M,_,qt r,o,C ds M R O q,⟨λB M' J H' l m i _=>u .non M' .non H' l m i (by simp[Rep]),λ_ _ _ _ l=>T9 l,λ_ _ _ _ l=>T9 l,λd M' v H' l m i I=>u d M' v H' l m i I⟩⟩
end
section
variable{X:Cx}{a b c e:N1}{g:List N1}{te y z:TEd}{t:TAd}{pos:Pos}
def nH(n:Nat)(S:SpD)(t:TAd):TEd:=λb M Q=>t b M λa M1=>a.length=n/\S a M1 Q
theorem Ar{k:Nat}{f:F4}{j:K4}{ps:List Str}{n:Nat}{S:SpD}{x:Str}{p:Pos}(F:aP X.prog X.w X.K X.mg X.base CX0 k f j ps (spD X.K n S))(hr:cc k X.A)(hg:Gl X x)(u:X.mg x=some (.ref f))(G:U7 X.K (.ref f)=true)(o:cE X.K j ps [])
  (ha:PAd X (e::g) t) (hdb:(x==("__debug__":Str))=false:=by decide) (he:F3 (e::g) X.env=(false,aa2 e X.env)::F3 g X.env:=by rfl) (hpl:(U6 pos (F3 g X.env)).any (·.1)=false:=by rfl) :
  PEd X (.Call (.Name x p) (e::g) [] pos) (nH n S t) :=
 (oY F hr hg u G o .nil Dl ha hdb he hpl).conv λI H Q a => a.el λz M R s hr q k => ⟨z,M,_,s,hr,q,λm M1 J H1 ⟨E,l⟩ C b w => by
  dsimp only;rw[V4];exact⟨m,M1,R,E,w,b,l,λd M' v H' A B i h=>k d M' v H' A (C.trans B) i h⟩⟩
def Dj(l h te:TEd):TSd:=λE b M=>te b M λd M1=>l b M1 λo M2=>h b M2 λi g=>∃a e k j,o=.ref a/\i=.int k/\g a=some (.lst e)/\ixN e.length k=some j/\E.nx b (aF g a (.lst (e.set j d)))
def D3(g te:TEd):TEd:=λe M Q=>g e M λo M1=>∃a l,o=.ref a/\M1 a=some (.lst l)/\te e M1 λd M2=>∃b,M2 a=some (.lst b)/\b.length<F9/\Q .non (aF M2 a (.lst (b++[d])))
end
def ItW(n:Nat)(a:Nat->V->Prop):It:=⟨λi _=>i<n,λi H x H'=>H'=H/\a i x,λi _=>n<=i⟩
theorem ue{P:K9}{w:P7}{K:E5}{tg:N1}{it:F4}{n:Nat}{Pv:Nat->u8->Prop}{St:Nat->K3->Prop}{ty:String}{Z:Nat->V->Prop}
  (W:∀A:M8,A.handled=none->Walks P w A it [it] [it] n Pv St) (Y:∀i h,St i h->∃o,h.get? it=some o/\o.cls=.type ty/\∃L,o.data=.fields L)
  (hn:["enumerate","zip","dict_itemiterator","dict_reverseitemiterator","odict_iterator","itertools.zip_longest","itertools.pairwise"].contains ty=false)
  (hv:∀i u,Pv i u->∃x,aM x u/\Z i x) (g:∀(A:M8) (i:Nat) (s:E9) (Q:u8->E9->Prop) (E:u8->E9->Prop),St i s.heap->Q (.ref it) s->J0 (L4 P w) A (as9 (.ref it)) Q E s):qE P w K tg (ItW n Z) [it] it (λi h=>i<=n/\St i h) where
 mem:=by simp
 obj:=λi h st b a=>by
  have e:b=it:=by simpa using a
  subst e;obtain⟨o,e,c,L,d⟩:=Y i h st.2;exact⟨o,e,λv z=>by rw[d]at z;cases z⟩
 keep:=λi h l st k=>⟨st.1,(W { handled:=none } rfl).frame i h l st.2 k⟩
 item:=by
  intro X J O hK G i T s U H E I p st q;subst J O hK;obtain⟨B,C,f2,S,N,R⟩:=p it (by simp);refine(W X.A (I.ok.hd G)).item i s _ _ q st.2 λv l t pv j M=>?_;have I1:Inv X T U H { s with heap:=l,toks:=t }:=I.turned (λb o a e=>M b o (by simpa using a) e) B C S N R;obtain⟨x,rx,vx⟩:=hv i v pv;obtain⟨o,e,c,L,d⟩:=Y _ _ j;exact⟨v,rfl,sU (s:={ s with heap:=l,toks:=t }) e c d hn ⟨x,H,I1,rx,⟨rfl,vx⟩,⟨q,j⟩,λb a=>(p b a).1⟩⟩
 done:=by
  intro X J O hK G i T s U H E I p st q;subst J O hK;obtain⟨B,C,f2,S,N,R⟩:=p it (by simp);have e:i=n:=Nat.le_antisymm st.1 q;subst e;exact(W X.A (I.ok.hd G)).done s _ _ st.2 λl t M=>⟨rfl,I.turned (λb o a e=>M b o (by simpa using a) e) B C S N R⟩
 self:=λA i s Q E st h=>g A i s Q E st.2 h
section
variable{X:Cx}{a b c e:N1}{y:List N1}{te z B:TEd}{t:TAd}{pos:Pos}{p g:N1}
noncomputable def dM(x:Str):List D:=x.cps.toList.map λc=>.str ⟨#[c]⟩
theorem sS{g:List (F4×Obj)}{σ:St}{H:Hp}{s:E9}{x:Str}{t:Tok}{R:It->Hp->Prop}(I:Inv X g σ H s)(ty:String)(hn:["enumerate","zip","dict_itemiterator","dict_reverseitemiterator","odict_iterator","itertools.zip_longest","itertools.pairwise"].contains ty=false)
  (W:∀A:M8,A.handled=none->Walks X.prog X.w A s.heap.objs.size [s.heap.objs.size] [s.heap.objs.size] x.cps.size (SignAt x) (λi h=>h.IsStrIter s.heap.objs.size ty x t i))
  (a:∀(A:M8) (i:Nat) (s':E9) (Q:u8->E9->Prop) (E:u8->E9->Prop),s'.heap.IsStrIter s.heap.objs.size ty x t i->Q (.ref s.heap.objs.size) s'->J0 (L4 X.prog X.w) A (as9 (.ref s.heap.objs.size)) Q E s')
  (q:R (ItW x.cps.size λi v=>∃c,x.cps[i]?=some c/\v=.str ⟨#[c]⟩) H):PIE X g σ p R (.ref s.heap.objs.size) { s with heap:=s.heap.push { cls:=.type ty,data:=.fields #[.str x t,.int 0 0] } }:=by
 have n:Inv X g σ H { s with heap:=s.heap.push { cls:=.type ty,data:=.fields #[.str x t,.int 0 0] } }:=I.kept (t':=s.toks) λb o e=>E7 _ e;refine⟨s.heap.objs.size,[s.heap.objs.size],_,_,H,rfl,n,ue W (λi h st=>?_) hn (λi u ⟨c,j,e,l⟩=>⟨.str ⟨#[c]⟩,⟨j,l⟩,c,e,rfl⟩) a,⟨P1 _,_,K1 _ rfl,rfl,rfl⟩,λb m=>?_,q⟩
 ·obtain⟨o,e,c,d⟩:=st;exact⟨o,e,c,_,d⟩
 ·have e:b=s.heap.objs.size:=by simpa using m
  subst e;exact I.fpOk (F6 _) (I.hok.fresh (F6 _))
end
section
variable{X:Cx}{a b c e:N1}{B:List N1}{te G W:TEd}{t:TAd}{pos:Pos}
def eqF(x y:D):Option D:=if dLe x 60=true/\dLe y 60=true then some (.bl (eqD x y))else none
theorem vt{x y z:D}(h:eqF x y=some z):dLe x 60=true/\dLe y 60=true/\z=.bl (eqD x y):=by
 unfold eqF at h
 by_cases a:dLe x 60=true/\dLe y 60=true
 ·rw[if_pos a]at h;cases h;exact⟨a.1,a.2,rfl⟩
 ·rw[if_neg a]at h;cases h
theorem gJ(h:X.A.units+64<af9):bP X (P2 .Eq) eqF:=by
 intro g s i H M x y v u dx dy dz Q I hr rx ry r1 r2 e k;obtain⟨a,b,rfl⟩:=vt e;exact(lG I 60 (A:=X.A) (by lia) a b r1 r2 rx ry).2.1 X.prog X.w X.xe _ ⟨.bl (eqD dx dy),H,I,rfl,k _ H (Ext.refl _ _) hr (by simp[Rep])⟩
def inD(a:Bool)(x y:D):Option D:=match y with
 |.lst b=>if bo x=true/\b.all bo=true then some (.bl (xor a (b.any λd=>eqD d x)))else none
 |.tup b=>if bo x=true/\b.all bo=true then some (.bl (xor a (b.any λd=>eqD d x)))else none
 |_=>none
theorem Bn{K:E5}{M:DH}{H:Hp}{d:D}{v:V}(h:bo d=true)(r:Rep K M H d v):v=toV d/\gm v=true:=by
 cases d<;>first|(simp only[Rep]at r;subst r;exact⟨rfl,rfl⟩)|cases h
theorem zm{x y:D}(a:bo x=true)(b:bo y=true):eqV (toV x) (toV y)=eqD x y:=by
 cases x<;>cases y<;>first|(simp[bo]at a;done)|(simp[bo]at b;done)|(simp[toV,eqV,eqD];done)
theorem gR{K:E5}{M:DH}{H:Hp}{x:D}(e:bo x=true):∀{ds:List D}{b:List V},ao K M H ds b->ds.all bo=true->b.all gm=true/\inV (toV x) b=ds.any λd=>eqD d x
 |[],_,h,_=>by simp only[ao]at h;subst h;simp[inV]
 |d::ds,_,h,a=>by
  simp only[ao]at h;obtain⟨v,o,rfl,n,i⟩:=h;rw[V6,F8]at a;obtain⟨l,j⟩:=Bn a.1 n;obtain⟨m,g⟩:=gR e i a.2;subst l;refine⟨by rw[V6,j,m];rfl,?_⟩;unfold inV at g ⊢;rw[aa8,aa8,g,zm a.1 e]
theorem aN.scal{K:E5}{M:DH}{H:Hp}{d:D}{v:V}(h:bo d=true)(r:aN K M H d v):v=toV d/\gm v=true:=by
 cases d<;>first|(simp only[aN,Rep]at r;subst r;exact⟨rfl,rfl⟩)|cases h
theorem EU:bP X (P2 .In) (inD false):=bP.of uu λH M x y o u w Q s t p e q=>by
 cases u with
 |lst b =>
  simp only[inD]at e
  by_cases a:bo o=true/\b.all bo=true
  ·rw[if_pos a]at e;cases e;obtain⟨l,j,rfl,sq,m⟩:=p;obtain⟨g,i⟩:=aN.scal a.1 t;obtain⟨n,h⟩:=gR a.1 m a.2;subst g;refine⟨l,j,rfl,.inl (SqL.of sq),i,n,q _ H (Ext.refl _ _) s ?_⟩;rw[h];simp[Rep]
  ·rw[if_neg a]at e;cases e
 |tup b =>
  simp only[inD]at e
  by_cases a:bo o=true/\b.all bo=true
  ·rw[if_pos a]at e;cases e;obtain⟨l,j,rfl,sq,m⟩:=p;obtain⟨g,i⟩:=aN.scal a.1 t;obtain⟨n,h⟩:=gR a.1 m a.2;subst g;refine⟨l,j,rfl,.inr sq,i,n,q _ H (Ext.refl _ _) s ?_⟩;rw[h];simp[Rep]
  ·rw[if_neg a]at e;cases e
 |_=>cases e
theorem zo:bP X (P2 .NotIn) (inD true):=bP.of nP λH M x y o u w Q s t p e q=>by
 cases u with
 |lst b =>
  simp only[inD]at e
  by_cases a:bo o=true/\b.all bo=true
  ·rw[if_pos a]at e;cases e;obtain⟨l,j,rfl,sq,m⟩:=p;obtain⟨g,i⟩:=aN.scal a.1 t;obtain⟨n,h⟩:=gR a.1 m a.2;subst g;refine⟨l,j,rfl,.inl (SqL.of sq),i,n,q _ H (Ext.refl _ _) s ?_⟩;rw[h];simp[Rep]
  ·rw[if_neg a]at e;cases e
 |tup b =>
  simp only[inD]at e
  by_cases a:bo o=true/\b.all bo=true
  ·rw[if_pos a]at e;cases e;obtain⟨l,j,rfl,sq,m⟩:=p;obtain⟨g,i⟩:=aN.scal a.1 t;obtain⟨n,h⟩:=gR a.1 m a.2;subst g;refine⟨l,j,rfl,.inr sq,i,n,q _ H (Ext.refl _ _) s ?_⟩;rw[h];simp[Rep]
  ·rw[if_neg a]at e;cases e
 |_=>cases e
def pF(f:D->Option D):List D->Option D
 |[d]=>f d
 |_=>none
theorem nt{K:E5}{M:DH}{H:Hp}{d:D}{xs:List V}(h:ad3 (aN K M H) [d] xs):∃v,xs=[v]/\aN K M H d v:=by
 cases h with
 |cons r t=>cases t;exact⟨_,rfl,r⟩
theorem dA{f:D->Option D}{ds:List D}{z:D}(h:pF f ds=some z):∃d,ds=[d]/\f d=some z:=by
 match ds,h with
 |[d],h=>exact⟨d,rfl,h⟩
noncomputable def uy:D->Option D
 |.tup a=>some (.int a.length)
 |.lst a=>some (.int a.length)
 |.scr a=>some (.int a.length)
 |.str x=>if x.length<=F9 then some (.int x.length)else none
 |_=>none
theorem aT:bQ X (.builtin "len") (pF uy):=bQ.of (cy.or oa nX) λH M o i n Q g m e q=>by
 obtain⟨d,rfl,j⟩:=dA e;clear e;have e:=j;clear j;obtain⟨v,rfl,r⟩:=nt m;cases d with
 |tup i=>cases e;obtain⟨l,b,rfl,sq,a⟩:=r;exact .inl ⟨l,b,rfl,.inr sq,q _ H (Ext.refl _ _) g (by rw[<-a.length];simp[Rep])⟩
 |lst i=>cases e;obtain⟨l,b,rfl,sq,a⟩:=r;exact .inl ⟨l,b,rfl,.inl (SqL.of sq),q _ H (Ext.refl _ _) g (by rw[<-a.length];simp[Rep])⟩
 |scr i=>cases e;obtain⟨l,b,rfl,sq,a⟩:=r;exact .inl ⟨l,b,rfl,.inl sq,q _ H (Ext.refl _ _) g (by rw[<-a.length];simp[Rep])⟩
 |str x =>
  simp only[uy]at e
  by_cases h:x.length<=F9
  ·rw[if_pos h]at e;cases e;exact .inr ⟨x,by rw[mr r],h,q _ H (Ext.refl _ _) g (by simp[Rep])⟩
  ·rw[if_neg h]at e;cases e
 |_=>cases e
def DF:D->Option D
 |.int i=>some (.int (if i<0 then -i else i))
 |_=>none
theorem DN:bQ X (.builtin "abs") (pF DF):=bQ.of vK λH M j l h Q g b e q=>by
 obtain⟨d,rfl,a⟩:=dA e;clear e;have e:=a;clear a;obtain⟨v,rfl,r⟩:=nt b;cases d with
 |int i=>cases e;exact⟨i,by rw[gS r],q _ H (Ext.refl _ _) g (by simp[Rep])⟩
 |_=>cases e
def yy:D->Option D
 |.lst a=>some (.tup a)
 |.tup a=>some (.tup a)
 |_=>none
theorem ck:bQ X (.type "tuple") (pF yy):=bQ.of mI λH M s g o Q a m e q=>by
 obtain⟨d,rfl,h⟩:=dA e;clear e;have e:=h;clear h;obtain⟨v,rfl,r⟩:=nt m;cases d with
 |lst g=>cases e;obtain⟨l,b,rfl,sq,i⟩:=r;exact⟨l,b,rfl,.inl ⟨SqL.of sq,λp j=>nV a j i q⟩⟩
 |tup g=>cases e;have n:=aN.tup a r;obtain⟨l,b,rfl,sq,i⟩:=r;exact⟨l,b,rfl,.inr ⟨sq,q _ H (Ext.refl _ _) a n⟩⟩
 |_=>cases e
def Du:D->Option D
 |.lst a=>some (.lst a)
 |.scr a=>some (.lst a)
 |.tup a=>some (.lst a)
 |_=>none
theorem oO:bQ X (.type "list") (pF Du):=bQ.of ot λH M o h n Q i m e q=>by
 obtain⟨d,rfl,j⟩:=dA e;clear e;have e:=j;clear j;obtain⟨v,rfl,r⟩:=nt m;cases d with
 |lst h=>cases e;obtain⟨l,g,rfl,sq,b⟩:=r;exact⟨l,g,rfl,.inl (SqL.of sq),λp a=>fj i a b q⟩
 |scr h=>cases e;obtain⟨l,g,rfl,sq,b⟩:=r;exact⟨l,g,rfl,.inl sq,λp a=>fj i a b q⟩
 |tup h=>cases e;obtain⟨l,g,rfl,sq,b⟩:=r;exact⟨l,g,rfl,.inr sq,λp a=>fj i a b q⟩
 |_=>cases e
def uf:D->Bool
 |.bl _=>true
 |_=>false
def ou:D->Bool
 |.bl b=>b
 |_=>false
def wY:D->Option D
 |.lst a=>if a.all uf=true then some (.bl (a.all ou))else none
 |_=>none
theorem ur{p:Nat->Bool}{q:D->Bool}:∀{ds:List D},(∀i d,ds[i]?=some d->p i=q d)->(Q8 ds.length).all p=ds.all q:=by
 intro ds h;rw[O2,J7,J7];constructor
 ·intro b d g;obtain⟨i,a,e⟩:=S7.mp g;rw[<-h i d (by rw[E4 a,e])];exact b i (O4.mpr a)
 ·intro b i a;have a:=O4.mp a;rw[h i ds[i] (by simp[a])];exact b _ (L8 a)
theorem uI{p:Nat->Bool}{q:D->Bool}:∀{ds:List D},(∀i d,ds[i]?=some d->p i=q d)->(Q8 ds.length).any p=ds.any q:=by
 intro ds h;rw[O2,Z0,Z0];constructor
 ·rintro⟨i,a,b⟩;have a:=O4.mp a;exact⟨ds[i],L8 a,by rw[<-h i ds[i] (by simp[a])];exact b⟩
 ·rintro⟨d,g,j⟩;obtain⟨i,a,e⟩:=S7.mp g;exact⟨i,O4.mpr a,by rw[h i d (by rw[E4 a,e])];exact j⟩
theorem qy{K:E5}{M:DH}{H:Hp}{ds:List D}{m:List V}{us:List u8}(n:ao K M H ds m)(l:aw m us)(p:ds.all uf=true){i:Nat}{u:u8}(h:us[i]?=some u):∃d,ds[i]?=some d/\u=.bool (ou d):=by
 have e:i<ds.length:=by rw[n.length,l.length];exact(J4.mp h).1
 obtain⟨v,g,r⟩:=n.get (i:=i) (d:=ds[i]) (by simp[e]);obtain⟨s,j,o⟩:=l.get g;rw[h]at j;cases j;have a:=J7.mp p ds[i] (L8 e);refine⟨ds[i],by simp[e],?_⟩;cases q:ds[i]with
 |bl b=>rw[q]at r;simp only[Rep]at r;subst r;exact o
 |_=>rw[q]at a;cases a
theorem k9(J:X.calm=true):bQ X (.builtin "all") (pF wY):=by
 intro G s P H M xs Z h dz Q I O g N e k;obtain⟨d,rfl,t⟩:=dA e;clear e;have e:=t;clear t;obtain⟨v,rfl,r⟩:=nt N;obtain⟨u,rfl,L⟩:=aw.one g;cases d with
 |lst h =>
  simp only[wY]at e
  by_cases j:h.all uf=true
  ·rw[if_pos j]at e;cases e;obtain⟨l,vs,rfl,sq,B⟩:=r;cases L;obtain⟨a,g,z,U⟩:=I.list (SqL.of sq);have m:l≠s.heap.objs.size:=K8 (I.hok.lt sq);refine call_all_walk (af2 z.isList ⟨s.heap.objs.size,[s.heap.objs.size,l],[s.heap.objs.size],a.toArray.size,_,_,λi=>(h[i]?.map ou).getD false,rfl,Walks.list (A:=X.A.in1) (show X.A.in1.handled=none from I.ok.hd J) s.heap.objs.size l m a.toArray,⟨⟨_,K1 _ rfl,rfl,rfl⟩,?_⟩,λi v Y T E' E q=>?_,λC p R=>?_⟩)
   ·obtain⟨o,e,c⟩:=z.isList;exact⟨o,E7 _ e,c⟩
   ·obtain⟨d,n,rfl⟩:=qy B g j (i:=i) (u:=v) (by simpa using E);dsimp only at q;rw[n]at q;exact U9 q
   ·have S:Inv X G P H { s with heap:=C,toks:=p }:=I.kept (t':=p) λb o e=>R b o (by simpa using K8 (I0 e)) (E7 _ e);refine⟨.bl _,H,S,rfl,k _ H (Ext.refl _ _) O ?_⟩;rw[F1,<-g.length,<-B.length,ur (q:=ou) (λi d n=>by simp[n])];simp[Rep]
  ·rw[if_neg j]at e;cases e
 |_=>cases e
end
section
variable{X:Cx}{a b c e:N1}{g:List N1}{te y B:TEd}{t:TAd}{pos:Pos}
noncomputable def y7(T:String):D->Option Bool
 |.non=>some false
 |.bl _=>some (T=="bool" || T=="int")
 |.int _=>some (T=="int")
 |.str _=>some (T=="str")
 |.tup _=>some (T=="tuple")
 |.lst _=>some (T=="list")
 |.emp=>some (T=="dict")
 |_=>none
def okT(T:String):Bool:=T=="bool" || T=="int" || T=="str" || T=="tuple" || T=="list"
def Da(T:String)(te:TEd):TEd:=λa M Q=>te a M λd M1=>∃k,y7 T (rdM M1 d)=some k/\Q (.bl k) M1
theorem uO{T:String}(E:okT T=true){A:List (F4×Obj)}{s:E9}{σ:St}{H:Hp}{M:DH}{v:V}{u:u8}{d:D}{k:Bool}{Q:VK}(I:Inv X A σ H s)(r:aM v u)(rd:aN X.K M H d v)(e:y7 T d=some k)(q:Q (.bl k) H):
  J0 (L4 X.prog X.w) X.A (ar9 (.builtin "isinstance") [u,.type T]) (EP X A σ Q) X.xe s:=by
 have m:∀{k'} ,k=k'->EP X A σ Q (.bool k') s:=λe=>by subst e;exact⟨.bl k,H,I,rfl,q⟩
 have j:∀{k'} ,k=k'->EP X A σ Q (.bool k') { s with toks:=s.toks+1 }:=λe=>by subst e;exact⟨.bl k,H,I.tok _,rfl,q⟩
 have w:T="bool"∨T="int"∨T="str"∨T="tuple"∨T="list":=by
  simp[okT]at E;rcases E with(((h|h)|h)|h)|h<;>simp[h]
 cases d with
 |non =>
  simp only[aN,Rep]at rd;subst rd;simp only[aM]at r;subst r;cases e;rcases w with rfl|rfl|rfl|rfl|rfl
  ·exact IsiPair.NoneType_bool (j rfl)
  ·exact IsiPair.NoneType_int (j rfl)
  ·exact IsiPair.NoneType_str (j rfl)
  ·exact IsiPair.NoneType_tuple (j rfl)
  ·exact IsiPair.NoneType_list (j rfl)
 |bl b =>
  simp only[aN,Rep]at rd;subst rd;simp only[aM]at r;subst r;cases e;rcases w with rfl|rfl|rfl|rfl|rfl
  ·exact IsiPair.bool_bool (m rfl)
  ·exact IsiPair.bool_int (m rfl)
  ·exact IsiPair.bool_str (j rfl)
  ·exact IsiPair.bool_tuple (j rfl)
  ·exact IsiPair.bool_list (j rfl)
 |int i =>
  simp only[aN,Rep]at rd;subst rd;obtain⟨t,rfl⟩:=r;cases e;rcases w with rfl|rfl|rfl|rfl|rfl
  ·exact IsiPair.int_bool (j rfl)
  ·exact IsiPair.int_int (m rfl)
  ·exact IsiPair.int_str (j rfl)
  ·exact IsiPair.int_tuple (j rfl)
  ·exact IsiPair.int_list (j rfl)
 |str x =>
  simp only[aN,Rep]at rd;subst rd;obtain⟨t,rfl⟩:=r;cases e;rcases w with rfl|rfl|rfl|rfl|rfl
  ·exact IsiPair.str_bool (j rfl)
  ·exact IsiPair.str_int (j rfl)
  ·exact IsiPair.str_str (m rfl)
  ·exact IsiPair.str_tuple (j rfl)
  ·exact IsiPair.str_list (j rfl)
 |tup G =>
  obtain⟨a,N,rfl,sq,O⟩:=rd;cases r;cases e;obtain⟨B,L,⟨o,l,p,_⟩,_⟩:=I.tuple sq;rcases w with rfl|rfl|rfl|rfl|rfl
  ·exact IsiPair.tuple_bool l p (j rfl)
  ·exact IsiPair.tuple_int l p (j rfl)
  ·exact IsiPair.tuple_str l p (j rfl)
  ·exact IsiPair.tuple_tuple l p (m rfl)
  ·exact IsiPair.tuple_list l p (j rfl)
 |lst G =>
  obtain⟨a,N,rfl,sq,O⟩:=rd;cases r;cases e;obtain⟨B,L,⟨o,n,l,p,_⟩,_⟩:=I.list (SqL.of sq);rcases w with rfl|rfl|rfl|rfl|rfl
  ·exact IsiPair.list_bool l p (j rfl)
  ·exact IsiPair.list_int l p (j rfl)
  ·exact IsiPair.list_str l p (j rfl)
  ·exact IsiPair.list_tuple l p (j rfl)
  ·exact IsiPair.list_list l p (m rfl)
 |emp =>
  simp only[aN,Rep]at rd;obtain⟨a,rfl,J,_⟩:=rd;cases r;cases e;obtain⟨_,_,_,_,o,g,P,l,z,_⟩:=I.hok a _ J;rcases w with rfl|rfl|rfl|rfl|rfl
  ·exact IsiPair.dict_bool l z.1 (j rfl)
  ·exact IsiPair.dict_int l z.1 (j rfl)
  ·exact IsiPair.dict_str l z.1 (j rfl)
  ·exact IsiPair.dict_tuple l z.1 (j rfl)
  ·exact IsiPair.dict_list l z.1 (j rfl)
 |_=>cases e
abbrev TOd:=DE->DH->(Option Int->DH->Prop)->Prop
def upO(K:E5)(t:TOd):TO:=λb H Q=>∃(a:DE) (M:DH) (R:Option Int->DH->Prop),SR K M H b a/\HR K M H/\t a M R/\∀i M' H',R i M'->Ext M H M' H'->HR K M' H'->Q i H'
theorem upO.el{K:E5}{t:TOd}{σ:St}{H:Hp}{Q:Option Int->Hp->Prop}{P:Prop}(h:upO K t σ H Q)(f:∀(e:DE) (M:DH) (R:Option Int->DH->Prop),SR K M H σ e->HR K M H->t e M R->(∀i M' H',R i M'->Ext M H M' H'->HR K M' H'->Q i H')->P):P:=by
 obtain⟨l,j,g,a,b,c,d⟩:=h;exact f l j g a b c d
def POd(X:Cx)(e:Option N1)(t:TOd):Prop:=PO X e (upO X.K t)
def nQ:TOd:=λ_ M Q=>Q none M
def vX(t:TEd):TOd:=λa M Q=>t a M λd M1=>∃i,d=.int i/\Q (some i) M1
theorem PO.conv{e:Option N1}{t t':TO}(h:PO X e t)(k:∀ σ H Q,t' σ H Q->t σ H Q):PO X e t':=λp s σ H Q I q=>h p s σ H Q I (k σ H Q q)
theorem xQ:POd X none nQ:=zh.conv λg H Q a=>a.el λh M R e b q k=>k none M H q (Ext.refl _ _) b
theorem yX(h:PEd X e te):POd X (some e) (vX te):=(yE h).conv λs H Q b=>b.el λo M R l p q k=>⟨o,M,_,l,p,q,λd M1 v H1 ⟨i,m,g⟩ j a n=>⟨i,by subst m;simpa only[Rep]using n,k _ M1 H1 g j a⟩⟩
def cP(xs:List D)(lo hi:Option Int):List D:=(xs.drop (HT.sIx xs.length 0 lo)).take (HT.sIx xs.length xs.length hi-HT.sIx xs.length 0 lo)
def slD:D->Option Int->Option Int->Option D
 |.lst a,lo,b=>some (.lst (cP a lo b))
 |.scr a,lo,b=>some (.lst (cP a lo b))
 |.str x,lo,b=>if x.length<=F9 then some (.str (ap2 x lo b))else none
 |.tup a,lo,b=>if HT.sIx a.length 0 lo=0/\HT.sIx a.length a.length b=a.length then none else some (.tup (cP a lo b))
 |_,_,_=>none
def ER:V->Option Int->Option Int->Hp->VK->Prop:=λx lo a H Q=>∃z,x=.str z/\z.length<=F9/\Q (.str (ap2 z lo a)) H
theorem AQ:SlR X ER:=by
 intro o s p H x v vl vu lo hi sl Q I rx hs pl pu h;obtain⟨z,rfl,b,q⟩:=h;obtain⟨t,rfl⟩:=rx;refine⟨"str",_,PySem.F.slot_str_getitem.lookup,ap6 _ _ _,?_⟩;have a:∀(e:Tok) (k:Nat),EP X o p Q (.str (ap2 z lo hi) e) { s with toks:=k }:=λe k=>⟨.str (ap2 z lo hi),H,I.tok _,⟨e,rfl⟩,q⟩;cases pl with
 |none =>
  cases pu with
  |none=>exact ac8 (l:=none) (u:=none) (st:=none) hs rfl (am3 ⟨O9 (ap3 z _ _) b,a⟩)
  |int j g=>exact ac8 (l:=none) (u:=some (j,g)) (st:=none) hs rfl (am3 ⟨O9 (ap3 z _ _) b,a⟩)
 |int i m =>
  cases pu with
  |none=>exact ac8 (l:=some (i,m)) (u:=none) (st:=none) hs rfl (am3 ⟨O9 (ap3 z _ _) b,a⟩)
  |int j g=>exact ac8 (l:=some (i,m)) (u:=some (j,g)) (st:=none) hs rfl (am3 ⟨O9 (ap3 z _ _) b,a⟩)
end
def cx(names:List (Str×T0))(a:List (Str×F4)):List (Str×F4):=(names.filterMap λy=>if y.2==.free then(a.lookup y.1).map λc=>(y.1,c)else none).reverse
noncomputable def e8(env:Env)(y:Str×T0)(a:List (Str×F4)):Sem (ForInStep (List (Str×F4))):=if(y.2==.free)=true then(do let c <-cellOf env y.1;af8 (V7 ((y.1,c)::a)))else af8 (V7 a)
theorem jB{env:Env}:∀(names:List (Str×T0)) (a:List (Str×F4)),(∀y∈names,y.2=.free->(env.cells.lookup y.1).isSome=true) ->
  (forIn names a (e8 env):Sem (List (Str×F4)))=af8 (cx names env.cells++a)
 |[],a,_=>by simp[cx]
 |y::r,a,h=>by
  rw[List.forIn_cons]
  by_cases b:(y.2==W9)=true
  ·have l:=h y Q0 (by simpa using b);obtain⟨c,j⟩:=X6.mp l;have e:e8 env y a=af8 (V7 ((y.1,c)::a)):=by
    unfold e8 cellOf;rw[if_pos b,j];simp only[as7]
   rw[e];simp only[as7];rw[jB r ((y.1,c)::a) λy i=>h y (K6 _ i)];have g:cx (y::r) env.cells=cx r env.cells++[(y.1,c)]:=by
    unfold cx;rw[Q5,if_pos b,j];simp
   rw[g];simp
  ·have e:e8 env y a=af8 (V7 a):=by
    unfold e8;rw[if_neg b]
   rw[e];simp only[as7];rw[jB r a λy i=>h y (K6 _ i)];have g:cx (y::r) env.cells=cx r env.cells:=by
    unfold cx;rw[Q5,if_neg b]
   rw[g]
theorem zg{a:af7}{env:Env}(h:∀y∈a.names,y.2=.free->(env.cells.lookup y.1).isSome=true):closureFor a env=af8 (cx a.names env.cells):=by
 have:=jB (env:=env) a.names [] h;simp only[V4]at this;show(forIn a.names [] (e8 env) >>= λb=>af8 b)=_;rw[this];simp only[as7]
theorem xq{a:List (Str×F4)}{names:List (Str×T0)}{x:Str}{c:F4}(h:(cx names a).lookup x=some c):a.lookup x=some c:=by
 have b:=T5 h;unfold cx at b;rw[List.mem_reverse,U5]at b;obtain⟨y,_,e⟩:=b
 split at e
 ·cases q:a.lookup y.1 with
  |none=>rw[q]at e;cases e
  |some g=>rw[q]at e;cases e;exact q
 ·cases e
theorem dR:∀{l:List (Str×F4)}{x:Str}{c:F4},(x,c)∈l->∃a,l.lookup x=some a
 |(y,d)::l,x,c,h=>by
  rw[O1];cases q:x==y with
  |true=>exact⟨d,by simp⟩
  |false =>
   rcases J3.mp h with e|h
   ·cases e;simp at q
   ·simpa using dR h
theorem wz{a:List (Str×F4)}{names:List (Str×T0)}{x:Str}(h:names.lookup x=some .free)(hs:(a.lookup x).isSome=true):∃c,(cx names a).lookup x=some c:=by
 obtain⟨c,b⟩:=X6.mp hs;refine dR (c:=c) ?_;unfold cx;rw[List.mem_reverse,U5];exact⟨(x,.free),T5 h,by simp[b]⟩
noncomputable def aO(fs:af7)(N:List Str)(a:af7)(ms:List Bool):Bool :=
 a.kind==.function&&a.names.all (λy=>y.2 != .cell)&&a.names.all (λy=>y.2 != .local || a.names.lookup y.1==some .local) &&
 a.names.all (λy=>y.2 != .free || fs.names.lookup y.1==some .cell)&&(ms.zip N).all (λy=>!y.1 || a.names.lookup y.2==some .free)&&decide (ms.length<=N.length)
theorem aD{X:Cx}{g:af7}{ms:List Bool}{ar:List Str}{n0:Nat}(o:X.env.cells=as4 n0 X.env.scope.names [])(c:aO X.env.scope X.N g ms=true):fh X g (cx g.names X.env.cells) ms ar:=by
 unfold aO at c;simp only[F8,J7,decide_eq_true_eq]at c;obtain⟨⟨⟨⟨⟨s,p⟩,t⟩,q⟩,A⟩,z⟩:=c;have m:∀x,(x,W9)∈g.names->X.env.scope.names.lookup x=some .cell:=λx l=>by
  have:=q _ l;simpa using this
 have n:∀x,(x,W9)∈g.names->(X.env.cells.lookup x).isSome=true:=λx l=>by
  rw[o];exact PySem.W.cellsFrom_some _ _ _ (.inl (m x l))
 refine⟨by simpa using s,λy j e=>?_,λy j e=>?_,zg λy j e=>?_,λx c h=>xq h,λx h=>wz h (n x (T5 h)),λx h=>.inl (m x (T5 h)),λi x u w=>?_,z⟩
 ·have:=p y j;rw[e]at this;simp at this
 ·have:=t y j;simpa[e]using this
 ·obtain⟨a,b⟩:=y;cases e;exact n a j
 ·have:=A (true,x) (by
   rw[ae6];exact⟨i,by rw[List.getElem?_zip_eq_some];exact⟨u,w⟩⟩)
  simpa using this
structure FnD(P:K9) (w:P7) (K:E5) (mg:Str->Option u8) (base:K3) (x:Str) (k n:Nat) (S:SpD):Prop where
 ex:∃(f:F4) (fd:K4) (ps:List Str),aP P w K mg base CX0 k f fd ps (spD K n S)/\mg x=some (.ref f)/\U7 K (.ref f)=true/\cE K fd ps []
section
variable{X:Cx}{e:N1}{g:List N1}{t:TAd}{pos p:Pos}{x:Str}{k n:Nat}{S:SpD}
theorem dc(F:FnD X.prog X.w X.K X.mg X.base x k n S)(hr:cc k X.A)(hg:Gl X x)(ha:PAd X (e::g) t)(hdb:(x==("__debug__":Str))=false:=by decide)(he:F3 (e::g) X.env=(false,aa2 e X.env)::F3 g X.env:=by rfl)(hpl:(U6 pos (F3 g X.env)).any (·.1)=false:=by rfl):
  PEd X (.Call (.Name x p) (e::g) [] pos) (nH n S t):=by
 obtain⟨f,j,l,a,h,i,b⟩:=F.ex;exact Ar a hr hg h i b ha hdb he hpl
end
section
variable{X:Cx}{a b c e:N1}{p:List N1}{te z B:TEd}{t:TAd}{pos:Pos}{G g:N1}
def zY(te:TEd):TSd:=λE e M=>te e M λd M1=>∃a b,d=.ref a/\M1 a=some (.lst b)/\E.rt (.lst b) (mK M1 a)
theorem Bj:Dh X (unaryOp .USub) (λd=>match d with|.int i=>some (.int (-i))|_=>none):=by
 intro a s b H M x v dx dz Q I hr rx r1 e k;cases dx with
 |int i=>cases e;exact A6 a s b H x v Q I rx ⟨i,gS r1,k _ H (Ext.refl _ _) hr (by simp[Rep])⟩
 |_=>cases e
def iR:D->Option (List D)
 |.tup a=>some a
 |.lst a=>some a
 |.scr a=>some a
 |.str x=>if x.length<=F9 then some (dM x)else none
 |_=>none
def Aa(te:TEd):TId:=λb M R=>te b M λd M1=>∃a,iR d=some a/\(a.length<=F9->R a M1)
theorem rD{a:List (F4×Obj)}{σ:St}{H:Hp}{s:E9}{o:Obj}(I:Inv X a σ H s):∀b∈[s.heap.objs.size],jE X a H b:=λb g=>by
 have e:b=s.heap.objs.size:=by simpa using g
 subst e;exact I.fpOk (F6 _) (I.hok.fresh (F6 _))
theorem BW{K:E5}{x:Str}{M1:DH}{H1:Hp}:ItD K (ItW x.cps.size λi v=>∃c,x.cps[i]?=some c/\v=.str ⟨#[c]⟩) (dM x) M1 H1:=λM2 H2 n e i=>⟨λd a=>by
  unfold dM at a;rw[F7]at a;cases q:x.cps.toList[i]? with
  |none=>rw[q]at a;cases a
  |some c =>
   rw[q]at a;cases a;have g:x.cps[i]?=some c:=by simpa using q
   refine⟨?_,λy H' ⟨j,m,b,h⟩=>?_⟩
   ·exact(P0.mp g).1
   ·subst j;subst h;rw[g]at b;cases b;exact⟨Ext.refl _ _,e,by simp[Rep]⟩,λl=>by
  show x.cps.size<=i;simpa[dM]using l⟩
end
section
variable{M:DH}
theorem za{i:Int}:rdM M (.int i)=.int i:=rfl
theorem AB{i:Bool}:rdM M (.bl i)=.bl i:=rfl
theorem yr{i:Str}:rdM M (.str i)=.str i:=rfl
theorem y9:rdM M .non=.non:=rfl
theorem yf{i:List D}:rdM M (.tup i)=.tup i:=rfl
theorem zv{i:List D}:rdM M (.lst i)=.lst i:=rfl
theorem yg{i:List D}:rdM M (.scr i)=.scr i:=rfl
theorem kE{a:F4}{ds:List D}(h:M a=some (.lst ds)):rdM M (.ref a)=.lst ds:=by simp[rdM,h]
theorem yl{a:F4}{ds:List D}:rdM (aF M a (.lst ds)) (.ref a)=.lst ds:=kE bb
theorem BS{f:Int->Int->Option D}{a b:Int}:iOp f (.int a) (.int b)=f a b:=rfl
theorem yt{a b:Int}:mE (.int a) (.int b)=some (.int (a+b)):=rfl
theorem sH{a b:Str}:mE (.str a) (.str b)=if a.length+b.length<=F9 then some (.str (a++b))else none:=rfl
theorem tU{a b:List D}:mE (.lst a) (.lst b)=if a.length+b.length<=F9 then some (.lst (a++b))else none:=rfl
theorem y8{a b:List D}:mE (.tup a) (.tup b)=if a.length+b.length<=F9 then some (.tup (a++b))else none:=rfl
theorem DA{a:List D}{b:Int}:ixD (.lst a) (.int b)=atI a b:=rfl
theorem Dw{a:List D}{b:Int}:ixD (.scr a) (.int b)=atI a b:=rfl
theorem Ds{a:List D}{b:Int}:ixD (.tup a) (.int b)=atI a b:=rfl
theorem DR{a:Type}{x:a}{xs:List a}:atI (x::xs) 0=some x:=aI (j:=0) rfl
theorem Cz{a:Type}{x y:a}{xs:List a}:atI (x::y::xs) 1=some y:=aI (j:=1) rfl
theorem DU{a:Type}{x y z:a}{xs:List a}:atI (x::y::z::xs) 2=some z:=aI (j:=2) rfl
theorem vp{f:D->Option D}{d:D}:pF f [d]=f d:=rfl
theorem AX{a:List D}:uy (.lst a)=some (.int a.length):=rfl
theorem BI{a:List D}:uy (.tup a)=some (.int a.length):=rfl
theorem BY{a:List D}:uy (.scr a)=some (.int a.length):=rfl
theorem Ag{x:Str}:uy (.str x)=if x.length<=F9 then some (.int x.length)else none:=rfl
theorem AO{i:Int}:DF (.int i)=some (.int (if i<0 then -i else i)):=rfl
theorem A3{a:List D}:yy (.lst a)=some (.tup a):=rfl
theorem BL{a:List D}:yy (.tup a)=some (.tup a):=rfl
theorem DQ{b:Bool}{x:D}{ds:List D}:inD b x (.lst ds)=if bo x=true/\ds.all bo=true then some (.bl (xor b (ds.any λd=>eqD d x)))else none:=rfl
theorem Ee{b:Bool}{x:D}{ds:List D}:inD b x (.tup ds)=if bo x=true/\ds.all bo=true then some (.bl (xor b (ds.any λd=>eqD d x)))else none:=rfl
theorem Ao{a b:Int}:eqF (.int a) (.int b)=some (.bl (a==b)):=by simp[eqF,dLe,eqD]
theorem A7{a b:Str}:eqF (.str a) (.str b)=some (.bl (a==b)):=by simp[eqF,dLe,eqD]
theorem BD{a b:Bool}:eqF (.bl a) (.bl b)=some (.bl (a==b)):=by simp[eqF,dLe,eqD]
theorem DT{ds:List D}{lo hi:Option Int}:slD (.scr ds) lo hi=some (.lst (cP ds lo hi)):=rfl
theorem CS{ds:List D}{lo hi:Option Int}:slD (.lst ds) lo hi=some (.lst (cP ds lo hi)):=rfl
theorem Dy{x:Str}{lo hi:Option Int}:slD (.str x) lo hi=if x.length<=F9 then some (.str (ap2 x lo hi))else none:=rfl
theorem wC{a:List D}:iR (.lst a)=some a:=rfl
theorem xM{a:List D}:iR (.tup a)=some a:=rfl
theorem xc{a:List D}:iR (.scr a)=some a:=rfl
theorem vQ{x:Str}:iR (.str x)=if x.length<=F9 then some (dM x)else none:=rfl
theorem D4{n:Nat}:ixN (n+1) 0=some 0:=by simp[ixN]<;>omega
theorem Dr{n:Nat}:ixN (n+2) 1=some 1:=by simp[ixN]<;>omega
theorem CQ{n:Nat}:ixN (n+3) 2=some 2:=by simp[ixN]<;>omega
theorem sz3(n:Nat)(h:n<=1000:=by decide):n<=F9:=O9 h (by decide)
theorem Bo{b:Bool}:y7 "bool" (.bl b)=some true:=rfl
end
end L2
namespace L2
theorem Eb{i j:Int}(h:-18446744073709551616<j/\j<18446744073709551616):jQ i j=True:=by unfold jQ;simp;right;omega
theorem Ct{i j:Int}(h:-18446744073709551616<i/\i<18446744073709551616):jQ i j=True:=by unfold jQ;simp;left;omega
theorem xO:qj 10 18=True:=by simp[qj]
theorem CW{i j:Int}(h:0<j/\j<1073741824):mD i j=True:=by unfold mD;simp[h]
end L2
namespace L2
open PySem PySem.Spec PyProof.Rows
theorem dQ{g:GD}{tc:TTd}{te:TEd}{M:DH}{Q:List D->DH->Prop}(b:D->Bool)(y:D->D)(Ok:DE->Prop):∀(ds:List D) (i:DE) (e:List D),
  (∀d∈ds,∀ i,Ok i->∃ a,g d i=some a/\Ok a/\(∀l:Bool->DH->Prop,l (b d) M->tc a M l)/\(b d=true->∀j:D->DH->Prop,j (y d) M->te a M j))->Ok i ->
  Q (e++(ds.filter b).map y) M->cz g tc te ds i M e Q
 |[],i,e,_,_,q=>by simpa[cz]using q
 |d::ds,i,e,h,n,q=>by
  simp only[cz];obtain⟨a,p,ok,s,u⟩:=h d Q0 i n;refine⟨a,p,s _ ?_⟩;have o:∀d∈ds,∀ i,Ok i->∃ a,g d i=some a/\Ok a/\(∀l:Bool->DH->Prop,l (b d) M->tc a M l)/\(b d=true->∀j:D->DH->Prop,j (y d) M->te a M j):=λx t=>h x (K6 _ t);cases m:b d with
  |true =>
   simp only[if_true];refine u m _ (dQ b y Ok ds a (e++[y d]) o ok ?_);simpa[List.filter_cons,m]using q
  |false =>
   simp only[F0,if_false];refine dQ b y Ok ds a e o ok ?_;simpa[List.filter_cons,m]using q
theorem yv{a b:Str}:eqD (.str a) (.str b)=(a==b):=by simp[eqD]
theorem gc{x:Str}:∀{ws:List Str},(ws.map D.str).any (λd=>eqD d (.str x))=decide (x∈ws)
 |[]=>by simp
 |w::ws=>by
  rw[K0,aa8,gc (ws:=ws),yv]
  by_cases h:w=x
  ·subst h;simp
  ·have b:(w==x)=false:=by simpa using h
   have a:¬ x=w:=λe=>h e.symm;simp[b,a]
theorem i9{ws:List Str}:(ws.map D.str).all bo=true:=by
 induction ws with
 |nil=>rfl
 |cons w ws ih=>rw[K0,V6,ih];rfl
section
variable{X:Cx}{e:N1}{te:TEd}{pos:Pos}
def zF(te:TEd):TSd:=λE a M=>te a M λd M1=>∃M2,LeM M2 M1/\E.rt d M2
theorem fb{M:DH}{q:F4}{o:HD}(h:M q=none):LeM M (aF M q o):=λa u e=>by
 by_cases b:a=q
 ·subst b;rw[h]at e;cases e
 ·rw[bS b];exact e
end
end L2
namespace L2
open PySem PySem.Spec PyProof.Rows PySem.Builtin.Str
def tx(a:List Nat):Str:=⟨a.toArray⟩
theorem fq(a:List Nat):(tx a).cps.toList=a:=by simp[tx]
theorem jI(a:List Nat):(tx a).length=a.length:=by show(tx a).cps.size=_;simp[tx]
theorem hU{b:Type}[DecidableEq b]:∀(V K:List b),V.Nodup->(∀x∈V,x∈K)->V.length<=K.length
 |[],_,_,_=>P1 _
 |x::V,K,i,h=>by
  have a:=h x Q0;obtain⟨g,j⟩:=T4.mp i;have:=hU V (K.erase x) j λy e=>(List.mem_erase_of_ne (by rintro rfl;exact g e)).mpr (h y (K6 _ e));rw[List.length_erase_of_mem a]at this;have l:0<K.length:=List.length_pos_of_mem a;simp only[O0]
  lia
abbrev abc:Str:=J5 "abcdefghijklmnopqrstuvwxyz"
def cH:List Nat:=ao4 97 26
theorem rh:abc=tx cH:=by decide +kernel
theorem ut:dM abc=cH.map λc=>D.str (tx [c]):=by
 unfold dM;rw[rh,fq];rfl
end L2
namespace L2
open PySem PySem.Spec PyProof.Rows
theorem m7{g:GD}{n:TSd}{E:dH}{all:List D}(I:Nat->DE->DH->Prop)
  (step:∀(i:Nat) (d:D) (b:DE) (M:DH) (X:DE->DH->Prop),all[i]?=some d->I i b M->(∀ a l,I (i+1) a l->X a l)->∃ a,g d b=some a/\n { E with nx:=X,ct:=X,bk:=E.nx } a M)
  (j:∀ b M,I all.length b M->E.nx b M):∀(ds:List D) (i:Nat) (b:DE) (M:DH),all.drop i=ds->i<=all.length->I i b M->cB g n E ds b M
 |[],i,b,M,e,q,h=>by
  have:i=all.length:=by
   have:=congrArg X9 e;simp at this;lia
  subst this;simpa only[cB]using j b M h
 |d::ds,i,b,M,e,q,h=>by
  have m:i<all.length:=by
   have:=congrArg X9 e;simp at this;lia
  have s:all[i]?=some d:=by
   have:=congrArg List.head? e;simpa using this
  have p:all.drop (i+1)=ds:=by
   rw[<-List.tail_drop,e];rfl
  simp only[cB];exact step i d b M _ s h λa l o=>m7 I step j ds (i+1) a l p m o
theorem br{g:GD}{h:TSd}{E:dH}{ds:List D}{b:DE}{M:DH}(I:Nat->DE->DH->Prop)(h0:I 0 b M)
  (step:∀(i:Nat) (d:D) (b:DE) (M:DH) (X:DE->DH->Prop),ds[i]?=some d->I i b M->(∀ a j,I (i+1) a j->X a j)->∃ a,g d b=some a/\h { E with nx:=X,ct:=X,bk:=E.nx } a M)
  (e:∀ b M,I ds.length b M->E.nx b M):cB g h E ds b M:=m7 I step e ds 0 b M rfl (P1 _) h0
theorem qG{g:GD}{tc:TTd}{te:TEd}{all:List D}{Q:List D->DH->Prop}(I:Nat->List D->DE->DH->Prop)
  (step:∀ (i:Nat) (d:D) (a:List D) (m:DE) (M:DH) (X:List D → DE → DH → Prop),all[i]? = some d → I i a m M → (∀ l j n,I (i + 1) l j n → X l j n) →
   ∃ j,g d m=some j/\tc j M λb M1=>if b=true then te j M1 λy M2=>X (a++[y]) j M2 else X a j M1)
  (o:∀a m M,I all.length a m M->Q a M):∀(ds:List D) (i:Nat) (a:List D) (m:DE) (M:DH),all.drop i=ds->i<=all.length->I i a m M->cz g tc te ds m M a Q
 |[],i,a,m,M,e,t,h=>by
  have:i=all.length:=by
   have:=congrArg X9 e;simp at this;lia
  subst this;simpa only[cz]using o a m M h
 |d::ds,i,a,m,M,e,t,h=>by
  have p:i<all.length:=by
   have:=congrArg X9 e;simp at this;lia
  have u:all[i]?=some d:=by
   have:=congrArg List.head? e;simpa using this
  have s:all.drop (i+1)=ds:=by
   rw[<-List.tail_drop,e];rfl
  simp only[cz];exact step i d a m M (λl j n=>cz g tc te ds j n l Q) u h λl j n q=>qG I step o ds (i+1) l j n s p q
theorem lq{g:GD}{tc:TTd}{te:TEd}{ds:List D}{j:DE}{M:DH}{Q:List D->DH->Prop}(I:Nat->List D->DE->DH->Prop)(h0:I 0 [] j M)
  (step:∀ (i:Nat) (d:D) (e:List D) (j:DE) (M:DH) (X:List D → DE → DH → Prop),ds[i]? = some d → I i e j M → (∀ h a m,I (i + 1) h a m → X h a m) →
   ∃ a,g d j=some a/\tc a M λb M1=>if b=true then te a M1 λy M2=>X (e++[y]) a M2 else X e a M1)
  (l:∀e j M,I ds.length e j M->Q e M):cz g tc te ds j M [] Q:=qG I step l ds 0 [] j M rfl (P1 _) h0
theorem szB(n:Nat)(h:n<=16000000:=by decide):n<=F9:=O9 h (by decide)
theorem fD{a:Type}{f:a->D}{xs:List a}{i:Nat}{d:D}(h:(xs.map f)[i]?=some d):∃x,xs[i]?=some x/\d=f x:=by
 rw[F7]at h;cases e:xs[i]? with
 |none=>rw[e]at h;cases h
 |some x=>rw[e]at h;cases h;exact⟨x,rfl,rfl⟩
theorem ph{K:E5}{M:DH}{H:Hp}:∀ns:List Int,ao K M H (ns.map D.int) (ns.map V.int)
 |[]=>ao.nil
 |n::ns=>ao.cons (by simp[Rep]) (ph ns)
theorem ug{K:E5}{H:Hp}{a:F4}{ns:List Int}(b:xS H)(e:SqL K H a (ns.map V.int)):ao K noM H [.scr (ns.map D.int)] [.ref a]:=by
 refine ao.cons ?_ ao.nil;simp only[Rep];refine⟨a,ns.map V.int,rfl,?_,ph ns⟩;rcases e with h|h
 ·left;rcases h with h|h
  ·rcases b a with z|⟨o,g,z⟩<;>(rw[h]at z;cases z)
  ·exact⟨h,rfl⟩
 ·right;exact .inr h
def DM(S:SpD):Prop:=∀(a:List Int) (R:D->DH->Prop),a.length<=63->(∀b,R (.bl true) b)->S [.scr (a.map .int)] noM R
theorem Ec{S:SpD}(A:DM S){k:Nat}{x:Str}{l:PySem.W.OpenLaw}{q:K9}{b:List Str}{G:(Str->Option u8)->K3->Prop}{j:P7->K3->Prop}{d:DefRec}{K:Params->E5}(hr:cc k aq1)(hn:l.most=some 63)(i:d.params.defaults=[])
  (E:∀(w:P7) (h:K3),j w h->(K w.params).In h)
  (F:∀ (w:P7) (g:Str → Option u8) (o:F4) (h:K3),(K w.params).In h → h.Ns J8 g → g d.name = some (.ref o) →
   ∃p:K4,(∀(s:E9) (u:u8),ar1 s p ⟨[u],[]⟩ [(x,u)])/\∀base:K3,(K w.params).In base->base.Ns J8 g->aP l.prog w (K w.params) g base CX0 k o p [x] (spD (K w.params) 1 S)) :
  PySem.W.WalkO q b G j l.row.toRowW d [] (λf C=>PySem.call f C) :=
 L2.sV (n:=63) (k:=k) (x:=x) (CX:=λ_=>CX0) (sp:=λw=>spD (K w.params) 1 S) hn (by decide) i hr E F
  (λw H a m J t I=>⟨[.scr (m.map .int)],noM,λd _=>d=.bl true,rfl,ug t I,HR.nil,A m _ J (λ_=>rfl),λd L v M e _ _ B=>by subst e;simpa only[Rep]using B⟩) λ_ _ _ _ _ z=>z
section
variable{X:Cx}
def neF(x y:D):Option D:=if dLe x 60=true/\dLe y 60=true then some (.bl (!(eqD x y)))else none
theorem nR(g:X.A.units+64<af9):bP X (P2 .NotEq) neF:=by
 intro b s h H M x y v u dx dy dz Q I hr rx ry r1 r2 e k;unfold neF at e
 by_cases a:dLe dx 60=true/\dLe dy 60=true
 ·rw[if_pos a]at e;cases e;exact(lG I 60 (A:=X.A) (by lia) a.1 a.2 r1 r2 rx ry).2.2 X.prog X.w X.xe _ ⟨.bl (!(eqD dx dy)),H,I,rfl,k _ H (Ext.refl _ _) hr (by simp[Rep])⟩
 ·rw[if_neg a]at e;cases e
theorem Ae{a b:Int}:neF (.int a) (.int b)=some (.bl (!(a==b))):=by simp[neF,dLe,eqD]
theorem rV{a b:Str}:neF (.str a) (.str b)=some (.bl (!(a==b))):=by simp[neF,dLe,eqD]
theorem BR{a b:Bool}:neF (.bl a) (.bl b)=some (.bl (!(a==b))):=by simp[neF,dLe,eqD]
end
end L2
namespace HT
open PySem PyProof.Rows
section
variable{prog:K9}{w:P7}{A:M8}{E:u8->E9->Prop}{s:E9}
theorem mz{t:F4}{a:Array u8}{Q:Bool->E9->Prop}(b:al9 s.heap t a)(h:Q true s):J0 (L4 prog w) A (M7.Tuple.tupleIsExact (.ref t)) Q E s:=by
 unfold M7.Tuple.tupleIsExact;exact o0 (an3 b.typeIs (E6 (by simpa using h)))
theorem getItem_tuple_whole{t i:F4}{a:Array u8}{l n:u8}{lo hi:Option Int}{Q:u8->E9->Prop}(b:al9 s.heap t a)(hs:s.heap.IsSliceOf i l n .none)(pl:aq8 l lo)(o:aq8 n hi)
  (m:sIx a.size 0 lo=0/\sIx a.size a.size hi=a.size) (h:Q (.ref t) s):J0 (L4 prog w) A (ar2 (.ref t) (.ref i)) Q E s:=by
 obtain⟨os,g,e,p⟩:=id hs;have j:s.TypeIs (.ref i) "slice":=⟨os,g,e⟩;unfold ar2
 try with_reducible refine N6 ?_
 first|refine o0 (E6 ?_)|skip
 refine o0 (wpAny_sequenceKey b.typeIs (by decide) ?_);refine o0 (wpAny_callSpecial?_slot (name:=J5 "__getitem__") b.typeIs R3
  (aa4 R3 b.typeIs entry_tuple_getitem ?_ (args_tuple_getitem _ _)))
 show J0 _ _ (aa3 (.ref t) >>= _) _ _ s;refine o0 (tupleItemsOf_ b ?_);refine o0 (an3 j ?_);rw[if_pos (by decide)];refine o0 (eV hs pl o ?_);show J0 _ _ (if(((sIx a.size 0 lo:Nat):Int)==0&&(1:Int)==1&&(sIx a.size a.size hi-sIx a.size 0 lo)==a.size)=true then _ else _) _ _ s;rw[if_pos (by rw[m.1,m.2];simp)];refine o0 (mz b ?_);rw[if_pos rfl];refine o0 (al7 ?_)
 first
  |exact E6 ⟨_,rfl,E6 h⟩
  |exact o0 (E6 (E6 ⟨_,rfl,E6 h⟩))
end
end HT
namespace L2
open PySem PySem.Spec PyProof.Rows
section
variable{X:Cx}{a b c e:N1}{W:List N1}{te G Y ts:TEd}{t:TAd}{pos:Pos}
def slE:D->Option Int->Option Int->Option D
 |.tup b,lo,a=>some (.tup (cP b lo a))
 |d,lo,a=>slD d lo a
def EY(K:E5):V->Option Int->Option Int->Hp->VK->Prop:=λx lo e H Q=>∃a b,x=.ref a/\SqT K H a b/\(HT.sIx b.length 0 lo=0/\HT.sIx b.length b.length e=b.length)/\Q (.ref a) H
theorem vB:SlR X (EY X.K):=by
 intro m s n H x v vl vu lo hi sl Q I rx hs pl pu h;obtain⟨a,i,rfl,g,j,q⟩:=h;cases rx;obtain⟨b,r,e,o⟩:=I.tuple g;have l:b.toArray.size=i.length:=by rw[F1];exact r.length.symm
 exact⟨"tuple",_,R3.lookup,e.typeIs,HT.getItem_tuple_whole e hs pl pu (by rw[l];exact j) ⟨.ref a,H,I,rfl,q⟩⟩
theorem rC{ds:List D}{lo hi:Option Int}(h:HT.sIx ds.length 0 lo=0/\HT.sIx ds.length ds.length hi=ds.length):cP ds lo hi=ds:=by
 unfold cP;rw[h.1,h.2];simp
def Dc(te:TEd)(g e:TOd):TEd:=λa M Q=>te a M λx M1=>g a M1 λl M2=>e a M2 λu b=>∃z,slE (rdM b x) l u=some z/\Q z b
theorem DG{ds:List D}{lo hi:Option Int}:slE (.tup ds) lo hi=some (.tup (cP ds lo hi)):=rfl
theorem C5{ds:List D}{lo hi:Option Int}:slE (.lst ds) lo hi=some (.lst (cP ds lo hi)):=rfl
theorem CZ{ds:List D}{lo hi:Option Int}:slE (.scr ds) lo hi=some (.lst (cP ds lo hi)):=rfl
theorem Do{x:Str}{lo hi:Option Int}:slE (.str x) lo hi=if x.length<=F9 then some (.str (ap2 x lo hi))else none:=rfl
theorem ao.reverse{K:E5}{M:DH}{H:Hp}:∀{ds:List D}{a:List V},ao K M H ds a->ao K M H ds.reverse a.reverse
 |[],_,h=>by simp only[ao]at h;subst h;exact ao.nil
 |d::ds,_,h=>by
  simp only[ao]at h;obtain⟨v,g,rfl,b,e⟩:=h;rw[aj1,aj1];exact(ao.reverse e).append (ao.cons b ao.nil)
variable{p:af7}{y:List (Str×F4)}{ar:List Str}{B:N1}
def zw(X:Cx)(p:af7)(y:List (Str×F4))(ar:List Str)(e:List N1)(g:GDs):Prop:=∃m:TGs,(∀C s H n,PGs (aS X p y (X.N++ar) C s H n) e m)/\∀(i:List D) (j:List V) (h:St) (l b:DE) (M:DH) (H:Hp) (Q:St->Hp->Prop),SR X.K M H h l->HR X.K M H->ao X.K M H i j->g i l=some b->(∀ a,SR X.K M H a b->Q a H)->m j h H Q
theorem jU:zw X p y ar [] mS:=⟨AA,λ_ _ _ _=>sg,λh l j m b M H Q g i a e k=>by
 cases h with
 |nil=>simp only[ao]at a;subst a;cases e;exact⟨rfl,k _ g⟩
 |cons _ _=>cases e⟩
theorem cn{a:List N1}{g:GD}{t:GDs}(O:PGa X p y ar B g)(J:zw X p y ar a t)
  (hs:∀env,(W5 (B::a) env).map (·.2)=an1 B env::(W5 a env).map (·.2):=by intro _;rfl):zw X p y ar (B::a) (gQ g t):=by
 obtain⟨w,G,P⟩:=O;obtain⟨S,N,R⟩:=J;refine⟨xN w S,λC s H l=>o9 (G C s H l) (N C s H l) (hs _),λz T I o j M H Q A u n e k=>?_⟩;cases z with
 |nil=>cases e
 |cons d r =>
  simp only[ao]at n;obtain⟨v,m,rfl,E,L⟩:=n;simp only[gQ]at e;cases q:g d o with
  |none=>rw[q]at e;cases e
  |some b =>
   rw[q]at e;exact⟨v,m,rfl,P d v I o b M H _ A u E q λi h=>R r m i b j M H Q h u L e k⟩
theorem jT{b:List N1}{E:Nat}{g:GDs}{n:Nat}(J:X.calm=true)(h:zw X p y ar b g)(hn:∀env,(W5 b env).length=n:=by intro _;rfl)(j:∀env,(W5 b env).findIdx? (·.1)=none:=by intro _;rfl):PGa X p y ar (.Tuple b E pos) (kh g n):=by
 obtain⟨A,L,w⟩:=h;refine⟨BZ X.K n A,λC s H m=>vP (X:=aS X p y (X.N++ar) C s H m) J (L C s H m) (hn _) (j _),λd v B N l M H Q I z u e k=>?_⟩;cases d with
 |tup o =>
  simp only[kh]at e
  by_cases i:o.length=n
  ·rw[if_pos i]at e;simp only[Rep]at u;obtain⟨a,q,rfl,G,t⟩:=u;exact⟨a,q,rfl,G.sq,by rw[<-t.length];exact i,w o q B N l M H Q I z t e k⟩
  ·rw[if_neg i]at e;cases e
 |_=>cases e
end
section
variable{X:Cx}{a b c e:N1}{es:List N1}{te ta tb ts:TEd}{t:TAd}{pos:Pos}
def inE(a:Bool)(x y:D):Option D:=match y with
 |.str j=>match x with
  |.str i=>some (.bl (xor a (!(ac7 j i 0 j.length 1).isEmpty)))
  |_=>none
 |y=>inD a x y
theorem tQ:bP X (P2 .In) (inE false):=by
 intro a s b H M x y v u dx dy dz Q I hr rx ry r1 r2 e k;cases dy with
 |str j =>
  cases dx with
  |str i =>
   cases e;exact uc a s b H x y v u Q I rx ry ⟨i,j,mr r1,mr r2,k _ H (Ext.refl _ _) hr (by simp[Rep])⟩
  |_=>cases e
 |_=>exact EU a s b H M x y v u dx _ dz Q I hr rx ry r1 r2 e k
theorem lD:bP X (P2 .NotIn) (inE true):=by
 intro a s b H M x y v u dx dy dz Q I hr rx ry r1 r2 e k;cases dy with
 |str j =>
  cases dx with
  |str i =>
   cases e;exact nI a s b H x y v u Q I rx ry ⟨i,j,mr r1,mr r2,k _ H (Ext.refl _ _) hr (by simp[Rep])⟩
  |_=>cases e
 |_=>exact zo a s b H M x y v u dx _ dz Q I hr rx ry r1 r2 e k
theorem CA{b:Bool}{x:D}{ds:List D}:inE b x (.lst ds)=if bo x=true/\ds.all bo=true then some (.bl (xor b (ds.any λd=>eqD d x)))else none:=rfl
theorem Cp{b:Bool}{x:D}{ds:List D}:inE b x (.tup ds)=if bo x=true/\ds.all bo=true then some (.bl (xor b (ds.any λd=>eqD d x)))else none:=rfl
theorem v7{b:Bool}{c:Nat}{y:Str}:inE b (.str (tx [c])) (.str y)=some (.bl (xor b (decide (c∈y.cps.toList)))):=by
 show some (D.bl (xor b (!(ac7 y ⟨#[c]⟩ 0 y.length 1).isEmpty)))=_;rw[StrLaws.found_one]
theorem zl{a:List (F4×Obj)}{σ:St}{H:Hp}{s:E9}(I:Inv X a σ H s):ar0<s.heap.objs.size:=by
 have h:J8<s.heap.objs.size:=(I.mod.glob.keeps I.bk).lt;exact Nat.lt_trans (by decide) h
def Dt:TEd:=λ_ M Q=>Q .emp M
theorem jZ:fillsNumberSlot (.type "tuple") "mul"=af8 false :=
 PySem.fillsNumberSlot_seq (id:="tuple.__mul__") (r:=some (.builtin "tuple.__rmul__")) F.slot_tuple_mul.lookup (by decide +kernel) F.slot_tuple_rmul.lookup (by decide +kernel)
theorem oM:seqRepeat? (.type "tuple")=af8 (some (.builtin "tuple.__mul__")):=by
 unfold seqRepeat?;rw[PySem.seqSlot_of (T:="tuple") (name:="__mul__") (id:="tuple.__mul__") F.slot_tuple_mul.lookup (by decide +kernel),PySem.seqSlot_of (T:="tuple") (name:="__rmul__") (id:="tuple.__rmul__") F.slot_tuple_rmul.lookup (by decide +kernel)];rfl
theorem lF(a:Int)(t:Tok)(l:F4)(b:Array u8):
  Meets (M7.«int.__rmul__» ⟨[.int a t,.ref l],[]⟩) (λ_ R s=>al9 s.heap l b/\R (.ok (.ret u8.notImplemented)) s) :=
 .of_wp λprog w A R s h=>by
  obtain⟨o,g,d,m,os⟩:=s;obtain⟨⟨⟨cls,u,e,q⟩,p,i,n,j⟩,h⟩:=h;simp only at i j;subst i j
  wp_walk;exact⟨_,rfl,h⟩
theorem mi(l:F4)(b:Array u8)(x:Int)(u:Tok)(e:b.isEmpty=false)(G:2<=x)(B:x<2 ^ 62)(t:b.size*x.toNat<=F9):
  Meets (M7.«tuple.__mul__» ⟨[.ref l,.int x u],[]⟩) (λ_ R s=>al9 s.heap l b/\R (.ok (.ret (.ref s.heap.objs.size))) { s with heap:=s.heap.push { cls:=.type "tuple",data:=.seq (F5 x.toNat b.toList).flatten.toArray } }) :=
 .of_wp λprog w A R s h=>by
  obtain⟨o,h⟩:=h;show J0 _ _ (do
   let n <-asIndex (.int x u)
   if n < -(2 ^ 63) || n>=2 ^ 63 then
    rule "tuple.repeat.overflow";raiseError "OverflowError" s!"cannot fit '{← typeNameOf (.int x u)}' into an index-sized integer"
   let g <-aa3 (.ref l)
   if g.isEmpty || n==1 then
    if <-M7.Tuple.tupleIsExact (.ref l)then rule "tuple.repeat.same-object";return <-ret (.ref l)
   if n<=0 || g.isEmpty then return <-ret (<-S9 #[])
   if g.size*n > (2 ^ 63-1) / 8 then rule "tuple.repeat.no-memory";raiseNew (<-newExc (.type "MemoryError") [])
   if M7.Tuple.tupleTooMany (g.size*n)then aq3 "tuple.__mul__:memory"
   ret (<-S9 ((F5 n.toNat g).foldl (·++·) #[]))) _ _ s
  refine o0 (ao5 (a:=x) rfl ?_);dsimp only;rw[if_neg (by simp only[Bool.or_eq_true,decide_eq_true_eq];lia)];refine o0 (tupleItemsOf_ o ?_);rw[if_neg (by simp[e];lia)];rw[if_neg (by simp[e];lia)];have i:((x.toNat:Nat):Int)=x:=by lia
  have j:(b.size:Int)*x=((b.size*x.toNat:Nat):Int):=by rw[Int.natCast_mul,i]
  have z:F9=16777216:=rfl;rw[if_neg (by rw[j];lia)];rw[if_neg (by unfold M7.Tuple.tupleTooMany;rw[j];simp only[decide_eq_true_eq];lia)];have E:ar3 (λC q=>C++q) #[] (F5 x.toNat b)=(F5 x.toNat b.toList).flatten.toArray:=by
   have:=jR b.toList x.toNat [];rw[N0]at this;simpa using this
  rw[E];have p:sizeOk (.seq (F5 x.toNat b.toList).flatten.toArray):=by
   show(F5 x.toNat b.toList).flatten.toArray.size<=F9;rw[F1,o5,J1,ak5];exact t
  exact o0 (m:=S9 _) (V0 (E6 ⟨_,rfl,h⟩) p)
theorem ao.rep{K:E5}{M:DH}{H:Hp}{ds:List D}{a:List V}(h:ao K M H ds a):∀k:Nat,ao K M H (F5 k ds).flatten (F5 k a).flatten
 |0=>ao.nil
 |k+1=>by
  rw[Q7,Q7,Z8,Z8];exact h.append (ao.rep h k)
def kX:D->D->Option D
 |.int a,.int b=>if jQ a b then some (.int (a*b))else none
 |.str x,.int n=>if x.length<=16777216/\-(2 ^ 63)<=n/\n<=16777216/\x.length*n.toNat<=16777216 then some (.str (Txt.mul x n))else none
 |.tup e,.int n=>if 2<=n/\n<2 ^ 62/\e≠[]/\e.length*n.toNat<=F9 then some (.tup (F5 n.toNat e).flatten)else none
 |.lst e,.int n=>if -(2 ^ 63)<=n/\n<2 ^ 63/\e.length*n.toNat<=F9 then some (.lst (F5 n.toNat e).flatten)else none
 |_,_=>none
theorem bY:bP X (X5 .Mult) kX:=by
 intro J s N H M x y v u dx dy dz Q I hr rx ry r1 r2 e k;cases dx with
 |int a =>
  cases dy with
  |int b=>exact B0 J s N H M x y v u _ _ dz Q I hr rx ry r1 r2 e k
  |_=>cases e
 |str z =>
  cases dy with
  |int n =>
   simp only[kX]at e
   by_cases g:z.length<=16777216/\-(2 ^ 63)<=n/\n<=16777216/\z.length*n.toNat<=16777216
   ·rw[if_pos g]at e;cases e;have R:=mr r1;have E:=gS r2;subst R;subst E;obtain⟨t1,rfl⟩:=rx;obtain⟨j,rfl⟩:=ry;have B:MulOk z n:=by
     by_cases hn:0<=n
     ·exact mulOk_of z.length n.toNat (F6 _) (by lia) g.2.1 (by lia) g.2.2.2
     ·exact mulOk_of z.length 0 (F6 _) (by lia) g.2.1 (by lia) (by lia)
    exact SB.mul B λG kk=>⟨.str _,H,I.tok _,⟨G,rfl⟩,k _ H (Ext.refl _ _) hr (by simp[Rep])⟩
   ·rw[if_neg g]at e;cases e
  |_=>cases e
 |tup l =>
  cases dy with
  |int n =>
   simp only[kX]at e
   by_cases g:2<=n/\n<2 ^ 62/\l≠[]/\l.length*n.toNat<=F9
   ·rw[if_pos g]at e;cases e;have E:=gS r2;subst E;obtain⟨j,rfl⟩:=ry;obtain⟨a,w,rfl,sq,t⟩:=r1;cases rx;obtain⟨h,L,pt,Z⟩:=I.tuple sq;have m:=L.length;have i:=t.length;have C:h.toArray.isEmpty=false:=by
     cases h with
     |nil =>
      have S:l.length=0:=by rw[i,m];rfl
      exact absurd (List.length_eq_zero_iff.mp S) g.2.2.1
     |cons _ _=>rfl
    have A:h.toArray.size*n.toNat<=F9:=by rw[F1,<-m,<-i];exact g.2.2.2
    refine wpAny_binaryOp_repeat_ref (T:="tuple") (U:="int") (by decide) pt.typeIs (λP=>ap7 P n j) jZ F.fills_int_mul am2 oM F.slot_int_index.lookup
     (ah0 am2 (ap7 s n j) F.entry_int_rmul (F.args_int_rmul_2 _ _) (lF n j a h.toArray)
      ⟨pt,rfl,pt.typeIs,ah0 F.slot_tuple_mul pt.typeIs F.entry_tuple_mul (F.args_tuple_mul_2 _ _) (mi a h.toArray n j C g.1 g.2.1 A) ⟨pt,?_⟩⟩)
    have Y:aw (F5 n.toNat w).flatten (F5 n.toNat h).flatten:=L.rep n.toNat;refine⟨.ref s.heap.objs.size,_,I.laid (t':=s.toks) (o:=.tup (F5 n.toNat w).flatten) (λb ob q=>E7 _ q) (F6 _) ?_,rfl,?_⟩
    ·refine⟨?_,_,Y,by simpa using kl.new _ _⟩;rw[o5,ak5,<-i];exact g.2.2.2
    ·exact nV hr (I.hok.fresh (F6 _)) (t.rep n.toNat) k
   ·rw[if_neg g]at e;cases e
  |_=>cases e
 |lst l =>
  cases dy with
  |int n =>
   simp only[kX]at e
   by_cases g:-(2 ^ 63)<=n/\n<2 ^ 63/\l.length*n.toNat<=F9
   ·rw[if_pos g]at e;cases e;obtain⟨a,w,rfl,sq,t⟩:=r1;exact vy J s N H _ _ v u Q I rx ry ⟨a,n,w,rfl,gS r2,sq,g.1,g.2.1,by rw[<-t.length];exact g.2.2,λp O=>fj hr O (t.rep n.toNat) k⟩
   ·rw[if_neg g]at e;cases e
  |_=>cases e
 |_=>cases e
theorem yF{a b:Int}:kX (.int a) (.int b)=if jQ a b then some (.int (a*b))else none:=rfl
def Ac:D->Bool
 |.non=>true
 |_=>false
def yc(a:Bool)(x y:D):Option D:=match y with|.non=>some (.bl (xor a (Ac x)))|_=>none
theorem uZ{b:Bool}{x:D}:yc b x .non=some (.bl (xor b (Ac x))):=rfl
def B2(ms:List Bool)(k:Nat)(h:TId)(g:GD)(tc:TTd)(te:TEd):TEd:=λb M Q=>h b M λa M1=>a.length<=F9/\cz g tc te a (qo ms k b) M1 [] λe M2=>∀p,M2 p=none->Q (.ref p) (aF M2 p (.lst e))
theorem vU{K:E5}{l:TId}{g:GD}{tc:TTd}{te:TEd}{m:TG}{ms:List Bool}{h:Nat}(A:tT K g m):
  ∀ σ H Q,up K (B2 ms h l g tc te) σ H Q->tLc ms h (upI K l) m (upT K tc) (up K te) σ H Q:=by
 rintro σ H Q ⟨E,M,R,j,I,q,k⟩;refine⟨E,M,_,j,I,q,λS M1 J U ⟨s,o⟩ i b C=>?_⟩;obtain⟨W,Z,B,u,N⟩:=tV A C b s ((j.ext i).comp ms h) o;refine⟨W,Z,B,u,λT G P p z e=>?_⟩;obtain⟨O,n,t,a,w,L⟩:=N _ _ _ z;exact k _ _ _ _ (L p (a.fresh e)) ((i.trans t).trans (Ext.own e)) (a.own e w) (by simp only[Rep])
variable{B:af7}{cl:List (Str×F4)}{ms:List Bool}{ar:List Str}{Y:List N1}{tg G elt:N1}
end
@[irreducible] def QEd(X:Cx)(e:N1)(t:TEd):Prop:=PEd X e t
theorem QEd.eq{X:Cx}{e:N1}{t:TEd}:QEd X e t=(PEd X e t):=by unfold QEd;rfl
@[irreducible] def QAd(X:Cx)(e:List N1)(t:TAd):Prop:=PAd X e t
theorem QAd.eq{X:Cx}{e:List N1}{t:TAd}:QAd X e t=(PAd X e t):=by unfold QAd;rfl
@[irreducible] def QTd(X:Cx)(e:N1)(t:TTd):Prop:=PTd X e t
theorem QTd.eq{X:Cx}{e:N1}{t:TTd}:QTd X e t=(PTd X e t):=by unfold QTd;rfl
@[irreducible] def QWd(X:Cx)(e:N1)(t:TTd):Prop:=PWd X e t
theorem QWd.eq{X:Cx}{e:N1}{t:TTd}:QWd X e t=(PWd X e t):=by unfold QWd;rfl
@[irreducible] def QSd(X:Cx)(e:Z7)(t:TSd):Prop:=PSd X e t
theorem QSd.eq{X:Cx}{e:Z7}{t:TSd}:QSd X e t=(PSd X e t):=by unfold QSd;rfl
@[irreducible] def QSs(X:Cx)(e:List Z7)(t:TSd):Prop:=yj X e t
theorem QSs.eq{X:Cx}{e:List Z7}{t:TSd}:QSs X e t=(yj X e t):=by unfold QSs;rfl
@[irreducible] def QId(X:Cx)(a e:N1)(t:TId):Prop:=PId X a e t
theorem QId.eq{X:Cx}{a e:N1}{t:TId}:QId X a e t=(PId X a e t):=by unfold QId;rfl
@[irreducible] def QIf(X:Cx)(e:List N1)(t:TTd):Prop:=Dn X e t
theorem QIf.eq{X:Cx}{e:List N1}{t:TTd}:QIf X e t=(Dn X e t):=by unfold QIf;rfl
@[irreducible] def QOd(X:Cx)(e:Option N1)(t:TOd):Prop:=POd X e t
theorem QOd.eq{X:Cx}{e:Option N1}{t:TOd}:QOd X e t=(POd X e t):=by unfold QOd;rfl
theorem af{X:Cx}(i:Nat){x:Str}{pos:Pos}(h:X.N[i]?=some x:=by rfl)(j:Vis X.env.scope x:=by first|exact N8 rfl|exact ap1 (N8 rfl)|exact ap1 (ap1 rfl))(m:(x==("__debug__":Str))=false:=by decide)
  (a:(x==("__classdict__":Str))=false:=by decide):QEd X (.Name x pos) (DC i):=by
 simp only[QEd.eq]at *
 exact(vm h j m a).conv λo H Q ⟨p,M,R,l,b,⟨d,e,q⟩,k⟩=>let⟨v,g,n⟩:=l.2 i d e;⟨v,g,k d M v H q (Ext.refl _ _) b n⟩
theorem ag{X:Cx}{i j pos}:QEd X (.Constant (.int i) j pos) (dC (.int i)):=by
 simp only[QEd.eq]at *
 exact Ai.conv λg H Q a=>a.el λh M R e b q k=>k _ M _ H q (Ext.refl _ _) b (by simp[Rep])
theorem lB{X:Cx}{i j pos}:QEd X (.Constant (.bool i) j pos) (dC (.bl i)):=by
 simp only[QEd.eq]at *
 exact Dd.conv λg H Q a=>a.el λh M R e b q k=>k _ M _ H q (Ext.refl _ _) b (by simp[Rep])
theorem bp{X:Cx}{i j pos}:QEd X (.Constant (.str i) j pos) (dC (.str i)):=by
 simp only[QEd.eq]at *
 exact wN.conv λg H Q a=>a.el λh M R e b q k=>k _ M _ H q (Ext.refl _ _) b (by simp[Rep])
theorem tZ{X:Cx}{j pos}:QEd X (.Constant .none j pos) (dC .non):=by
 simp only[QEd.eq]at *
 exact B9.conv λg H Q a=>a.el λh M R e b q k=>k _ M _ H q (Ext.refl _ _) b (by simp[Rep])
theorem dF{X:Cx}{x:Str}{i:Int}{pos:Pos}(hg:Gl X x)(g:∃b,X.mg x=some (.int i b))(e:(x==("__debug__":Str))=false:=by decide):QEd X (.Name x pos) (dC (.int i)):=by
 simp only[QEd.eq]at *
 obtain⟨t,a⟩:=g;exact zj hg a e
theorem xn{X:Cx}{x y:Str}{pos:Pos}(hg:Gl X x)(g:∃b,X.mg x=some (.str y b))(e:(x==("__debug__":Str))=false:=by decide):QEd X (.Name x pos) (dC (.str y)):=by
 simp only[QEd.eq]at *
 obtain⟨t,a⟩:=g;exact ym hg a e
theorem ah{X:Cx}:QAd X [] C3:=by
 simp only[QAd.eq]at *
 exact de.conv λg H Q a=>a.el λh M R e b q k=>k _ M _ H q (Ext.refl _ _) b ao.nil
theorem ae{X:Cx}{a:N1}{b:List N1}{n:TEd}{l:TAd}(ha:QEd X a n)(hr:QAd X b l)(hs:F3 (a::b) X.env=(false,aa2 a X.env)::F3 b X.env:=by rfl):QAd X (a::b) (z8 n l):=by
 simp only[QEd.eq,QAd.eq]at *
 exact(bA ha hr hs).conv λA H Q g=>g.el λo M R m hr q k=>⟨o,M,_,m,hr,q,λd M1 v C t j e u=>⟨o,M1,_,m.ext j,e,t,λz M2 B s w p i h =>
   k _ M2 _ s w (j.trans p) i (ao.cons (u.ext p) h)⟩⟩
theorem aL{X:Cx}{g:List N1}{pos:Pos}{x1}{t:TAd}(h:QAd X g t):QEd X (.Tuple g x1 pos) (Cv t):=by
 simp only[QEd.eq,QAd.eq]at *
 exact(Am h).conv λu H Q e=>e.el λs M R o j q k=>⟨s,M,_,o,j,q,λw M1 m A ⟨z,l⟩ n a i=>⟨by rw[<-i.length];exact z,λp b=>k _ M1 _ _ l (n.trans (Ext.new a b)) (a.new b) (by
   simp only[Rep];exact⟨p,m,rfl,.inl ⟨.inl aX,a.fresh b⟩,i.ext (Ext.new a b)⟩)⟩⟩
theorem dS{X:Cx}{g:List N1}{pos:Pos}{t:TAd}(h:QAd X g t):QEd X (.List g pos) (Cw t):=by
 simp only[QEd.eq,QAd.eq]at *
 exact(vG h).conv λu H Q e=>e.el λs M R o j q k=>⟨s,M,_,o,j,q,λw M1 m A ⟨z,l⟩ n a i=>⟨by rw[<-i.length];exact z,λp b=>k _ M1 _ _ l (n.trans (Ext.new a b)) (a.new b) (by
   simp only[Rep];exact⟨p,m,rfl,⟨aX,a.fresh b⟩,i.ext (Ext.new a b)⟩)⟩⟩
theorem eJ{X:Cx}{g:List N1}{pos:Pos}{t:TAd}(h:QAd X g t):QEd X (.List g pos) (zK t):=by
 simp only[QEd.eq,QAd.eq]at *
 exact(vG h).conv λs H Q e=>e.el λo M R n j q k=>⟨o,M,_,n,j,q,λu M1 w A ⟨z,l⟩ m a i=>⟨by rw[<-i.length];exact z,λp b=>k _ _ _ _ (l p (a.fresh b)) (m.trans (Ext.own b)) (a.own b i) (by
   simp only[Rep])⟩⟩
theorem aA{X:Cx}{a:N1}{b:N1}{h:TEd}{e:TEd}{pos:Pos}{g:Operator}{r:D->D->Option D}(j:bP X (X5 g) r)(ha:QEd X a h)(i:QEd X b e):QEd X (.BinOp a g b pos) (dOp r h e):=by
 simp only[QEd.eq]at *
 exact(zP j.v ha i).conv vi
theorem jf{X:Cx}{a:N1}{b:N1}{h:TEd}{g:TEd}{pos:Pos}{e:as0}{r:D->D->Option D}(l:bP X (P2 e) r)(ha:QEd X a h)(i:QEd X b g)(j:af0 e b=false):QEd X (.Compare a [e] [b] pos) (dOp r h g):=by
 simp only[QEd.eq]at *
 exact(yU l.v ha i j).conv vi
theorem ay{X:Cx}{a:N1}{b:N1}{g:TEd}{e:TEd}{pos:Pos}{r:D->D->Option D}(i:IxR X (opV X.K r))(ha:QEd X a g)(h:QEd X b e)(hs:tO b):QEd X (.Subscript a b pos) (dOp r g e):=by
 simp only[QEd.eq]at *
 exact(CG i ha h hs).conv vi
theorem Bg{X:Cx}{a:N1}{t:TEd}{pos:Pos}{l:UnaryOp}{r:D->Option D}(N:Dh X (unaryOp l) r)(ha:QEd X a t):QEd X (.UnaryOp l a pos) (dUn r t):=by
 simp only[QEd.eq]at *
 have h:UnR X (unaryOp l) (λx H Q=>∃i j M,HR X.K M H/\aN X.K M H i x/\r i=some j/\∀w b,Ext M H M b->HR X.K M b->Rep X.K M b j w->Q w b):=λB s u H x v Q I L ⟨i,j,M,p,J,e,k⟩=>N B s u H M x v i j Q I p L J e k;exact(Dg h ha).conv λu H Q m=>m.el λG M R C p q k=>⟨G,M,_,C,p,q,λx M1 v T ⟨z,S,A⟩ O g E=>⟨_,z,M1,g,E.rd g,S,λw b P n o=>k z M1 w b A (O.trans P) n o⟩⟩
theorem aK{X:Cx}{a:N1}{b:N1}{p:TEd}{n:TEd}{pos:Pos}{i:as0}{r:D->D->Option D}(E:bP X (P2 i) r)(ha:QEd X a p)(G:QEd X b n)(I:af0 i b=false):QTd X (.Compare a [i] [b] pos) (vH (dOp r p n)):=by
 simp only[QEd.eq,QTd.eq]at *
 refine(zu E.v ha G I).conv λU H Q h=>?_;obtain⟨s,M,R,o,N,q,k⟩:=h;exact⟨s,M,_,o,N,q,λx M1 v Y C m g J=>⟨s,M1,_,o.ext m,g,C,λy M2 u T ⟨z,O,b,A,P⟩ t e L=>⟨_,_,z,M2,e,(J.ext t).rd e,L.rd e,O,λw B S l j =>
  ⟨b,by subst A;simpa only[Rep]using j,k b M2 B P ((m.trans t).trans S) l⟩⟩⟩⟩
theorem bN{X:Cx}{a:N1}{e:TEd}(h:QEd X a e)(he:∀b,isTrue a X.env b=(do let v <-b;as1 a.pos;ak9 [v] (truthy v)):=by intro _;rfl):QTd X a (vH e):=by
 simp only[QEd.eq,QTd.eq]at *
 exact(B8 h he).conv DS
theorem cq{X:Cx}{a:N1}{pos:Pos}{i:TTd}(h:QTd X a i):QTd X (.UnaryOp .Not a pos) (zT i):=by
 simp only[QTd.eq]at *
 exact(B7 h).conv λs H Q g=>g.el λp M R o j q k=>⟨p,M,_,o,j,q,λb M1 n l m e=>k _ M1 n l m e⟩
theorem g8{X:Cx}{a:N1}{pos:Pos}{b:TTd}(ha:QTd X a b):QWd X (.BoolOp .And [a] pos) b:=by
 simp only[QTd.eq,QWd.eq]at *
 exact zz ha
theorem fS{X:Cx}{a:N1}{pos:Pos}{b:TTd}(ha:QTd X a b):QWd X (.BoolOp .Or [a] pos) b:=by
 simp only[QTd.eq,QWd.eq]at *
 exact Bb ha
theorem iI{X:Cx}{a:N1}{b:N1}{pos:Pos}{o:TTd}{g:TTd}{rest:List N1}(ha:QTd X a o)(s:QWd X (.BoolOp .And (b::rest) pos) g):QWd X (.BoolOp .And (a::b::rest) pos) (zJ o g):=by
 simp only[QTd.eq,QWd.eq]at *
 exact(AU ha s).conv λA H Q i=>i.el λn M R m t q k=>⟨n,M,_,m,t,q,λc M1 z h j e=>by
   cases c with
   |true=>simp only[if_true]at h ⊢;exact⟨n,M1,R,m.ext j,e,h,λb M2 p w u l=>k b M2 p w (j.trans u) l⟩
   |false=>simp only[F0,if_false]at h ⊢;exact k _ M1 z h j e⟩
theorem fP{X:Cx}{a:N1}{b:N1}{pos:Pos}{o:TTd}{g:TTd}{rest:List N1}(ha:QTd X a o)(s:QWd X (.BoolOp .Or (b::rest) pos) g):QWd X (.BoolOp .Or (a::b::rest) pos) (CK o g):=by
 simp only[QTd.eq,QWd.eq]at *
 exact(DW ha s).conv λA H Q i=>i.el λn M R m t q k=>⟨n,M,_,m,t,q,λc M1 z h j e=>by
   cases c with
   |false=>simp only[F0,if_false]at h ⊢;exact⟨n,M1,R,m.ext j,e,h,λb M2 p w u l=>k b M2 p w (j.trans u) l⟩
   |true=>simp only[if_true]at h ⊢;exact k _ M1 z h j e⟩
theorem eB{X:Cx}{a:N1}{b:TEd}{pos:Pos}{op}(h:QEd X a b):QEd X (.BoolOp op [a] pos) b:=by
 simp only[QEd.eq]at *
 exact An h
theorem bH{X:Cx}{a:N1}{b:N1}{o:TEd}{m:TEd}{pos:Pos}{rest:List N1}(ha:QEd X a o)(u:QEd X (.BoolOp .And (b::rest) pos) m):QEd X (.BoolOp .And (a::b::rest) pos) (CF o m):=by
 simp only[QEd.eq]at *
 exact(AR ha u).conv λG H Q i=>i.el λp M R n A q k=>⟨p,M,_,n,A,q,λd M1 v E ⟨c,e,h⟩ j g z=>⟨c,by subst e;simpa only[Rep]using z,by
   cases c with
   |true=>simp only[if_true]at h ⊢;exact⟨p,M1,R,n.ext j,g,h,λb M2 t s C B l w=>k b M2 t s C (j.trans B) l w⟩
   |false=>simp only[F0,if_false]at h ⊢;exact k _ M1 _ E h j g (by simp[Rep])⟩⟩
theorem Cg{X:Cx}{a:N1}{h:TEd}{pos:Pos}(ha:QEd X a h):QEd X (.UnaryOp .Not a pos) (Co h):=by
 simp only[QEd.eq]at *
 exact(Ah ha).conv λs H Q g=>g.el λp M R n i q k=>⟨p,M,_,n,i,q,λd M1 v m ⟨c,e,j⟩ l b o =>
  ⟨c,by subst e;simpa only[Rep]using o,k _ M1 _ m j l b (by simp[Rep])⟩⟩
theorem EZ{X:Cx}{a:N1}{b:N1}{c:N1}{w:TEd}{u:TEd}{pos:Pos}{z:TTd}(B:QTd X c z)(ha:QEd X a w)(A:QEd X b u):QEd X (.IfExp c a b pos) (dIf z w u):=by
 simp only[QEd.eq,QTd.eq]at *
 exact(vz B ha A).conv λE H Q m=>m.el λp M R n C q k=>⟨p,M,_,n,C,q,λc M1 G h i g=>by
   cases c with
   |true=>simp only[if_true]at h ⊢;exact⟨p,M1,R,n.ext i,g,h,λb M2 l j t s e o=>k b M2 l j t (i.trans s) e o⟩
   |false=>simp only[F0,if_false]at h ⊢;exact⟨p,M1,R,n.ext i,g,h,λb M2 l j t s e o=>k b M2 l j t (i.trans s) e o⟩⟩
theorem kJ{X:Cx}{a:N1}{b:N1}{c:N1}{L:TEd}{I:TEd}{pos:Pos}{tc:TEd}{s g:as0}{r G:D->D->Option D}(U:bP X (P2 s) r)(t:bP X (P2 g) G)(ha:QEd X a L)(Y:QEd X b I)(hc:QEd X c tc)
  (hm:as2 [s,g] [b,c]=false:=by with_unfolding_all rfl):QEd X (.Compare a [s,g] [b,c] pos) (rM r G L I tc):=by
 simp only[QEd.eq]at *
 refine(wV U.v t.v ha Y hc hm).conv λσ H Q h=>?_;obtain⟨C,M,R,A,hr,q,k⟩:=h;refine⟨C,M,_,A,hr,q,λx M1 v H1 T l p rv=>⟨C,M1,_,A.ext l,p,T,λy M2 u H2 ⟨b,P,n⟩ m i N=>⟨_,_,.bl b,M2,i,(rv.ext m).rd i,N.rd i,P,λw H3 o j B =>
  ⟨b,by simpa only[Rep]using B,?_⟩⟩⟩⟩
 cases b with
 |true =>
  simp only[if_true]at n ⊢;exact⟨C,M2,_,(A.ext (l.trans m)).ext o,j,n,λz O w4 H4 ⟨d,Z,q4⟩ J e r4=>⟨_,_,d,O,e,((N.ext o).ext J).rd e,r4.rd e,Z,λw5 H5 e5 E S=>k d O w5 H5 q4 ((((l.trans m).trans o).trans J).trans e5) E S⟩⟩
 |false =>
  simp only[F0,if_false]at n ⊢;exact k _ M2 _ H3 n ((l.trans m).trans o) j (by simp[Rep])
theorem lS{X:Cx}{a:N1}{b:N1}{c:N1}{O:TEd}{L:TEd}{pos:Pos}{tc:TEd}{t g:as0}{r J:D->D->Option D}(Z:bP X (P2 t) r)(A:bP X (P2 g) J)(ha:QEd X a O)(hb:QEd X b L)(hc:QEd X c tc)
  (hm:as2 [t,g] [b,c]=false:=by with_unfolding_all rfl):QTd X (.Compare a [t,g] [b,c] pos) (vH (rM r J O L tc)):=by
 simp only[QEd.eq,QTd.eq]at *
 refine(wL Z.v A.v ha hb hc hm).conv λσ H Q h=>?_;obtain⟨E,M,R,B,hr,q,k⟩:=h;refine⟨E,M,_,B,hr,q,λx M1 v H1 Y n s rv=>⟨E,M1,_,B.ext n,s,Y,λy M2 u H2 ⟨b,T,l⟩ o i P=>⟨_,_,.bl b,M2,i,(rv.ext o).rd i,P.rd i,T,λw H3 p m C =>
  ⟨b,by simpa only[Rep]using C,?_⟩⟩⟩⟩
 cases b with
 |true =>
  simp only[if_true]at l ⊢;exact⟨E,M2,_,(B.ext (n.trans o)).ext p,m,l,λz S w4 H4 ⟨d,ed,G,j,q4⟩ N e r4=>⟨_,_,d,S,e,((P.ext p).ext N).rd e,r4.rd e,ed,λw5 H5 e5 I U=>⟨G,by subst j;simpa only[Rep]using U,k G S H5 q4 ((((n.trans o).trans p).trans N).trans e5) I⟩⟩⟩
 |false =>
  simp only[F0,if_false]at l ⊢;obtain⟨G,j,l⟩:=l;cases j;exact⟨false,rfl,k _ M2 H3 l ((n.trans o).trans p) m⟩
theorem au{X:Cx}{pos:Pos}{x:Str}{p:Pos}{e:N1}{a:List N1}{t:TAd}{id:String}{r:List D->Option D}(g:bQ X (.builtin id) r)(hg:Gl X x)(h:X.mg x=none)(b:aa5 x=some (.builtin id))(ha:QAd X (e::a) t)(hn:x≠"__name__":=by decide)(hdb:(x==("__debug__":Str))=false:=by decide)
  (he:F3 (e::a) X.env=(false,aa2 e X.env)::F3 a X.env:=by rfl) (hpl:(U6 pos (F3 a X.env)).any (·.1)=false:=by rfl):QEd X (.Call (.Name x p) (e::a) [] pos) (dCB r t):=by
 simp only[QEd.eq,QAd.eq]at *
 exact(gF g.v hg h b ha hn hdb he hpl).conv zN
theorem bh{X:Cx}{pos:Pos}{x:Str}{p:Pos}{e:N1}{a:List N1}{t:TAd}{id:String}{r:List D->Option D}(g:bQ X (.type id) r)(hg:Gl X x)(h:X.mg x=none)(b:aa5 x=some (.type id))(ha:QAd X (e::a) t)(hn:x≠"__name__":=by decide)(hdb:(x==("__debug__":Str))=false:=by decide)
  (he:F3 (e::a) X.env=(false,aa2 e X.env)::F3 a X.env:=by rfl) (hpl:(U6 pos (F3 a X.env)).any (·.1)=false:=by rfl):QEd X (.Call (.Name x p) (e::a) [] pos) (dCB r t):=by
 simp only[QEd.eq,QAd.eq]at *
 exact(u5 g.v hg h b ha hn hdb he hpl).conv zN
theorem bg{X:Cx}:QSs X [] v8:=by
 simp only[QSs.eq]at *
 exact sk.conv λD g H a=>a.el λh M E e b q u=>u.nx h M g H q (Ext.refl _ _) b e
theorem aj{X:Cx}{st:Z7}{rest:List Z7}{t:TSd}{u:TSd}(m:QSd X st t)(p:QSs X rest u):QSs X (st::rest) (yR t u):=by
 simp only[QSd.eq,QSs.eq]at *
 exact(lY m p).conv λD z H e=>e.el λs M E n h q k=>⟨s,M,{ E with nx:=u E },n,h,q,⟨λb i j w o l g a=>⟨b,i,E,a,g,o,k.ext l⟩,k.bk,k.ct,k.rt⟩⟩
theorem aq{X:Cx}{st:Z7}{t:TSd}(a:QSd X st t):QSs X [st] t:=by
 simp only[QSd.eq,QSs.eq]at *
 exact oW a
theorem aZ{X:Cx}{e:N1}{te:TEd}{pos:Pos}(he:QEd X e te):QSd X (.Return (some e) pos) (BJ te):=by
 simp only[QEd.eq,QSd.eq]at *
 exact(nM he).conv λD i H a=>a.el λh M E g b q k=>⟨h,M,_,g,b,q,k.rt⟩
theorem cQ{X:Cx}{e:N1}{te:TEd}{pos:Pos}(he:QEd X e te)(hs:ah5 e none pos.line X.env=af8 false:=by rfl):QSd X (.Expr e pos) (zR te):=by
 simp only[QEd.eq,QSd.eq]at *
 exact(nU he hs).conv λD l H b=>b.el λi M E h j q k=>⟨i,M,_,h,j,q,λd M1 v n m g a _=>k.nx i M1 l n m g a (h.ext g)⟩
theorem bC{X:Cx}{c:N1}{pos:Pos}{t:TSd}{u:TSd}{l m:List Z7}{tc:TTd}(o:QTd X c tc)(ha:QSs X l t)(n:QSs X m u):QSd X (.If c l m pos) (B6 tc t u):=by
 simp only[QTd.eq,QSd.eq,QSs.eq]at *
 exact(zO o ha n).conv λD s H h=>h.el λj M E i p q k=>⟨j,M,_,i,p,q,λb M1 w e g a=>by
   cases b with
   |true=>simp only[if_true]at e ⊢;exact⟨j,M1,E,i.ext g,a,e,k.ext g⟩
   |false=>simp only[F0,if_false]at e ⊢;exact⟨j,M1,E,i.ext g,a,e,k.ext g⟩⟩
theorem aE{X:Cx}{e:N1}{te:TEd}{pos:Pos}{i:Nat}{x:Str}{a:Pos}(l:X.N.Nodup)(hi:X.N[i]?=some x)(s:Loc X.env.scope x)(he:QEd X e te)(hs:ah5 e (some (.Name x a)) pos.line X.env=af8 false:=by rfl)(u:X.fn x=true∨X.env.scope.names.lookup x=some .local:=by first|exact .inl rfl|exact .inr rfl|assumption):
  QSd X (.Assign [.Name x a] e pos) (yu i te):=by
 simp only[QEd.eq,QSd.eq]at *
 exact(Bh l hi s he hs u).conv λD w H g=>g.el λo M E j p q k=>⟨o,M,_,j,p,q,λd M1 v t m h b n=>k.nx _ M1 _ t m h b ((j.ext h).set i n)⟩
theorem tM{X:Cx}{t:TSd}{b:List Z7}(i:Nat)(h:QSs X b t):QSs X b (v9 i t):=by
 simp only[QSs.eq]at *
 exact PSs.conv h λD e H ⟨A,M,E,n,g,⟨a,z,w,s,q⟩,k⟩=>by
  refine⟨_,mK M a,E,?_,g.le LeM.del,q,k.ext (Ext.le LeM.del)⟩;obtain⟨v,l,o⟩:=n.2 i _ w;simp only[Rep]at o;subst o;have:=(n.ext (Ext.le (M1:=mK M a) LeM.del)).set i (Rep.froze (M1:=mK M a) g LeM.del s mQ);have p:e.set i (some (.ref a))=e:=by
   apply aj4;intro j
   by_cases m:j=i
   ·subst m;have u:j<e.length:=(J4.mp l).1;rw[P8 u,l]
   ·rw[U4 (U2 m)]
  rw[p]at this;exact this
theorem wZ{X:Cx}{e:N1}{te:TEd}{pos:Pos}{a:N1}{g:GD}(he:QEd X e te)(hg:PGd X a g)(hs:swapsWithSole [a] e pos.line X.env=af8 false:=by rfl)(C:swappedStores [a] e X.env=af8 none:=by rfl)
  (u:(W5 [a] X.env).map (·.2)=[an1 a X.env]:=by rfl):QSd X (.Assign [a] e pos) (Ea te g):=by
 simp only[QEd.eq,QSd.eq]at *
 obtain⟨I,G,w⟩:=hg;exact(v4 he G hs C u).conv λD B H i=>i.el λo M E n A q k=>⟨o,M,_,n,A,q,λd M1 v p ⟨h,t,s⟩ m b z=>w d v B o h M1 p _ (n.ext m) b z t λj l=>k.nx h M1 j p s m b l⟩
theorem fv{X:Cx}{a:N1}{pos:Pos}{n:N1}{i:TAd}{p:Pos}(hg:Gl X "range")(w:X.mg "range"=none)(ha:QAd X [a] i)(hs:F3 [a] X.env=[(false,aa2 a X.env)]:=by rfl):QId X n (.Call (.Name "range" p) [a] [] pos) (wH i):=by
 simp only[QAd.eq,QId.eq]at *
 exact(uN hg w ha hs).conv λJ H R g=>g.el λA M I t B q k=>⟨A,M,_,t,B,q,λG M1 L C ⟨j,u,s,E,m⟩ o b z=>by
   subst u;obtain⟨v,l,e⟩:=z.one;have h:v=.int j:=by simpa only[Rep]using e
   subst h;subst l;exact⟨j,rfl,s,E,k _ M1 _ C m o b yi⟩⟩
theorem fQ{X:Cx}{pos:Pos}{R:N1}{iter:N1}{s:List Z7}{wi:TId}{g:GD}{Q:TSd}(hp:V2 (L4 X.prog X.w) X.A X.env X.xe)(hc:X.calm=true)(hi:QId X R iter wi)(hg:PGd X R g)(hb:QSs X s Q)
  (hs:∀x,W6 iter X.env x=af8 x:=by intro _;rfl):QSd X (.For R iter s [] pos) (BA wi g Q):=by
 simp only[QSd.eq,QSs.eq,QId.eq]at *
 obtain⟨gv,pg,kg⟩:=hg;refine(xj hp hc hi pg hb hs).conv λD σ H hh=>?_;obtain⟨Y,M,E,sr,hr,q,k⟩:=hh;refine⟨Y,M,_,sr,hr,q,λo M1 J H1 q1 P T it=>?_⟩;refine⟨λi m e n=>∃ a b,m=o.length-i/\i<=o.length/\Ext M1 H1 b n/\HR X.K b n/\SR X.K b n e a/\cB g Q E (o.drop i) a b,⟨o.length,Y,M1,by simp,P1 _,Ext.refl _ _,T,sr.ext P,q1⟩,?_⟩;rintro i m A H2 ⟨O,M2,rfl,a1,w,I,L,B⟩;obtain⟨go,stop⟩:=it M2 H2 w I i
 by_cases p:i<o.length
 ·have hd:o[i]?=some o[i]:=by simp[p]
  obtain⟨g1,y1⟩:=go _ hd;rw[X0 p]at B;simp only[cB]at B;obtain⟨C,eg,f3⟩:=B;refine .inr ⟨g1,λe n=>∃Z,Z<o.length-i/\∃ a b,Z=o.length-(i+1)/\i+1<=o.length/\Ext M1 H1 b n/\HR X.K b n/\SR X.K b n e a/\cB g Q E (o.drop (i+1)) a b,λe n z=>z,λx n hy=>?_⟩;obtain⟨G,N,rx⟩:=y1 x n hy;refine kg _ x A O C M2 n _ (L.ext G) N rx eg λa0 S=>?_;refine⟨C,M2,_,S,N,f3,⟨λa b e j t u h l=>?_,λa b e j t u h l=>?_,λa b e j t u h l=>?_,λd b v j t u h U=>?_⟩⟩
  ·exact⟨_,by lia,a,b,rfl,p,(w.trans G).trans u,h,l,t⟩
  ·exact k.nx a b e j t (((P.trans w).trans G).trans u) h l
  ·exact⟨_,by lia,a,b,rfl,p,(w.trans G).trans u,h,l,t⟩
  ·exact k.rt d b v j t (((P.trans w).trans G).trans u) h U
 ·rw[ad7 (by lia)]at B;exact .inl ⟨stop (by lia),k.nx O M2 A H2 B (P.trans w) I L⟩
theorem tP{X:Cx}{c:N1}{pos:Pos}{o:List Z7}{tc:TTd}{O:TSd}(P:V2 (L4 X.prog X.w) X.A X.env X.xe)(Y:QTd X c tc)(T:QSs X o O):QSd X (.While c o [] pos) (wI tc O):=by
 simp only[QTd.eq,QSd.eq,QSs.eq]at *
 refine(xE P Y T).conv λD σ H Z=>?_;obtain⟨Δ,M,E,U,hr,⟨W,⟨m0,Q⟩,u⟩,k⟩:=Z;refine⟨λm g n=>∃ a e,Ext M H e n/\HR X.K e n/\SR X.K e n g a/\W m a e,⟨m0,Δ,M,Ext.refl _ _,hr,U,Q⟩,?_⟩;rintro m L H1 ⟨l,M1,w,C,q,R⟩;refine⟨l,M1,_,q,C,u m l M1 R,λb M2 S B s A=>?_⟩;cases b with
 |true =>
  simp only[if_true]at B ⊢;refine⟨λg n=>∃t,t<m/\∃ a e,Ext M H e n/\HR X.K e n/\SR X.K e n g a/\W t a e,λg n z=>z,l,M2,_,q.ext s,A,B,⟨λa e g i ⟨t,I,J⟩ p h j=>?_,λa e g i N p h j=>?_,λa e g i ⟨t,I,J⟩ p h j=>?_,λd e v i N p h G=>?_⟩⟩
  ·exact⟨t,I,a,e,(w.trans s).trans p,h,j,J⟩
  ·exact k.nx a e g i N ((w.trans s).trans p) h j
  ·exact⟨t,I,a,e,(w.trans s).trans p,h,j,J⟩
  ·exact k.rt d e v i N ((w.trans s).trans p) h G
 |false =>
  simp only[F0,if_false]at B ⊢;exact k.nx l M2 L S B (w.trans s) A (q.ext s)
theorem bR{X:Cx}:QIf X [] xV:=by
 simp only[QIf.eq]at *
 exact λa s e H Q I ⟨h,M,R,g,b,q,k⟩=>yq a s e H Q I (k true M H q (Ext.refl _ _) b)
theorem me{X:Cx}{c:N1}{tc:TTd}(h:QTd X c tc):QIf X [c] tc:=by
 simp only[QTd.eq,QIf.eq]at *
 exact ze h
theorem ic{X:Cx}{pos:Pos}{l:N1}{iter:N1}{b:N1}{a:af7}{h:List (Str×F4)}{ms:List Bool}{ar:List Str}{e:List N1}{m:TId}{g:GD}{tc:TTd}{te:TEd}(S:fh X a h ms ar)(p:X.calm=true)(hi:QId X l iter m)(hg:PGa X a h ar l g)
  (j:∀C s H i,QIf (aS X a h (X.N++ar) C s H i) e tc) (he:∀C s H i,QEd (aS X a h (X.N++ar) C s H i) b te)
  (hs:∀x,W6 iter X.env x=af8 x:=by intro _;rfl):QEd X (.ListComp b [⟨l,iter,e,0⟩] a pos) (dLc ms ar.length m g tc te):=by
 simp only[QEd.eq,QId.eq,QIf.eq]at *
 obtain⟨q,o,n⟩:=hg;exact(Ax (tc:=upT X.K tc) S p hi o j (qS (te:=up X.K te) he) hs).conv (sG n)
theorem gU{X:Cx}{pos:Pos}{l:N1}{iter:N1}{h:N1}{a:af7}{m:List (Str×F4)}{ms:List Bool}{ar:List Str}{j:List N1}{i:Nat}{x:Str}{e b:Pos}{z:TId}{g:GD}{tc:TTd}{te:TEd}(B:X.N.Nodup)(o:X.N[i]?=some x)(T:X.env.scope.names.lookup x=some .local)
  (u:ah5 (.ListComp h [⟨l,iter,j,0⟩] a pos) (some (.Name x b)) e.line X.env=af8 true) (S:fh X a m ms ar) (J:X.calm=true) (hi:QId X l iter z) (hg:PGa X a m ar l g)
  (t:∀C s H n,QIf (aS X a m (X.N++ar) C s H n) j tc) (he:∀C s H n,QEd (aS X a m (X.N++ar) C s H n) h te)
  (hs:∀x,W6 iter X.env x=af8 x:=by intro _;rfl):QSd X (.Assign [.Name x b] (.ListComp h [⟨l,iter,j,0⟩] a pos) e) (yu i (dLc ms ar.length z g tc te)):=by
 simp only[QEd.eq,QSd.eq,QId.eq,QIf.eq]at *
 obtain⟨Y,O,P⟩:=hg;refine(nE (tc:=upT X.K tc) B o T u S J hi O t (qS (te:=up X.K te) he) hs).conv λD N H Q=>?_;obtain⟨L,M,E,w,R,q,k⟩:=Q;exact sG P N H _ ⟨L,M,_,w,R,q,λd M1 v U G A p I=>k.nx _ M1 _ U G A p ((w.ext A).set i I)⟩
theorem wo{X:Cx}{e:N1}{te:TEd}{pos:Pos}{o i:N1}{G J:TEd}{p:Pos}(T:QEd X o G)(hi:QEd X i J)(he:QEd X e te)
  (ha:∀ v,an1 (.Subscript o i p) X.env v = (do
   let b <-ak9 [v] (aa2 o X.env)
   let m <-ak9 [v,b] (aa2 i X.env)
   as1 p
   ak9 [v,b,m] (setItem b m v)
   release [v,b,m] []):=by intro _;rfl) (hs:swapsWithSole [.Subscript o i p] e pos.line X.env=af8 false:=by rfl) (S:swappedStores [.Subscript o i p] e X.env=af8 none:=by rfl)
  (U:(W5 [.Subscript o i p] X.env).map (·.2)=[an1 (.Subscript o i p) X.env]:=by rfl):QSd X (.Assign [.Subscript o i p] e pos) (Dj G J te):=by
 simp only[QEd.eq,QSd.eq]at *
 exact(v4 he (AJ T hi vO ha) hs S U).conv λD P H u=>u.el λl M E h hr q k=>⟨l,M,_,h,hr,q,λd M1 v H1 L n z O=>⟨l,M1,_,h.ext n,z,L,λo M2 b H2 q2 t w B=>⟨l,M2,_,(h.ext n).ext t,w,q2,λi M3 m H3 ⟨a,ds,R,j,eo,Y,s,Z,q3⟩ A g I=>by
   subst eo;subst Y;simp only[Rep]at B I;subst B;subst I;obtain⟨Q,N,C⟩:=g a _ s;refine⟨a,Q,R,j,rfl,rfl,N,by rw[<-C.length];exact Z,?_⟩;exact k.nx l _ P _ q3 (((n.trans t).trans A).trans (Ext.write s)) (g.write s (C.set j ((O.ext t).ext A))) ((((h.ext n).ext t).ext A).ext (Ext.write s))⟩⟩⟩
theorem fO{X:Cx}{e:N1}{te:TEd}{o:N1}{p:TEd}{z h:Pos}(C:QEd X o p)(he:QEd X e te)(cF:V3 o "append" X.env (aa2 o X.env)=aa2 o X.env:=by rfl)
  (j:F3 [e] X.env=(false,aa2 e X.env)::F3 [] X.env:=by rfl)
  (J:((U6 h (F3 [e] X.env)).all (λx => !x.1) && (an4 h (ae5 [] X.env)).all (λx => x.1.isSome)
  &&decide ([e].length+([]:List ag6).length+(if([]:List ag6).isEmpty then 0 else 1)<30))=true:=by rfl)
  (U:(z.endLine==h.line)=true:=by rfl) (E:(U6 h (F3 [] X.env)).any (·.1)=false:=by rfl):QEd X (.Call (.Attribute o "append" z) [e] [] h) (D3 p te):=by
 simp only[QEd.eq]at *
 exact(xo ac9 PySem.F.slot_list_append PySem.F.type_list_append (show MtR X "list.append" tD from uT) C (bA he de j) cF J U j E).conv λσ H Q n=>n.el λw M R t O q k=>⟨w,M,_,t,O,q,λo M1 ov H1 ⟨a,l,Y,L,A⟩ s g u=>by
   subst Y;simp only[Rep]at u;subst u;obtain⟨S,G,rl⟩:=g a _ L;refine⟨.inl ⟨rfl,S,SqL.of G⟩,w,M1,_,t.ext s,g,A,λd M2 v H2 ⟨ds,b,B,T⟩ P i N=>?_⟩;obtain⟨I,Z,m⟩:=i a _ b;refine⟨a,I,v,rfl,rfl,Z,by rw[<-m.length];exact B,k _ _ _ _ T ((s.trans P).trans (Ext.write b)) (i.write b (m.append (ao.cons N ao.nil))) (by simp[Rep])⟩⟩
theorem dD{X:Cx}{a:N1}{u:TEd}{pos:Pos}{T:Str}{Tn:String}{p b:Pos}(N:okT Tn=true)(hg:Gl X "isinstance")(E:X.mg "isinstance"=none)(o:Gl X T)(n:X.mg T=none)(g:aa5 T=some (.type Tn))(ha:QEd X a u)(l:T≠"__name__":=by decide)(i:(T==("__debug__":Str))=false:=by decide)
  (hs:F3 [a,.Name T b] X.env=(false,aa2 a X.env)::F3 [.Name T b] X.env:=by rfl) (m:F3 [.Name T b] X.env=(false,aa2 (.Name T b) X.env)::F3 [] X.env:=by rfl) (hpl:(U6 pos (F3 [.Name T b] X.env)).any (·.1)=false:=by rfl) :
  QEd X (.Call (.Name "isinstance" p) [a,.Name T b] [] pos) (Da Tn u):=by
 simp only[QEd.eq]at *
 have C:cy X (.builtin "isinstance") (λw H Q=>∃v d k M,w=[v,.ty Tn]/\aN X.K M H d v/\y7 Tn d=some k/\Q (.bl k) H):=by
  intro Z s J H w us Q I j h;obtain⟨v,d,k,M,rfl,rd,t,q⟩:=h;obtain⟨u1,u2,rfl,O,B⟩:=aw.two j;cases B;exact uO N I O rd t q
 refine(gF C hg E (by kernel_rfl) (bA ha (bA (tq (v:=.ty Tn) o n g rfl l i) de m) hs) (by decide) (by decide) hs hpl).conv λJ H Q S=>?_;obtain⟨G,M,R,A,U,q,k⟩:=S;exact⟨G,M,_,A,U,q,λd M1 v Y ⟨L,t,z⟩ P e j=>⟨v,_,L,M1,rfl,j.rd e,t,k _ M1 _ Y z P e (by simp[Rep])⟩⟩
theorem bF{X:Cx}:QOd X none nQ:=by
 simp only[QEd.eq,QAd.eq,QTd.eq,QWd.eq,QSd.eq,QSs.eq,QId.eq,QIf.eq,QOd.eq]at *
 exact xQ 
theorem a6{X:Cx}{e:N1}{te:TEd}(h:QEd X e te):QOd X (some e) (vX te):=by
 simp only[QEd.eq,QAd.eq,QTd.eq,QWd.eq,QSd.eq,QSs.eq,QId.eq,QIf.eq,QOd.eq]at *
 exact yX (h:=h)
theorem qc{X:Cx}{e:N1}{a:List N1}{t:TAd}{pos:Pos}{p:Pos}{x:Str}{k:Nat}{n:Nat}{S:SpD}(F:FnD X.prog X.w X.K X.mg X.base x k n S)(hr:cc k X.A)(hg:Gl X x)(ha:QAd X (e::a) t)(hdb:(x==("__debug__":Str))=false:=by decide)(he:F3 (e::a) X.env=(false,aa2 e X.env)::F3 a X.env:=by rfl)(hpl:(U6 pos (F3 a X.env)).any (·.1)=false:=by rfl):
  QEd X (.Call (.Name x p) (e::a) [] pos) (nH n S t):=by
 simp only[QEd.eq,QAd.eq,QTd.eq,QWd.eq,QSd.eq,QSs.eq,QId.eq,QIf.eq,QOd.eq]at *
 exact dc (F:=F) (hr:=hr) (hg:=hg) (ha:=ha) (hdb:=hdb) (he:=he) (hpl:=hpl)
theorem oi{X:Cx}{e:N1}{te:TEd}{pos:Pos}(he:QEd X e te):QSd X (.Return (some e) pos) (zY te):=by
 simp only[QEd.eq,QSd.eq]at *
 exact(nM he).conv λD t H g=>g.el λs M E m i q k=>⟨s,M,_,m,i,q,λd M1 v n ⟨a,u,o,p,j⟩ l b h=>by
  subst o;simp only[Rep]at h;subst h;exact k.rt _ _ _ n j (l.trans (Ext.le LeM.del)) (b.le LeM.del) (Rep.froze b LeM.del p mQ)⟩
theorem aQ{X:Cx}{te:TEd}{tg:N1}{iter:N1}(h:QEd X iter te):QId X tg iter (Aa te):=by
 simp only[QEd.eq,QId.eq]at *
 intro aa s σ H R I hh;obtain⟨Δ,M,R',sr,hr,q,k⟩:=hh;refine thn (h aa s σ H (λv n=>∃d P M1,iR d=some P/\(P.length<=F9->R' P M1)/\Ext M H M1 n/\HR X.K M1 n/\Rep X.K M1 n d v) I ⟨Δ,M,_,sr,hr,q,λd M1 v n ⟨P,C,O⟩ T l z=>⟨d,P,M1,C,O,T,l,z⟩⟩) λu G ⟨v,n,m,r1,d,P,M1,C,O,T,l,z⟩=>?_;have lo:=aN.len (K:=X.K) m z;cases d with
 |tup es =>
  cases C;simp only[Rep]at z;obtain⟨a,B,rfl,g,J⟩:=z;cases r1;obtain⟨N,Y,p,S⟩:=m.tuple g.sq;refine wpAny_pyIter_tuple (show G.heap.IsTuple a N.toArray from p) ?_;refine⟨G.heap.objs.size,[G.heap.objs.size],_,_,n,rfl,m.kept (t':=G.toks) λb o e=>E7 _ e,rq a _,⟨_,K1 _ rfl,rfl,rfl⟩,rD (o:=default) m,?_⟩;refine k _ M1 _ n (O lo) T l λM2 H2 j w i=>⟨λd Z=>?_,λhl=>⟨B,(g.ext j).sq,by rw[<-J.length];exact hl⟩⟩;obtain⟨v,L,r⟩:=J.get Z;refine⟨⟨B,v,(g.ext j).sq,L⟩,λx H' ⟨U,y⟩=>?_⟩;subst U;have:=y B (g.ext j).sq;rw[L]at this;cases this;exact⟨Ext.refl _ _,w,r.ext j⟩
 |lst es =>
  cases C;simp only[Rep]at z;obtain⟨a,B,rfl,g,J⟩:=z;cases r1;obtain⟨N,Y,p,S⟩:=m.list (SqL.of g.1);refine af2 p.isList ?_;refine⟨G.heap.objs.size,[G.heap.objs.size],_,_,n,rfl,m.kept (t':=G.toks) λb o e=>E7 _ e,mN a _,⟨_,K1 _ rfl,rfl,rfl⟩,rD (o:=default) m,?_⟩;refine k _ M1 _ n (O lo) T l λM2 H2 j w i=>⟨λd Z=>?_,λhl=>⟨B,SqL.of (g.ext j).1,by rw[<-J.length];exact hl⟩⟩;obtain⟨v,L,r⟩:=J.get Z;refine⟨⟨B,v,SqL.of (g.ext j).1,L⟩,λx H' ⟨U,y⟩=>?_⟩;subst U;have:=y B (SqL.of (g.ext j).1);rw[L]at this;cases this;exact⟨Ext.refl _ _,w,r.ext j⟩
 |scr es =>
  cases C;simp only[Rep]at z;obtain⟨a,B,rfl,g,J⟩:=z;cases r1;obtain⟨N,Y,p,S⟩:=m.list g.sq;refine af2 p.isList ?_;refine⟨G.heap.objs.size,[G.heap.objs.size],_,_,n,rfl,m.kept (t':=G.toks) λb o e=>E7 _ e,mN a _,⟨_,K1 _ rfl,rfl,rfl⟩,rD (o:=default) m,?_⟩;refine k _ M1 _ n (O lo) T l λM2 H2 j w i=>⟨λd Z=>?_,λhl=>⟨B,(g.ext j).sq,by rw[<-J.length];exact hl⟩⟩;obtain⟨v,L,r⟩:=J.get Z;refine⟨⟨B,v,(g.ext j).sq,L⟩,λx H' ⟨U,y⟩=>?_⟩;subst U;have:=y B (g.ext j).sq;rw[L]at this;cases this;exact⟨Ext.refl _ _,w,r.ext j⟩
 |str x =>
  simp only[iR]at C
  by_cases S:x.length<=F9
  ·rw[if_pos S]at C;cases C;simp only[Rep]at z;subst z;obtain⟨t,rfl⟩:=r1;have hq:=k _ M1 _ n (O (by have a0:x.cps.size<=F9:=S;simpa[dM]using a0)) T l BW;cases ha:x.cps.all (·<128)
   ·exact wpAny_pyIter_wide ha (sS m "str_iterator" (by decide) (λA hA=>Walks.strWide hA _ x t) (λA i s' Q E st q=>wpAny_pyIter_striter_wide st q) hq)
   ·exact wpAny_pyIter_ascii ha (sS m "str_ascii_iterator" (by decide) (λA hA=>Walks.strAscii hA _ x t) (λA i s' Q E st q=>wpAny_pyIter_striter_ascii st q) hq)
  ·rw[if_neg S]at C;cases C
 |_=>cases C
theorem gI{X:Cx}{e:N1}{te:TEd}{pos:Pos}(he:QEd X e te):QSd X (.Return (some e) pos) (zF te):=by
 simp only[QEd.eq,QSd.eq]at *
 exact(nM he).conv λD p H g=>g.el λo M E l h q k=>⟨o,M,_,l,h,q,λd M1 v m ⟨M2,a,i⟩ j b n =>
  k.rt _ _ _ m i (j.trans (Ext.le a)) (b.le a) (n.ext (Ext.le a))⟩
theorem aU{X:Cx}{e:N1}{te:TEd}{pos:Pos}{lo hi:Option N1}{T S:TOd}{Y:Pos}(he:QEd X e te)(hl:QOd X lo T)(hu:QOd X hi S):QEd X (.Subscript e (.Slice lo hi none Y) pos) (Dc te T S):=by
 simp only[QEd.eq,QOd.eq]at *
 refine(xg (SlR.or zq (SlR.or Ca (SlR.or AQ vB))) he hl hu).conv λσ H Q hh=>?_;obtain⟨L,M,R,I,hr,q,k⟩:=hh;refine⟨L,M,_,I,hr,q,λx M1 v H1 Z G B rv=>⟨L,M1,_,I.ext G,B,Z,λl M2 H2 q2 N J=>⟨L,M2,_,(I.ext G).ext N,J,q2,λu m O ⟨z,g,q3⟩ U b=>?_⟩⟩⟩;have o:=((rv.ext N).ext U).rd b;have ee:=(G.trans N).trans U;have A:∀w i,Ext m O m i->HR X.K m i->Rep X.K m i z w->Q w i:=λw i e4 E r4=>k z m w i q3 (ee.trans e4) E r4;generalize rdM m x=d at o g;cases d with
 |lst j =>
  cases g;obtain⟨a,n,rfl,sq,h⟩:=o;refine .inl ⟨a,n,rfl,SqL.of sq,λp t=>fj b t ?_ A⟩;unfold cP oK;rw[<-h.length];exact(h.drop _).take _
 |scr j =>
  cases g;obtain⟨a,n,rfl,sq,h⟩:=o;refine .inl ⟨a,n,rfl,sq,λp t=>fj b t ?_ A⟩;unfold cP oK;rw[<-h.length];exact(h.drop _).take _
 |str s =>
  simp only[slE,slD]at g
  by_cases C:s.length<=F9
  ·rw[if_pos C]at g;cases g;exact .inr (.inr (.inl ⟨s,mr o,C,A _ O (Ext.refl _ _) b (by simp[Rep])⟩))
  ·rw[if_neg C]at g;cases g
 |tup j =>
  cases g;have rt:=aN.tup b o;obtain⟨a,n,rfl,sq,h⟩:=o
  by_cases P:HT.sIx j.length 0 l=0/\HT.sIx j.length j.length u=j.length
  ·refine .inr (.inr (.inr ⟨a,n,rfl,sq,by rw[<-h.length];exact P,A _ O (Ext.refl _ _) b ?_⟩));rw[rC P];exact rt
  ·refine .inr (.inl ⟨a,n,rfl,sq,by rw[<-h.length];exact P,λp t=>nV b t ?_ A⟩);unfold cP oK;rw[<-h.length];exact(h.drop _).take _
 |_=>cases g
theorem Ce{X:Cx}{pos:Pos}:QEd X (.Dict [] [] pos) Dt:=by
 simp only[QEd.eq]at *
 exact λg s i H Q I ⟨j,M,R,h,b,q,k⟩=>by
  have e:=I.hok.fresh (F6 _);refine wpAny_Dict_empty ⟨.ref s.heap.objs.size,_,I.laid (a:=s.heap.objs.size) (o:=.dK []) (t':=s.toks) (λ_ _ q=>E7 _ q) (F6 _) (wk s.heap (zl I)),rfl,?_⟩;refine k _ M _ _ q (Ext.new b e) (b.new e) ?_;simp only[Rep];exact⟨_,rfl,aX,b.fresh e⟩
theorem vR{X:Cx}{pos:Pos}{a:af7}{m:List (Str×F4)}{ms:List Bool}{ar:List Str}{j:List N1}{l:N1}{iter:N1}{h:N1}{i:Nat}{x:Str}{e b:Pos}{z:TId}{g:GD}{tc:TTd}{te:TEd}(B:X.N.Nodup)(o:X.N[i]?=some x)(T:X.env.scope.names.lookup x=some .local)
  (u:ah5 (.ListComp h [⟨l,iter,j,0⟩] a pos) (some (.Name x b)) e.line X.env=af8 true) (S:fh X a m ms ar) (J:X.calm=true) (hi:QId X l iter z) (hg:PGa X a m ar l g)
  (t:∀C s H n,QIf (aS X a m (X.N++ar) C s H n) j tc) (he:∀C s H n,QEd (aS X a m (X.N++ar) C s H n) h te)
  (hs:∀x,W6 iter X.env x=af8 x:=by intro _;rfl):QSd X (.Assign [.Name x b] (.ListComp h [⟨l,iter,j,0⟩] a pos) e) (yu i (B2 ms ar.length z g tc te)):=by
 simp only[QEd.eq,QSd.eq,QId.eq,QIf.eq]at *
 obtain⟨Y,O,P⟩:=hg;refine(nE (tc:=upT X.K tc) B o T u S J hi O t (qS (te:=up X.K te) he) hs).conv λD N H Q=>?_;obtain⟨L,M,E,w,R,q,k⟩:=Q;exact vU P N H _ ⟨L,M,_,w,R,q,λd M1 v U G A p I=>k.nx _ M1 _ U G A p ((w.ext A).set i I)⟩
section
variable{X:Cx}{rest:List Z7}{t:TSd}{e:N1}{g:TTd}
theorem yC(h:QSs X rest t):yj X rest t:=by
 rw[QSs.eq]at h;exact h
theorem jw(h:QWd X e g):QTd X e g:=by
 simp only[QWd.eq,QTd.eq]at *
 exact PWd.pt h
end
end L2
namespace L2
open PySem PySem.Spec PyProof.Rows PySem.Builtin.Str
theorem rG(c:Nat)(n:Nat):Txt.mul (tx [c]) (n:Int)=tx (F5 n c):=by
 have f:∀(k:Nat) (a:Array Nat),(F5 k #[c]).foldl (·++·) a=a++(F5 k c).toArray:=by
  intro k
  induction k with
  |zero=>intro a;simp
  |succ k ih =>
   intro a;rw[Q7,X3,ih,Q7];apply Array.ext';simp
 unfold Txt.mul
 by_cases b:n=0
 ·subst b;rfl
 ·rw[if_neg (by lia)]
  by_cases e:n=1
  ·subst e;rfl
  ·rw[if_neg (by simp[jI];lia)];show(⟨(F5 (n:Int).toNat #[c]).foldl (·++·) #[]⟩:Str)=_;rw[f];simp[tx]
end L2
namespace L2
open PySem PySem.Spec PyProof.Rows
def Few(n:Int):Prop:=M7.Int.intBits n<=2 ^ 20
end L2
namespace Att
open PySem PySem.W PySem.Calls PyProof.Rows
end Att
namespace L2
open PySem PySem.Spec PyProof.Rows
section
variable{X:Cx}{pos:Pos}
def zW(i j:Int):Prop:=jQ i j∨(Few i/\Few j)
theorem zW.ok{i j:Int}(h:zW i j):IntMulOk i j:=by
 rcases h with h|⟨a,b⟩
 ·exact h.ok
 ·exact .of_bits a b
theorem Cu{K:E5}{M:DH}{H:Hp}{a b:D}{xs:List V}(h:ad3 (aN K M H) [a,b] xs):∃v w,xs=[v,w]/\aN K M H a v/\aN K M H b w:=by
 cases h with
 |cons r t =>
  cases t with
  |cons g e=>cases e;exact⟨_,_,rfl,r,g⟩
def dmD:List D->Option D
 |[.int i,.int j]=>if mD i j then some (.tup [.int (i / j),.int (i % j)])else none
 |_=>none
noncomputable def AC:List D->Option D
 |[.int i,.int j]=>some (.int (if j > i then j else i))
 |_=>none
theorem CN(h:X.calm=true):bQ X (.builtin "max") AC:=bQ.of (uC h) λH M n o m Q b a e q=>by
 unfold AC at e
 split at e
 ·rename_i i j;cases e;obtain⟨v,w,rfl,l,g⟩:=Cu a;rw[gS l,gS g];exact⟨i,j,rfl,q _ H (Ext.refl _ _) b (by simp[Rep])⟩
 ·cases e
end
open AutoSeq1 (wpAny_loadPart')
section
variable{prog:K9}{w:P7}{A:M8}{E:u8->E9->Prop}{s:E9}
end
section
variable{X:Cx}{pos:Pos}
theorem Ay{i j:Int}:dmD [.int i,.int j]=if mD i j then some (.tup [.int (i / j),.int (i % j)])else none:=rfl
theorem yV{i j:Int}:AC [.int i,.int j]=some (.int (if j > i then j else i)):=rfl
theorem vn:qj 10 60=True:=by simp[qj]
end
section
variable{X:Cx}{e:N1}{te g:TEd}{pos:Pos}
end
section
variable{κ:Type} [DecidableEq κ]
noncomputable def rR(a:List (κ×D))(k:κ):Option D:=(a.find? λb=>decide (b.1=k)).map (·.2)
noncomputable def De(a:List (κ×D))(k:κ)(v:D):List (κ×D) :=
 if(a.any λb=>decide (b.1=k))=true then a.map (λb=>if b.1=k then(b.1,v)else b)else a++[(k,v)]
theorem vY{p:κ×D}{r:List (κ×D)}{k:κ}(e:p.1=k):rR (p::r) k=some p.2:=by simp[rR,aa0,e]
theorem wa{p:κ×D}{r:List (κ×D)}{k:κ}(e:¬ p.1=k):rR (p::r) k=rR r k:=by simp[rR,aa0,e]
variable{K:E5}{M:DH}{H:Hp}
theorem KR.val{a:List (κ×D)}{b:List (κ×V)}(h:KR K M H a b)(k:κ):(∀d,rR a k=some d->∃v,pC b k=some v/\Rep K M H d v)/\(pC b k).isSome=(rR a k).isSome:=by
 unfold KR at h
 induction h with
 |nil=>exact⟨λd e=>(nomatch e),rfl⟩
 |@cons p q i g r t ih =>
  by_cases e:p.1=k
  ·rw[vY e,qB (r.1.symm.trans e)];exact⟨λd z=>(by cases z;exact⟨_,rfl,r.2⟩),rfl⟩
  ·rw[wa e,qh (λz=>e (r.1.trans z))];exact ih
theorem KR.any{a:List (κ×D)}{e:List (κ×V)}(h:KR K M H a e)(k:κ):(e.any λb=>decide (b.1=k))=a.any λb=>decide (b.1=k):=by
 unfold KR at h
 induction h with
 |nil=>rfl
 |cons r _ ih=>rw[aa8,aa8,ih,r.1]
theorem KR.length{a:List (κ×D)}{b:List (κ×V)}(h:KR K M H a b):a.length=b.length:=ad3.length h
theorem KR.put{a:List (κ×D)}{g:List (κ×V)}(h:KR K M H a g)(k:κ){d:D}{v:V}(r:Rep K M H d v):KR K M H (De a k d) (yh g k v):=by
 unfold De yh;rw[h.any k]
 by_cases e:(a.any λi=>decide (i.1=k))=true
 ·rw[if_pos e,if_pos e];clear e;unfold KR at h ⊢
  induction h with
  |nil=>exact .nil
  |@cons p q l j b t ih =>
   rw[K0,K0];refine .cons ?_ ih
   by_cases e:p.1=k
   ·rw[if_pos e,if_pos (b.1.symm.trans e)];exact⟨b.1,r⟩
   ·rw[if_neg e,if_neg (λz=>e (b.1.trans z))];exact b
 ·rw[if_neg e,if_neg e];exact ad3.snoc h ⟨rfl,r⟩
end
def kD:Key->D
 |.inl i=>.int i
 |.inr x=>.str x
section
variable{X:Cx}{a b c e o i:N1}{g:List N1}{te p y z B:TEd}{t:TAd}{pos:Pos}
end
section
variable{X:Cx}{a b c e o:N1}{p:List N1}{te g:TEd}{t:TAd}{pos:Pos}{y:N1}
noncomputable def EO:List D->Option D
 |[.int i,.int j]=>some (.int (if j<i then j else i))
 |_=>none
noncomputable def gD:List D->Option (List Int)
 |[]=>some []
 |.int i::a=>(gD a).map (i::·)
 |_=>none
def Cn(g:TEd):TEd:=λe M Q=>g e M λo M1=>∃a b d,o=.ref a/\M1 a=some (.lst (b++[d]))/\Q d (aF M1 a (.lst b))
def DL(g te:TEd):TEd:=λh M Q=>g h M λo M1=>∃a l,o=.ref a/\M1 a=some (.lst l)/\te h M1 λd M2=>∃e b,d=.lst b/\M2 a=some (.lst e)/\e.length+b.length<=F9/\Q .non (aF M2 a (.lst (e++b)))
end
section
variable{X:Cx}{B p y:N1}{pos:Pos}{g:af7}{G:List (Str×F4)}{ms:List Bool}{ar:List Str}{z:List N1}
end
end L2
namespace L2
open PySem PySem.W PyProof.Rows
section
variable{y z:Type}
def tw(n:Nat)(lt:Nat->Nat->Bool):KasT y->(y->Prop)->Prop
 |.ret a,Q=>Q a
 |.ask i j k,Q=>i<n/\j<n/\tw n lt (k (lt i j)) Q
theorem gY{n:Nat}{lt:Nat->Nat->Bool}{f:y->KasT z}{Q:z->Prop}:∀{t:KasT y},tw n lt t (λa=>tw n lt (f a) Q)->tw n lt (t.bind f) Q
 |.ret _,h=>h
 |.ask _ _ _,h=>⟨h.1,h.2.1,gY h.2.2⟩
theorem vZ{n:Nat}{lt:Nat->Nat->Bool}{b:Nat->Nat->(Bool->E9->Prop)->E9->Prop}{J:E9->Prop}(m:∀i j C s,i<n->j<n->J s->(∀s',J s'->C (lt i j) s')->b i j C s){Q:y->Prop}{G:y->E9->Prop}(l:∀a s,J s->Q a->G a s):
  ∀{t:KasT y} {s:E9},tw n lt t Q->J s->t.kasWp b G s
 |.ret _,s,h,e=>l _ s e h
 |.ask i j k,s,h,e=>m i j _ s h.1 h.2.1 e λs' g=>vZ m l h.2.2 g
variable{O:ab6}{key:Nat->O.α}{n:Nat}
def dj(O:ab6)(key:Nat->O.α)(i j:Nat):Bool:=O.blt (key i) (key j)
def zQ(O:ab6)(key:Nat->O.α):KeyKind:={ O with keyOf:=λv=>match v with|.int i _=>some (key i.toNat)|_=>none,dflt:=key 0 }
def mx(p:Array Nat):Array Keyed:=p.map λ(i:Nat)=>((ak4 (i:Int) 0,J9):Keyed)
noncomputable def kp(O:ab6)(key:Nat->O.α)(p:Array Nat)(i:Nat):O.α:=key (p.getD i 0)
theorem kW{p:Array Nat}{i:Nat}(h:i<p.size):KK (zQ O key) (mx p) i=kp O key p i:=by
 unfold KK kp mx;rw[Array.getElem?_map,N5 h];simp[zQ,X8,h]
theorem xZ{p:Array Nat}{i j:Nat}:mx (kas_rev p i j)=mirror (mx p) i j ((j-i) / 2):=by
 unfold mx kas_rev mirror;exact(kas_swaps_map _ _ _ _ _).symm
theorem ya{p:Array Nat}{k d:Nat}:mx (bubble p k d)=bubble (mx p) k d:=by
 unfold mx bubble;exact(kas_swaps_map _ _ _ _ _).symm
theorem qv{p:Array Nat}:(mx p).size=p.size:=by simp[mx]
theorem vo{p:Array Nat}{i j:Nat}:(kas_rev p i j).size=p.size:=mirror_size _ _ _ _
theorem rL{p:Array Nat}{i j k:Nat}(b:j<=p.size)(a:k<p.size):kp O key (kas_rev p i j) k=if i<=k/\k<j then kp O key p (i+j-1-k)else kp O key p k:=by
 rw[<-kW (by rw[vo];exact a),xZ,KK_mirror (by rw[qv];exact b)]
 by_cases h:i<=k/\k<j
 ·rw[if_pos h,if_pos h,kW (by lia)]
 ·rw[if_neg h,if_neg h,kW a]
theorem vF{p:Array Nat}{src d k:Nat}(hs:src<p.size)(g:d<=src)(e:k<p.size):kp O key (bubble p src d) k=if k=src-d then kp O key p src else if src-d<k/\k<=src then kp O key p (k-1)else kp O key p k:=by
 rw[<-kW (by rw[bubble_size];exact e),ya,KK_bubble (by rw[qv];exact hs) g]
 by_cases a:k=src-d
 ·rw[if_pos a,if_pos a,kW hs]
 ·rw[if_neg a,if_neg a]
  by_cases b:src-d<k/\k<=src
  ·rw[if_pos b,if_pos b,kW (by lia)]
  ·rw[if_neg b,if_neg b,kW e]
def cf(n:Nat)(p:Array Nat):Prop:=p.toList.Perm (Q8 n)
theorem cf.size{p:Array Nat}(h:cf n p):p.size=n:=by
 have:=h.length_eq;simpa using this
theorem cf.lt{p:Array Nat}(h:cf n p){i:Nat}(hi:i<n):p.getD i 0<n:=by
 have a:=h.size;have e:p.getD i 0=p.toList[i]'(by simp;lia):=by simp[X8,show i<p.size by lia]
 rw[e];exact O4.mp (h.mem_iff.mp (L8 _))
theorem cf.rev{p:Array Nat}(h:cf n p)(i j:Nat):cf n (kas_rev p i j):=(Array.perm_iff_toList_perm.mp (mirror_perm p i j _)).trans h
theorem cf.bub{p:Array Nat}(h:cf n p)(i j:Nat):cf n (bubble p i j):=(Array.perm_iff_toList_perm.mp (bubble_perm p i j)).trans h
def cM(O:ab6)(key:Nat->O.α)(p:Array Nat)(k:Nat):Prop:=∀i j,i<=j->j<k->O.kle (kp O key p i) (kp O key p j)
def iy(O:ab6)(key:Nat->O.α)(p:Array Nat)(k:Nat):Prop:=∀i j,i<=j->j<k->O.kle (kp O key p j) (kp O key p i)
theorem cM.more{p:Array Nat}{x:Nat}(h:cM O key p x)(l:1<=x)(le:O.kle (kp O key p (x-1)) (kp O key p x)):cM O key p (x+1):=λi j a g=>by
 rcases P4 j x with b|b
 ·exact h i j a b
 ·obtain rfl:j=x:=by lia
  rcases P4 i j with e|e
  ·exact al0 (h i (j-1) (by lia) (by lia)) le
  ·obtain rfl:i=j:=by lia
   exact ac2 _
theorem iy.more{p:Array Nat}{x:Nat}(h:iy O key p x)(l:1<=x)(le:O.kle (kp O key p x) (kp O key p (x-1))):iy O key p (x+1):=λi j a g=>by
 rcases P4 j x with b|b
 ·exact h i j a b
 ·obtain rfl:j=x:=by lia
  rcases P4 i j with e|e
  ·exact al0 le (h i (j-1) (by lia) (by lia))
  ·obtain rfl:i=j:=by lia
   exact ac2 _
theorem sf{p:Array Nat}(g:cf n p):∀{f a:Nat}{Q:Nat->Prop},1<=a->a+f<=n->cM O key p a ->
  (∀m,a<=m->m<=a+f->cM O key p m->(m=a+f∨O.klt (kp O key p m) (kp O key p (m-1)))->Q m)->tw n (dj O key) (kas_asc p f a) Q
 |0,a,Q,h,l,b,k=>k a (F6 _) (F6 _) b (.inl rfl)
 |f+1,a,Q,h,l,b,k=>by
  refine⟨g.lt (by lia),g.lt (by lia),?_⟩;cases q:dj O key (p.getD a 0) (p.getD (a-1) 0)with
  |true=>exact k a (F6 _) (by lia) b (.inr q)
  |false=>exact sf g (by lia) (by lia) (b.more h q) λm s o j i=>k m (by lia) (by lia) j (i.imp (λe=>by lia) id)
theorem jc{p:Array Nat}{i j:Nat}(b:j<=p.size)(he:∀k,i<=k->k<j->kp O key p k=kp O key p (j-1)){k:Nat}(a:k<p.size):kp O key (kas_rev p i j) k=kp O key p k:=by
 rw[rL b a]
 by_cases h:i<=k/\k<j
 ·rw[if_pos h,he _ (by lia) (by lia),he k h.1 h.2]
 ·rw[if_neg h]
theorem kK:∀{f:Nat}{p:Array Nat}{x q:Nat}{Q:Array Nat×Nat×Nat->Prop},cf n p->1<=x->x+f<=n->iy O key p x->q+1<=x->(∀i,x-(q+1)<=i->i<x->kp O key p i=kp O key p (x-1)) ->
  (∀l m s,cf n l->1<=m->m<=x+f->iy O key l m->s+1<=m->(∀i,m-(s+1)<=i->i<m->kp O key l i=kp O key l (m-1))->Q (l,m,s))->tw n (dj O key) (kas_desc f p x q) Q
 |0,p,x,q,Q,o,u,I,t,A,w,k=>k p x q o u (F6 _) t A w
 |f+1,p,x,q,Q,o,u,I,t,A,w,k=>by
  have L:=o.size;refine⟨o.lt (by lia),o.lt (by lia),?_⟩;cases c:dj O key (p.getD x 0) (p.getD (x-1) 0)with
  |true =>
   have lt:O.klt (kp O key p x) (kp O key p (x-1)):=c;simp only[if_true]
   by_cases C:q > 0
   ·rw[if_pos C];have same:∀{i},i<n->kp O key (kas_rev p (x-(q+1)) x) i=kp O key p i:=λM=>jc (by lia) w (by lia);refine kK (o.rev _ _) (by lia) (by lia) ?_ (by lia) (λi H E=>by obtain rfl:i=x:=(by lia);rfl) λl m s a b B d e g=>k l m s a b (by lia) d e g;refine iy.more (λi j z J=>?_) u ?_
    ·rw[same (by lia),same (by lia)];exact t i j z J
    ·rw[same (by lia),same (by lia)];exact af3 lt
   ·rw[if_neg C];exact kK o (by lia) (by lia) (t.more u (af3 lt)) (by lia) (λi H E=>by obtain rfl:i=x:=(by lia);rfl) λl m s a b B d e g=>k l m s a b (by lia) d e g
  |false =>
   simp only[F0,if_false];refine⟨o.lt (by lia),o.lt (by lia),?_⟩;cases G:dj O key (p.getD (x-1) 0) (p.getD x 0)with
   |true=>exact k p x q o u (by lia) t A w
   |false =>
    simp only[F0,if_false];have eq:kp O key p x=kp O key p (x-1):=O.total _ _ c G;refine kK o (by lia) (by lia) (t.more u G) (by lia) (λi H E=>?_) λl m s a b B d e g=>k l m s a b (by lia) d e g;rw[show x+1-1=x by lia];rcases P4 i x with h|h
    ·rw[eq];exact w i (by lia) h
    ·obtain rfl:i=x:=by lia
     rfl
theorem tR{p:Array Nat}{m e:Nat}{Q:Nat×Array Nat->Prop}(h:cf n p)(o:1<=m)(w:m<=e)(t:e<=n)(hs:iy O key p m)
  (k:∀g l,cf n l->1<=g->g<=e->cM O key l g->Q (g,l)):tw n (dj O key) (kas_tail3 m e p) Q:=by
 have s:=h.size;unfold kas_tail3;refine gY (sf (h.rev 0 m) o (by lia) (λi j q u=>?_) λg a b c _=>k g _ (h.rev 0 m) (by lia) (by lia) c);rw[rL (by lia) (by lia),rL (by lia) (by lia),if_pos ⟨by lia,by lia⟩,if_pos ⟨by lia,by lia⟩];exact hs _ _ (by lia) (by lia)
theorem j6{p:Array Nat}{m a:Nat}{Q:Nat×Array Nat->Prop}(u:cf n p)(H:m+1<=a)(t:a<=n)(hs:iy O key p (m+1))
  (k:∀g h,cf n h->1<=g->g<=a->cM O key h g->Q (g,h)):tw n (dj O key) (kas_descPart m a p) Q:=by
 unfold kas_descPart;refine gY (kK u (by lia) (by lia) hs (by lia) (λi A C=>by obtain rfl:i=m:=(by lia);rfl) λh x z b s B e G q=>?_);have E:=b.size;dsimp only
 by_cases o:z > 0
 ·rw[if_pos o];refine tR (b.rev _ _) s (by lia) t (λi j l w=>?_) k;rw[jc (by lia) q (by lia),jc (by lia) q (by lia)];exact e i j l w
 ·rw[if_neg o];exact tR b s (by lia) t e k
theorem vT{p:Array Nat}{a:Nat}{Q:Nat×Array Nat->Prop}(h:cf n p)(C:1<=a)(z:a<=n)
  (k:∀q t,cf n t->1<=q->q<=a->cM O key t q->Q (q,t)):tw n (dj O key) (kas_count a p) Q:=by
 have B:=h.size;unfold kas_count;refine gY (sf h (F6 1) (by lia) (λi j l s=>by obtain rfl:i=j:=(by lia);exact ac2 _) λm u E o A=>?_)
 by_cases e:m=a
 ·rw[if_pos (by simpa using e)];exact k m p h u (by lia) o
 ·rw[if_neg (by simpa using e)];have lt:O.klt (kp O key p m) (kp O key p (m-1)):=A.resolve_left (by lia)
  by_cases g:m > 1
  ·rw[if_pos g];refine⟨h.lt (by lia),h.lt (by lia),?_⟩;cases c:dj O key (p.getD 0 0) (p.getD (m-1) 0)with
   |true=>exact k m p h u (by lia) o
   |false =>
    simp only[F0,if_false];have b:∀i,0<=i->i<m->kp O key p i=kp O key p (m-1):=λi _ w =>
     ab6.kle_antisymm (o i (m-1) (by lia) (by lia)) (al0 (show O.kle (kp O key p (m-1)) (kp O key p 0)from c) (o 0 i (by lia) w))
    have same:∀{i},i<n->kp O key (kas_rev p 0 m) i=kp O key p i:=λw=>jc (by lia) b (by lia);refine j6 (h.rev _ _) (by lia) z (iy.more (λi j l s=>?_) u ?_) k
    ·rw[same (by lia),same (by lia),b i (by lia) (by lia),b j (by lia) s];exact ac2 _
    ·rw[same (by lia),same (by lia)];exact af3 lt
  ·rw[if_neg g];obtain rfl:m=1:=by lia
   refine j6 h (by lia) z (iy.more (λi j l s=>by obtain rfl:i=j:=(by lia);exact ac2 _) (F6 1) (af3 lt)) k
theorem kM{p:Array Nat}(e:cf n p){x:Nat}(j:x<n)(hs:cM O key p x):∀{f l r:Nat}{Q:Nat->Prop},l<=r->r<=x->r-l<=f ->
  (∀i,i<l->O.kle (kp O key p i) (kp O key p x))->(∀i,r<=i->i<x->O.klt (kp O key p x) (kp O key p i)) ->
  (∀h,h<=x->(∀i,i<h->O.kle (kp O key p i) (kp O key p x))->(∀i,h<=i->i<x->O.klt (kp O key p x) (kp O key p i))->Q h)->tw n (dj O key) (kas_place p x f l r) Q
 |0,l,r,Q,q,m,s,a,b,k=>by
  obtain rfl:l=r:=by lia
  exact k l m a b
 |f+1,l,r,Q,q,m,s,a,b,k=>by
  unfold kas_place
  by_cases g:l>=r
  ·rw[if_pos g];obtain rfl:l=r:=by lia
   exact k l m a b
  ·rw[if_neg g];refine⟨e.lt j,e.lt (by lia),?_⟩;cases c:dj O key (p.getD x 0) (p.getD ((l+r) / 2) 0)with
   |true =>
    simp only[if_true];exact kM e j hs (by lia) (by lia) (by lia) a (λi o t=>ab6.klt_of_klt_of_kle (show O.klt (kp O key p x) (kp O key p ((l+r) / 2))from c) (hs _ _ o t)) k
   |false =>
    simp only[F0,if_false];exact kM e j hs (by lia) (by lia) (by lia) (λi u=>al0 (hs i ((l+r) / 2) (by lia) (by lia)) (show O.kle (kp O key p ((l+r) / 2)) (kp O key p x)from c)) b k
theorem xJ:∀{f:Nat}{p:Array Nat}{x:Nat}{Q:Array Nat->Prop},cf n p->1<=x->x+f<=n->cM O key p x->(∀m,cf n m->cM O key m (x+f)->Q m)->tw n (dj O key) (kas_bin f p x) Q
 |0,p,x,Q,g,_,_,e,k=>k p g e
 |f+1,p,x,Q,g,z,C,e,k=>by
  have w:=g.size;refine gY (kM g (by lia) e (P1 _) (F6 _) (by lia) (λi u=>by lia) (λi a b=>by lia) λl A lo u=>?_);refine xJ (g.bub _ _) (by lia) (by lia) (λi j o B=>?_) λm a b=>k m a (by rw[show x+(f+1)=x+1+f by lia];exact b);rw[vF (by lia) (by lia) (by lia),vF (by lia) (by lia) (by lia),show x-(x-l)=l by lia]
  by_cases t:i=l
  ·rw[if_pos t]
   by_cases h:j=l
   ·rw[if_pos h];exact ac2 _
   ·rw[if_neg h,if_pos (by lia)];exact af3 (u _ (by lia) (by lia))
  ·rw[if_neg t]
   by_cases q:l<i/\i<=x
   ·rw[if_pos q,if_neg (by lia),if_pos (by lia)];exact e _ _ (by lia) (by lia)
   ·rw[if_neg q]
    by_cases h:j=l
    ·rw[if_pos h];exact lo _ (by lia)
    ·rw[if_neg h]
     by_cases s:l<j/\j<=x
     ·rw[if_pos s];exact e _ _ (by lia) (by lia)
     ·rw[if_neg s];exact e _ _ o (by lia)
theorem yY(h:1<=n){Q:Array Nat->Prop}(k:∀p,cf n p->cM O key p n->Q p):tw n (dj O key) (kas_sort n) Q:=by
 have l:cf n (List.toArray (Q8 n)):=ao0.refl _;unfold kas_sort;refine gY (vT l h (F6 _) λm p i q s j=>?_);dsimp only
 by_cases g:m<n
 ·rw[if_pos g];have e:max m 1=m:=by lia
  rw[e];exact xJ i q (by lia) j λo a b=>k o a (by rwa [show m+(n-m)=n by lia]at b)
 ·rw[if_neg g];obtain rfl:m=n:=by lia
  exact k p i j
end
end L2
namespace L2
open PySem PySem.W PySem.Calls PyProof.Rows
section
variable{prog:K9}{w:P7}{A:M8}{E:u8->E9->Prop}{O:ab6}
def iw(a:List u8)(p:Array Nat):List u8:=p.toList.map λi=>a.getD i J9
theorem mR{a:List u8}{p:Array Nat}(h:cf a.length p):(iw a p).length=a.length:=by
 unfold iw;rw[E8,J1];exact h.size
def pN(x:F4)(s t:E9):Prop:=∀b o,b≠x->s.heap.get? b=some o->t.heap.get? b=some o
theorem A9{s:E9}{x:F4}{g:List u8}{n:Nat}{key:Nat->O.α}{κ:SortKind}{P:PySem.Fin->E9->Prop}(L:s.heap.get? x=some (ao1 "list" g.toArray n))(Z:g.length<64)
  (hk:∀m Q,2<=g.length->pN x s m->Q κ m->J0 (L4 prog w) A (keyKind' g.toArray) Q (λ_ _=>False) m)
  (hc:∀i j m C,i<g.length->j<g.length->pN x s m->C (dj O key i j) m->kas_ask prog w A κ g i j C m)
  (k:∀p c h',cf g.length p->cM O key p g.length->(∀b o,b≠x->s.heap.get? b=some o->h'.get? b=some o)->h'.get? x=some (ao1 "list" (iw g p).toArray c)->P (.done (.ret .none)) { s with heap:=h' }) :
  J0 (L4 prog w) A (M7.«list.sort» ⟨[.ref x],[]⟩) P E s:=by
 have lx:x<s.heap.objs.size:=I0 L;obtain⟨c1,T⟩:∃c,(s.heap.update x (ai9 λ_=>#[])).get? x=some (ao1 "list" #[] c):=⟨_,get?_update_seq L (λ_=>#[])⟩;rw[list_sort_plain];refine o0 (listItems_at L rfl (o0 (listUpdate_at L rfl (o0 (seqEpoch_at T rfl (o0 (wpAny_newTuple (o0 (wpAny_newList (N6 ?_) (P1 _))) ?_)))) ?_ (P1 _))))
 rotate_left
 ·show g.length<=_;rw[ai7];lia
 ·rw[F1,ai7];lia
 generalize U:((s.heap.update x (ai9 λ_=>#[])).push (ao1 "tuple" g.toArray 0)).push (ao1 "list" #[] 0)=l;show J0 _ A _ P E { s with heap:=l };have B:l.get? x=some (ao1 "list" #[] c1):=by
  rw[<-U];exact E7 _ (E7 _ T)
 have st:pN x s { s with heap:=l }:=λb o I e=>by
  show l.get? b=some o;rw[<-U];exact E7 _ (E7 _ (by rw[K3.get?_update_ne _ _ _ _ I];exact e))
 have G:∀p,cf g.length p->cM O key p g.length->P (.done (.ret .none)) { s with heap:=l.update x (ai9 λ_=>(iw g p).toArray) }:=λp H R =>
  k p _ _ H R (λb o I e=>by rw[K3.get?_update_ne _ _ _ _ I];exact st b o I e) (get?_update_seq B λ_=>(iw g p).toArray)
 dsimp only
 by_cases h:g.toArray.size<2
 ·rw[if_pos h,if_pos h];refine o0 (E6 ?_);rw[StateT.run_pure];refine o0 (E6 ?_);dsimp only;have S:g.length<2:=by rw[F1]at h;exact h
  have N:(arrOf (SortSt.mk' general' (g.toArray.zip g.toArray) #[] 7 none)).map (·.2)=(iw g (List.toArray (Q8 g.length))).toArray:=by
   refine kat_snds rfl ?_;have e:=kas_range (g.toArray.zip g.toArray);have z0:(g.toArray.zip g.toArray).size=g.length:=by simp
   rw[z0]at e;exact e.symm
  rw[N];refine o0 (seqEpoch_at B rfl (o0 (listUpdate_at B rfl ?_ (P1 _) ?_)))
  ·simp only[failedOf,bne_self_eq_false,F0,if_false];exact E6 (G _ (ao0.refl _) λi j a1 X=>by
    obtain rfl:i=j:=by lia
    exact ac2 _)
  ·rw[F1,mR (show cf g.length (List.toArray (Q8 g.length))from ao0.refl _),ai7];lia
 ·rw[if_neg h,if_neg h];have two:2<=g.length:=by rw[F1]at h;lia
  refine o0 (P5 (hk { s with heap:=l } (λq t=>q=κ/\t=({ s with heap:=l }:E9)) two st ⟨rfl,rfl⟩) ?_ λ_ _ z=>z.elim);rintro a0 _ ⟨ek,rfl⟩;rw[ek];have ask:(kas_sort g.length).kasWp (kas_ask prog w A κ g) (λp t=>t=({ s with heap:=l }:E9)/\cf g.length p/\cM O key p g.length) { s with heap:=l } :=
   vZ (J:=λt=>t=({ s with heap:=l }:E9)) (lt:=dj O key) (Q:=λp=>cf g.length p/\cM O key p g.length) (λi j C t hi X M hC=>by subst M;exact hc i j _ C hi X st (hC _ rfl)) (λp t M hq=>⟨M,hq⟩) (yY (by lia) λp a b=>⟨a,b⟩) rfl
  refine o0 (P5 (kat_run (Q:=λu t=>∃p:Array Nat,arrOf u=p.map (kas_item (g.toArray.zip g.toArray))/\failedOf u=none/\t=({ s with heap:=l }:E9)/\cf g.length p/\cM O key p g.length) rfl two Z (λp u t _ Y a3 a4=>⟨p,Y,a3,a4⟩) ask) ?_ λ_ _ z=>z);rintro⟨⟨⟩,u⟩ t ⟨p,ea,ef,rfl,H,R⟩;dsimp only;have N:(arrOf u).map (·.2)=(iw g p).toArray:=kat_snds rfl ea;rw[N];refine o0 (seqEpoch_at B rfl (o0 (listUpdate_at B rfl ?_ (P1 _) ?_)))
  ·rw[ef];simp only[bne_self_eq_false,F0,if_false];exact E6 (G p H R)
  ·rw[F1,mR H,ai7];lia
end
noncomputable def ltP(a b:Int×Int):Bool:=decide (a.1<b.1) || (decide (a.1=b.1)&&decide (a.2<b.2))
def leP(a b:Int×Int):Bool:=! ltP b a
theorem gZ{a b:Int×Int}:ltP a b=true↔a.1<b.1∨(a.1=b.1/\a.2<b.2):=by simp[ltP]
theorem kN{a b:Int×Int}:ltP a b=false↔b.1<a.1∨(a.1=b.1/\b.2<=a.2):=by
 rw[Z9,Ne,gZ];lia
def Eo:ab6 where
 α:=Int×Int
 blt:=ltP
 irrefl a:=by rw[kN];lia
 trans a b c h1 h2:=by rw[gZ]at *;lia
 negTrans a b c h:=by rw[gZ,gZ];rw[gZ]at h;lia
 total a b h1 h2:=by
  rw[kN]at h1 h2;exact Prod.ext (by lia) (by lia)
theorem wG{a b:Int×Int}(g:leP a b=true)(e:leP b a=true):a=b:=by
 simp only[leP,Bool.not_eq_true',kN]at g e;exact Prod.ext (by lia) (by lia)
def iB(ps:List (Int×Int)):List (Int×Int):=ps.mergeSort leP
theorem iO(ps:List (Int×Int)):(iB ps).Perm ps:=List.mergeSort_perm _ _
theorem xp(ps:List (Int×Int)):(iB ps).Pairwise λa b=>leP a b=true :=
 List.pairwise_mergeSort (λa b c e g=>by simp only[leP,Bool.not_eq_true',kN]at *;lia) (λa b=>by
  cases h:leP a b with
  |true=>rfl
  |false =>
   simp only[leP,Bool.not_eq_false',gZ]at h;simp only[Bool.false_or,leP,Bool.not_eq_true',kN];lia) ps
theorem wO{ps e:List (Int×Int)}(h:e.Perm ps)(hs:e.Pairwise λa b=>leP a b=true):e=iB ps :=
 ao0.eq_of_pairwise (le:=λa b=>leP a b=true) (λa b _ _ g i=>wG g i) hs (xp ps) (h.trans (iO ps).symm)
def pD(p:Int×Int):D:=.tup [.int p.1,.int p.2]
noncomputable def jt:List D->Option (List (Int×Int))
 |[]=>some []
 |.tup [.int i,.int j]::a=>(jt a).map ((i,j)::·)
 |_=>none
theorem ny:∀{ps:List (Int×Int)},jt (ps.map pD)=some ps
 |[]=>rfl
 |p::ps=>by simp[jt,pD,ny (ps:=ps)]
theorem rZ:∀{ds:List D}{ps:List (Int×Int)},jt ds=some ps->ds=ps.map pD:=by
 intro ds
 induction ds using jt.induct with
 |case1=>intro ps e;cases e;rfl
 |case2 i j ds ih =>
  intro ps e;simp only[jt]at e;cases q:jt ds with
  |none=>rw[q]at e;cases e
  |some b=>rw[q]at e;cases e;rw[ih q];rfl
 |case3 ds a g=>intro ps e;rw[jt]at e<;>simp_all
section
variable{X:Cx}{z:List (F4×Obj)}{s:E9}{σ:St}{H:Hp}{M:DH}
theorem BU(I:Inv X z σ H s){ps:List (Int×Int)}{h:List V}{us:List u8}(n:ao X.K M H (ps.map pD) h)(p:aw h us){i:Nat}(hi:i<ps.length):
  ∃a t u,us[i]?=some (.ref a)/\al9 s.heap a #[.int ps[i].1 t,.int ps[i].2 u]:=by
 obtain⟨v,g,r⟩:=n.get (i:=i) (d:=pD ps[i]) (by simp[hi]);obtain⟨A,j,l⟩:=p.get g;simp only[pD,Rep]at r;obtain⟨a,w,rfl,sq,b⟩:=r;cases l;obtain⟨m,e,o,q⟩:=I.tuple sq.sq;simp only[ao,Rep]at b;obtain⟨_,_,rfl,rfl,_,_,rfl,rfl,rfl⟩:=b;obtain⟨x,y,rfl,⟨t,rfl⟩,⟨u,rfl⟩⟩:=aw.two e;exact⟨a,t,u,j,o⟩
theorem jd{us:List u8}{i:Nat}{v:u8}(h:us[i]?=some v):us.getD i J9=v:=by
 rw[L9,h];rfl
theorem tN{h:K3}:∀{ps:List (Int×Int)}{us:List u8},us.length=ps.length->(∀i (hi:i<ps.length),∃a t u,us[i]?=some (.ref a)/\al9 h a #[.int ps[i].1 t,.int ps[i].2 u])->∃fs,KatTups h us fs/\fs.length=ps.length/\∀f∈fs,∃i t,f=ak4 i t
 |[],[],_,_=>⟨[],KatTups.nil,rfl,λ_ h=>(nomatch h)⟩
 |p::ps,u::us,b,k=>by
  obtain⟨fs,l,q,w⟩:=tN (ps:=ps) (us:=us) (by simpa using b) λi hi=>k (i+1) (by simpa using hi);obtain⟨a,t,z,e,o,j,s,n,m⟩:=k 0 (by simp);simp only[V8,ac3]at e;subst e;exact⟨_::fs,KatTups.cons j s m rfl l,by simp[q],λf g=>by
   rcases J3.mp g with rfl|g
   ·exact⟨_,_,rfl⟩
   ·exact w f g⟩
 |[],_::_,b,_=>by simp at b
 |_::_,[],b,_=>by simp at b
theorem vC{prog:K9}{w:P7}{A:M8}{E:u8->E9->Prop}{s:E9}{x y:F4}{p q:Int×Int}{h t2 i b:Tok}{C:Bool->E9->Prop}(t:al9 s.heap x #[.int p.1 h,.int p.2 t2])(m:al9 s.heap y #[.int q.1 i,.int q.2 b])(k:C (ltP p q) s):
  J0 (L4 prog w) A (keyLt' (tuples' true) (.ref x) (.ref y)) C E s:=by
 obtain⟨H,n,_,B,j⟩:=t;obtain⟨z,u,_,G,o⟩:=m;refine kat_lt n j u o ?_;refine kat_cons (wpAny_eqBool_int ?_);cases e:(p.1==q.1)with
 |false =>
  refine kat_no (oneLt_int ?_);have:decide (p.1<q.1)=ltP p q:=by
   have a:¬ p.1=q.1:=by simpa using e
   simp[ltP,a]
  rw[this];exact k
 |true =>
  have a:p.1=q.1:=by simpa using e
  refine kat_yes (kat_cons (wpAny_eqBool_int ?_));cases g:(p.2==q.2)with
  |false =>
   refine kat_no (kat_one _ _ ?_);refine wpAny_lt_int ?_;have:decide (p.2<q.2)=ltP p q:=by simp[ltP,a]
   rw[this];exact k
  |true =>
   have l:p.2=q.2:=by simpa using g
   refine kat_yes (kat_nil ?_);have:decide ((#[ak4 p.1 h,ak4 p.2 t2]:Array u8).size<(#[ak4 q.1 i,ak4 q.2 b]:Array u8).size)=ltP p q:=by simp[ltP,a,l]
   rw[this];exact k
def kp_(p:Array Nat)(i:Nat):Nat:=p.getD i 0
theorem iN{h h':K3}{a:F4}{e:Array u8}(t:al9 h a e)(k:∀b o,h.get? b=some o->h'.get? b=some o):al9 h' a e :=
 let⟨o,g,j,i⟩:=t
 ⟨o,k _ _ g,j,i⟩
theorem jC{a:List V}{us:List u8}(e:aw a us):∀{l:List Nat},(∀i∈l,i<a.length)->aw (l.map λi=>a.getD i .non) (l.map λi=>us.getD i J9)
 |[],_=>.nil
 |i::l,h=>by
  have b:=h i (.head _);obtain⟨u,g,r⟩:=e.get (E4 b);rw[K0,K0];refine .cons ?_ (jC e λj m=>h j (.tail _ m));rw[jd g,L9,E4 b];exact r
theorem m5{K:E5}{ps:List (Int×Int)}{b:List V}(e:ao K M H (ps.map pD) b):∀{l:List Nat},(∀i∈l,i<ps.length)->ao K M H ((l.map λi=>ps.getD i (0,0)).map pD) (l.map λi=>b.getD i .non)
 |[],_=>rfl
 |i::l,h=>by
  have a:=h i (.head _);obtain⟨v,g,r⟩:=e.get (i:=i) (d:=pD ps[i]) (by simp[a]);simp only[K0,ao];refine⟨v,_,?_,?_,m5 e λj m=>h j (.tail _ m)⟩
  ·rw[L9,g];rfl
  ·rw[L9,E4 a];exact r
theorem uk(ps:List (Int×Int)):(Q8 ps.length).map (λi=>ps.getD i (0,0))=ps:=by
 apply List.ext_getElem (by simp);intro i b a;simp[E4 a]
end
end L2
namespace L2
open PySem PySem.Spec PyProof.Rows
theorem DY{X:Cx}{o:N1}{s:TEd}{z t:Pos}(J:QEd X o s)(G:V3 o "pop" X.env (aa2 o X.env)=aa2 o X.env:=by rfl)(P:(z.endLine==t.line)=true:=by rfl):QEd X (.Call (.Attribute o "pop" z) [] [] t) (Cn s):=by
 simp only[QEd.eq]at *
 exact(BC ac9 PySem.F.slot_list_pop PySem.F.type_list_pop (show MtR X "list.pop" DD from AI) J G P).conv λT H Q j=>j.el λE M R B N q k=>⟨E,M,_,B,N,q,λo M1 U u ⟨a,g,d,S,m,A⟩ L e p=>by
   subst S;simp only[Rep]at p;subst p;obtain⟨h,n,l⟩:=e a _ m;have O:=l.length;rw[F2,O0,ae7]at O;obtain⟨v,I,C⟩:=l.get (i:=g.length) (d:=d) (by simp);have b:h.length-1=g.length:=by lia
   refine⟨.inl ⟨rfl,h,SqL.of n⟩,a,h,v,rfl,rfl,n,by rw[b];exact I,?_⟩;have w:Ext M1 u (aF M1 a (.lst g)) (upd u a (.lst h.dropLast)):=Ext.write m;refine k _ _ _ _ A (L.trans w) (e.write m ?_) (C.ext w);have:=ao.take g.length l;rw[List.take_left]at this;rw[List.dropLast_eq_take,b];exact this⟩
theorem Cy{X:Cx}{e:N1}{o:N1}{te:TEd}{s:TEd}{C i:Pos}(I:QEd X o s)(he:QEd X e te)(cF:V3 o "extend" X.env (aa2 o X.env)=aa2 o X.env:=by rfl)
  (m:F3 [e] X.env=(false,aa2 e X.env)::F3 [] X.env:=by rfl)
  (P:((U6 i (F3 [e] X.env)).all (λx => !x.1) && (an4 i (ae5 [] X.env)).all (λx => x.1.isSome)
  &&decide ([e].length+([]:List ag6).length+(if([]:List ag6).isEmpty then 0 else 1)<30))=true:=by rfl)
  (dX:(C.endLine==i.line)=true:=by rfl) (J:(U6 i (F3 [] X.env)).any (·.1)=false:=by rfl):QEd X (.Call (.Attribute o "extend" C) [e] [] i) (DL s te):=by
 simp only[QEd.eq]at *
 exact(xo ac9 PySem.F.slot_list_extend PySem.F.type_list_extend (show MtR X "list.extend" tm from uS) I (bA he de m) cF P dX m J).conv λσ H Q p=>p.el λA M R u U q k=>⟨A,M,_,u,U,q,λo M1 ov H1 ⟨a,l,eo,T,E⟩ t h z=>by
   subst eo;simp only[Rep]at z;subst z;obtain⟨Z,L,rl⟩:=h a _ T;refine⟨.inl ⟨rfl,Z,SqL.of L⟩,A,M1,_,u.ext t,h,E,λd M2 v H2 ⟨ds,ys,S,g,G,q2⟩ Y j w=>?_⟩;subst S;simp only[Rep]at w;obtain⟨b,zs,rfl,O,B⟩:=w;obtain⟨N,hw,n⟩:=j a _ g;refine⟨a,b,N,zs,rfl,rfl,hw,O.1,by rw[<-n.length,<-B.length];exact G,k _ _ _ _ q2 ((t.trans Y).trans (Ext.write g)) (j.write g (n.append B)) (by simp[Rep])⟩⟩
theorem CB{i:Int}{P:Key->Prop}:(∃k,D.int i=kD k/\P k)↔P (.inl i) :=
 ⟨λ⟨k,e,h⟩=>match k,e with|.inl _,rfl=>h,λh=>⟨_,rfl,h⟩⟩
theorem D6{x:Str}{P:Key->Prop}:(∃k,D.str x=kD k/\P k)↔P (.inr x) :=
 ⟨λ⟨k,e,h⟩=>match k,e with|.inr _,rfl=>h,λh=>⟨_,rfl,h⟩⟩
theorem xP{i j:Int}:EO [.int i,.int j]=some (.int (if j<i then j else i)):=rfl
@[irreducible] def yp(t:TSd):TSd:=t
theorem tL{t:TSd}:yp t=t:=by unfold yp;rfl
theorem am{t:TSd}{E:dH}{a:DE}{M:DH}(h:t E a M):yp t E a M:=by rw[tL];exact h
theorem aB{X:Cx}{st:List Z7}{t:TSd}(h:QSs X st t):QSs X st (yp t):=by rw[tL];exact h
theorem vh{K:Params->E5}{H:List F4}{n t:Nat}{q:K9}{i:List Str}{S:(Str->Option u8)->K3->Prop}{r:PySem.W.RowW}{d:DefRec}{B:List (Str×N1)}{run:u8->List u8->Sem u8}(hk:∀P,H=(K P).map (·.1))
  (h:PySem.W.WalkO q i S (λw h=>(K w.params).In h) r d B run):PySem.W.WalkX q i S (PySem.W.X.obsZ H) (PySem.W.X.valZ K n t) r d B run:=by
 intro w g s mg Y G y a o pm cd Q X kV U hd R hD O hg j C I L A m M N E;refine h w g s mg Y G (λb u Z=>L.keeps b u ?_) a o pm cd Q X kV U hd R hD O hg j C I A m M N E;have T:H.map g.heap.get?=(K w.params).map λp=>some p.2:=congrArg (·.1) y;rw[hk w.params,Q9]at T;have J:∀(l:E5),(l.map λp=>g.heap.get? p.1)=l.map (λp=>some p.2)->aq2 b l=some u->g.heap.get? b=some u:=by
  intro l
  induction l with
  |nil=>intro _ z;cases z
  |cons p l ih =>
   intro e z;rw[K0,K0,X4]at e;rw[O1]at z
   by_cases c:b=p.1
   ·subst c;rw[beq_self_eq_true]at z;cases z;exact e.1
   ·rw[beq_eq_false_iff_ne.mpr c]at z;exact ih e.2 z
 exact J _ T Z
end L2
namespace L2
open PySem PySem.W PySem.Calls PyProof.Rows
section
variable{prog:K9}{w:P7}{A:M8}{E:u8->E9->Prop}{O:ab6}
theorem mM{T:String}{o:Obj}{n:Nat}{s:E9}{l:F4}{g:List u8}{key:Nat->O.α}{κ:SortKind}{Q:u8->E9->Prop}(Y:T="list"∨T="tuple")(hg:s.heap.get? l=some o)(N:o.cls=.type T)(X:o.data=.seq g.toArray n)(hz:g.length<64)
  (hk:∀B Q,2<=g.length->(∀b o,s.heap.get? b=some o->B.heap.get? b=some o)->Q κ B->J0 (L4 prog w) A.in1.in1 (keyKind' g.toArray) Q (λ_ _=>False) B)
  (S:∀i j B C,i<g.length->j<g.length->(∀b o,s.heap.get? b=some o->B.heap.get? b=some o)->C (dj O key i j) B->kas_ask prog w A.in1.in1 κ g i j C B)
  (k:∀(a:K3) p x c h',(∀b o,s.heap.get? b=some o->a.get? b=some o)->cf g.length p->cM O key p g.length->a.objs.size<=x->(∀b o,a.get? b=some o->h'.get? b=some o)->h'.get? x=some (ao1 "list" (iw g p).toArray c)->Q (.ref x) { s with heap:=h' }) :
  J0 (L4 prog w) A (ar9 (.builtin "sorted") [.ref l]) Q E s:=by
 refine call_function_entry kind_sorted plain_sorted entry_sorted (args_sorted1 _) ?_;unfold M7.«sorted»;refine o0 (m:=checkCount "sorted" 1 1 _) (E6 ?_);have I:g.length<=F9:=by rw[ai7];lia
 refine o0 (wpAny_collect_seq l Y hg N X (λa G=>o0 (wpAny_newList ?_ I)) (by simpa using I));have H:∀b o,a.get? b=some o->(a.push (ao1 "list" g.toArray 0)).get? b=some o:=λb o e=>by
  rw[K3.get?_push_ne _ _ _ (K8 (I0 e))];exact e
 have J:∀b o,s.heap.get? b=some o->(a.push (ao1 "list" g.toArray 0)).get? b=some o:=λb o e=>H b o (G b o e);have new:(a.push (ao1 "list" g.toArray 0)).get? a.objs.size=some (ao1 "list" g.toArray 0):=K1 _ rfl;have h:a.get? a.objs.size=none:=S5 (F6 _);have M:s.heap.get? a.objs.size=none:=by
  cases e:s.heap.get? a.objs.size with
  |none=>rfl
  |some u=>rw[G _ _ e]at h;cases h
 show J0 _ _ _ _ _ { s with heap:=a.push (ao1 "list" g.toArray 0) };have P:∀(t:E9),pN a.objs.size { s with heap:=a.push (ao1 "list" g.toArray 0) } t->∀b o,s.heap.get? b=some o->t.heap.get? b=some o:=λt z b o e=>z b o (λq=>by rw[q,M]at e;cases e) (J b o e);have L:∀(t:E9),pN a.objs.size { s with heap:=a.push (ao1 "list" g.toArray 0) } t->∀b o,a.get? b=some o->t.heap.get? b=some o:=λt z b o e=>z b o (λq=>by rw[q,h]at e;cases e) (H b o e);refine o0 (N6 (aa4 slot_list_sort ⟨_,new,rfl⟩ entry_list_sort ?_ (args_list_sort _)));refine A9 (κ:=κ) (key:=key) new hz (λt R two z q=>hk t R two (P t z) q) (λi j t C hi hj z q=>S i j t C hi hj (P t z) q) λp c h' Z hr U hx=>?_;refine⟨_,rfl,E6 ⟨_,rfl,?_⟩⟩;exact k a p _ c h' G Z hr (F6 _) (λb o e=>L { s with heap:=h' } U b o e) hx
end
def Ew:ab6 where
 α:=Int
 blt a b:=decide (a<b)
 irrefl a:=by simp
 trans a b c h1 h2:=by simp only[decide_eq_true_eq]at *;lia
 negTrans a b c h:=by simp only[decide_eq_true_eq]at *;lia
 total a b h1 h2:=by simp only[decide_eq_false_iff_not]at *;lia
def nG(ns:List Int):List Int:=ns.mergeSort λa b=>decide (a<=b)
theorem rm(ns:List Int):(nG ns).Perm ns:=List.mergeSort_perm _ _
theorem wc(ns:List Int):(nG ns).Pairwise λa b=>a<=b:=by
 have:=List.pairwise_mergeSort (le:=λa b:Int=>decide (a<=b)) (λa b c e g=>by simp only[decide_eq_true_eq]at *;lia) (λa b=>by simp only[Bool.or_eq_true,decide_eq_true_eq];lia) ns;exact this.imp λh=>by simpa using h
theorem xt{ns ms:List Int}(h:ms.Perm ns)(hs:ms.Pairwise λa b=>a<=b):ms=nG ns :=
 ao0.eq_of_pairwise (le:=λa b:Int=>a<=b) (λa b _ _ e g=>by lia) hs (wc ns) (h.trans (rm ns).symm)
section
variable{X:Cx}{y:List (F4×Obj)}{s:E9}{σ:St}{H:Hp}{M:DH}
theorem qZ(ns:List Int):(Q8 ns.length).map (λi=>ns.getD i 0)=ns:=by
 apply List.ext_getElem (by simp);intro i b a;simp[E4 a]
theorem AD{K:E5}{ns:List Int}{a:List V}{us:List u8}(h:ao K M H (ns.map D.int) a)(j:aw a us){i:Nat}(hi:i<ns.length):∃t,us[i]?=some (.int ns[i] t):=by
 obtain⟨v,g,r⟩:=h.get (i:=i) (d:=D.int ns[i]) (by simp[hi]);obtain⟨l,b,e⟩:=j.get g;simp only[Rep]at r;subst r;obtain⟨t,rfl⟩:=e;exact⟨t,b⟩
theorem m6{K:E5}{ns:List Int}{b:List V}(e:ao K M H (ns.map D.int) b):∀{l:List Nat},(∀i∈l,i<ns.length)->ao K M H ((l.map λi=>ns.getD i 0).map D.int) (l.map λi=>b.getD i .non)
 |[],_=>rfl
 |i::l,h=>by
  have a:=h i (.head _);obtain⟨v,g,r⟩:=e.get (i:=i) (d:=D.int ns[i]) (by simp[a]);simp only[K0,ao];refine⟨v,_,?_,?_,m6 e λj m=>h j (.tail _ m)⟩
  ·rw[L9,g];rfl
  ·rw[L9,E4 a];exact r
theorem wK{us:List u8}:∀{ns:List Int},us.length=ns.length->(∀i (hi:i<ns.length),∃t,us[i]?=some (.int ns[i] t))->as5 us ns:=by
 induction us with
 |nil=>intro ns h _;cases ns with|nil=>exact .nil|cons n ns=>cases h
 |cons u us ih =>
  intro ns h b;cases ns with
  |nil=>cases h
  |cons n ns =>
   obtain⟨t,e⟩:=b 0 (by simp);have g:u=.int n t:=by simpa using e
   subst g;exact .cons _ _ (ih (by simpa using h) λi hi=>by
    obtain⟨j,a⟩:=b (i+1) (by simpa using hi);exact⟨j,by rw[S1]at a;exact a⟩)
theorem xf(I:Inv X y σ H s)(hr:HR X.K M H){ns:List Int}(a1:ns.length<64){l:F4}{T:String}{o:Obj}{n:Nat}{E:List V}{e:List u8}(rl:ao X.K M H (ns.map D.int) E)(P:aw E e)(U:E.length<=F9)
  (hT:T="list"∨T="tuple") (hg:s.heap.get? l=some o) (Z:o.cls=.type T) (hd:o.data=.seq e.toArray n) {Q:VK}
  (k:∀w B,Ext M H M B->HR X.K M B->Rep X.K M B (.lst ((nG ns).map D.int)) w->Q w B):J0 (L4 X.prog X.w) X.A (ar9 (.builtin "sorted") [.ref l]) (EP X y σ Q) X.xe s:=by
 have J:ns.length=e.length:=by rw[<-P.length,<-rl.length,E8]
 have at_:=λi (h:i<ns.length)=>AD rl P h;have m:∀i (h:i<ns.length),ns.getD i 0=ns[i]:=λi h=>by rw[L9,E4 h];rfl
 refine mM (O:=Ew) (key:=λi=>ns.getD i 0) (κ:=oneType') hT hg Z hd (by lia) (λs1 Q' two kp q=>?_) (λi j s1 C h A kp q=>?_) λh1 p x c h' S N hs hx kp ho=>?_
 ·have ia:=wK J.symm at_
  match e,two,ia with
  |v1::v2::r,_,ia=>rw[keyKind_ints ia];exact E6 q
 ·rw[<-J]at h A;obtain⟨t,g⟩:=at_ i h;obtain⟨u,g'⟩:=at_ j A;show J0 _ _ (keyLt' _ _ _) _ _ _;rw[jd g,jd g'];refine kat_lt_int ?_;have q':C (decide (ns.getD i 0<ns.getD j 0)) s1:=q
  rwa [m i h,m j A]at q'
 ·have G:∀i∈p.toList,i<ns.length:=λi h=>by rw[J];exact O4.mp (N.mem_iff.mp h)
  have L:E.length=e.length:=P.length;have lo:(p.toList.map λi=>E.getD i .non).length=e.length:=by rw[E8,J1];exact N.size
  have I1:Inv X y σ H { s with heap:=h1,toks:=s.toks }:=I.kept S;have I2:=I1.laid (t':=s.toks) (o:=.lst (p.toList.map λi=>E.getD i .non)) kp hx (show bT X.prog X.w _ h' x (.lst _)from⟨by rw[lo,<-L];exact U,iw e p,c,jC P (λi h=>by rw[L,<-J];exact G i h),ho⟩);have es:(p.toList.map λi=>ns.getD i 0)=nG ns:=by
   have R:p.toList.Perm (Q8 ns.length):=by rw[J];exact N
   have hm:=R.map λi=>ns.getD i 0;rw[qZ]at hm;refine xt hm ?_;rw[List.pairwise_iff_getElem];intro i j h A Y;have sz:p.size=e.length:=N.size;rw[E8,J1]at h A;have:=hs i j (ae0 Y) (by lia);have e1:kp_ p i=p.toList[i]'(by simpa using h):=by simp[kp_,X8,h]
   have e2:kp_ p j=p.toList[j]'(by simpa using A):=by simp[kp_,X8,A]
   have g:ns.getD (kp_ p i) 0<=ns.getD (kp_ p j) 0:=by
    have z:decide (ns.getD (kp_ p j) 0<ns.getD (kp_ p i) 0)=false:=this;simp only[decide_eq_false_iff_not]at z
    lia
   rw[e1,e2]at g;simpa using g
  refine⟨.ref x,_,I2,rfl,fj hr (I1.hok.fresh hx) (m6 rl G) λw B a b c=>?_⟩;rw[es]at c;exact k w B a b c
theorem uB(I:Inv X y σ H s)(hr:HR X.K M H){ps:List (Int×Int)}(a2:ps.length<64){l:F4}{T:String}{o:Obj}{n:Nat}{G:List V}{m:List u8}(rl:ao X.K M H (ps.map pD) G)(R:aw G m)(Y:G.length<=F9)
  (hT:T="list"∨T="tuple") (hg:s.heap.get? l=some o) (a0:o.cls=.type T) (hd:o.data=.seq m.toArray n) {Q:VK}
  (k:∀w E,Ext M H M E->HR X.K M E->Rep X.K M E (.lst ((iB ps).map pD)) w->Q w E):J0 (L4 X.prog X.w) X.A (ar9 (.builtin "sorted") [.ref l]) (EP X y σ Q) X.xe s:=by
 have L:ps.length=m.length:=by rw[<-R.length,<-rl.length,E8]
 have at_:=λi (e:i<ps.length)=>BU I rl R e;have A:∀i (e:i<ps.length),ps.getD i (0,0)=ps[i]:=λi e=>by rw[L9,E4 e];rfl
 refine mM (O:=Eo) (key:=λi=>ps.getD i (0,0)) (κ:=tuples' true) hT hg a0 hd (by lia) (λs1 Q' two kp q=>?_) (λi j s1 C e B kp q=>?_) λh1 p x c h' U P hs hx kp ho=>?_
 ·obtain⟨fs,t1,t2,t3⟩:=tN (h:=s1.heap) L.symm λi e=>let⟨a,t,u,g,z⟩:=at_ i e;⟨a,t,u,g,iN z kp⟩
  exact kat_kind (T:=.type "int") t1 (by lia) (λf hf=>by obtain⟨i,t,rfl⟩:=t3 f hf;exact Looks.of_pure rfl) rfl q
 ·rw[<-L]at e B;obtain⟨a,t,u,g,z⟩:=at_ i e;obtain⟨b,t',u',g',z'⟩:=at_ j B;show J0 _ _ (keyLt' _ _ _) _ _ _;rw[jd g,jd g'];refine vC (iN z kp) (iN z' kp) ?_;have q':C (ltP (ps.getD i (0,0)) (ps.getD j (0,0))) s1:=q
  rwa [A i e,A j B]at q'
 ·have J:∀i∈p.toList,i<ps.length:=λi e=>by rw[L];exact O4.mp (P.mem_iff.mp e)
  have N:G.length=m.length:=R.length;have lo:(p.toList.map λi=>G.getD i .non).length=m.length:=by rw[E8,J1];exact P.size
  have I1:Inv X y σ H { s with heap:=h1,toks:=s.toks }:=I.kept U;have I2:=I1.laid (t':=s.toks) (o:=.lst (p.toList.map λi=>G.getD i .non)) kp hx (show bT X.prog X.w _ h' x (.lst _)from⟨by rw[lo,<-N];exact Y,iw m p,c,jC R (λi e=>by rw[N,<-L];exact J i e),ho⟩);have es:(p.toList.map λi=>ps.getD i (0,0))=iB ps:=by
   have S:p.toList.Perm (Q8 ps.length):=by rw[L];exact P
   have hm:=S.map λi=>ps.getD i (0,0);rw[uk]at hm;refine wO hm ?_;rw[List.pairwise_iff_getElem];intro i j e B Z;have sz:p.size=m.length:=P.size;rw[E8,J1]at e B;have:=hs i j (ae0 Z) (by lia);have e1:kp_ p i=p.toList[i]'(by simpa using e):=by simp[kp_,X8,e]
   have e2:kp_ p j=p.toList[j]'(by simpa using B):=by simp[kp_,X8,B]
   have g:leP (ps.getD (kp_ p i) (0,0)) (ps.getD (kp_ p j) (0,0))=true:=by
    have z:ltP (ps.getD (kp_ p j) (0,0)) (ps.getD (kp_ p i) (0,0))=false:=this;simp only[leP,z,ak0]
   rw[e1,e2]at g;simpa using g
  refine⟨.ref x,_,I2,rfl,fj hr (I1.hok.fresh hx) (m5 rl J) λw E a b c=>?_⟩;rw[es]at c;exact k w E a b c
def pB(ds:List D):Option D:=if ds.length<64 then(match jt ds with|some b=>some (.lst ((iB b).map pD))|none=>(gD ds).map λa=>.lst ((nG a).map D.int))else none
def xv:D->Option D
 |.lst a=>pB a
 |.tup a=>pB a
 |_=>none
theorem pO:∀{ds:List D}{ns:List Int},gD ds=some ns->ds=ns.map D.int:=by
 intro ds
 induction ds using gD.induct with
 |case1=>intro ns e;cases e;rfl
 |case2 i ds ih =>
  intro ns e;simp only[gD]at e;cases q:gD ds with
  |none=>rw[q]at e;cases e
  |some b=>rw[q]at e;cases e;rw[ih q];rfl
 |case3 ds a g=>intro ns e;rw[gD]at e<;>simp_all
theorem vS(I:Inv X y σ H s)(hr:HR X.K M H){ds:List D}{m:D}(e:pB ds=some m){l:F4}{T:String}{o:Obj}{n:Nat}{j:List V}{b:List u8}(p:ao X.K M H ds j)(z:aw j b)(h:j.length<=F9)
  (t:T="list"∨T="tuple") (hg:s.heap.get? l=some o) (g:o.cls=.type T) (u:o.data=.seq b.toArray n) {Q:VK}
  (k:∀w i,Ext M H M i->HR X.K M i->Rep X.K M i m w->Q w i):J0 (L4 X.prog X.w) X.A (ar9 (.builtin "sorted") [.ref l]) (EP X y σ Q) X.xe s:=by
 unfold pB at e
 split at e
 ·rename_i a
  split at e
  ·rename_i A q;cases e;have:=rZ q;subst this;exact uB I hr (by simpa using a) p z h t hg g u k
  ·cases q:gD ds with
   |none=>rw[q]at e;cases e
   |some B =>
    rw[q]at e;cases e;have:=pO q;subst this;exact xf I hr (by simpa using a) p z h t hg g u k
 ·cases e
theorem zr:bQ X (.builtin "sorted") (pF xv):=by
 intro y s σ H M P N A O Q I C g E e k;obtain⟨d,rfl,m⟩:=dA e;clear e;obtain⟨v,rfl,r⟩:=nt E;obtain⟨u,rfl,B⟩:=aw.one g;cases d with
 |lst A =>
  obtain⟨l,J,rfl,sq,t⟩:=r;cases B;obtain⟨q,g,G,i⟩:=I.list (SqL.of sq);obtain⟨o,j,p,n,z⟩:=G.isList;exact vS I C m t g i (.inl rfl) j p z λw h a b c=>k w h a b c
 |tup A =>
  obtain⟨l,J,rfl,sq,t⟩:=r;cases B;obtain⟨q,g,L,i⟩:=I.tuple sq;obtain⟨o,j,p,n,z⟩:=L;exact vS I C m t g i (.inr rfl) j p z λw h a b c=>k w h a b c
 |_=>cases m
theorem zB{ps:List (Int×Int)}(h:ps.length<64):xv (.lst (ps.map pD))=some (.lst ((iB ps).map pD)):=by simp[xv,pB,ny,h]
end
end L2
namespace L2
open PySem PySem.Spec PyProof.Rows
section
variable{X:Cx}
end
section
variable{X:Cx}
def inF(x y:D):Option D:=match y with
 |.lst a=>if dLe x 59=true/\bJ a 59=true then some (.bl (a.any λd=>eqD d x))else none
 |_=>none
theorem CU{x:D}{ds:List D}:inF x (.lst ds)=if dLe x 59=true/\bJ ds 59=true then some (.bl (ds.any λd=>eqD d x))else none:=rfl
end
section
variable{X:Cx}{a b e:N1}{g G te:TEd}{pos:Pos}
def z4(g G:TEd):TEd:=λb M Q=>g b M λx M1=>G b M1 λy M2=>∃a n,rdM M2 x=.lst a/\y=.int n/\-(2 ^ 63)<=n/\n<2 ^ 63/\a.length*n.toNat<=F9/\∀p,M2 p=none->Q (.ref p) (aF M2 p (.lst (F5 n.toNat a).flatten))
theorem BQ(ha:QEd X a g)(J:QEd X b G):QEd X (.BinOp a .Mult b pos) (z4 g G):=by
 simp only[QEd.eq]at *
 exact(zP vy ha J).conv λZ H Q l=>l.el λt M R o P q k=>⟨t,M,_,o,P,q,λx M1 v H1 E m i N=>⟨t,M1,_,o.ext m,i,E,λy M2 u Y ⟨xs,n,C,A,O,L,I,U⟩ w e s=>by
   have z:=(N.ext w).rd e;rw[C]at z;subst A;simp only[Rep]at s;obtain⟨B,T,rfl,S,h⟩:=z;exact⟨B,n,T,rfl,s,S,O,L,by rw[<-h.length];exact I,λp j=>k _ _ _ _ (U p (e.fresh j)) ((m.trans w).trans (Ext.own j)) (e.own j (h.rep n.toNat)) (by simp only[Rep])⟩⟩⟩
def lV(ds:List D)(x:D):Option Nat:=if dLe x 59=true/\bJ ds 59=true/\ds.length<2 ^ 62 then ds.findIdx? (λd=>eqD d x)else none
theorem xK{ds:List D}{x:D}{j:Nat}(h:lV ds x=some j):dLe x 59=true/\bJ ds 59=true/\ds.length<2 ^ 62/\∃b:j<ds.length,eqD ds[j] x=true/\∀m (l:m<ds.length),m<j->eqD ds[m] x=false:=by
 unfold lV at h
 by_cases a:dLe x 59=true/\bJ ds 59=true/\ds.length<2 ^ 62
 ·rw[if_pos a]at h;obtain⟨b,e,g⟩:=List.findIdx?_eq_some_iff_getElem.mp h;exact⟨a.1,a.2.1,a.2.2,b,e,λm l i=>by have:=g m i;simpa using this⟩
 ·rw[if_neg a]at h;cases h
section
open PySem.SeqAt PySem.MeetsSeq AutoSeq1
theorem pG(l:F4)(xs:Array u8)(n:Nat)(C:Option F4)(os:Array (Option u8))(y:u8)(e:Nat->Bool)(top:Int)(j:Nat)(z:j<xs.size)(g:(j:Int)<top)(o:e j=true):
  ∀(k i:Nat),j-i=k->i<=j->(∀m,i<=m->m<j->e m=false)->Meets (M7.«list.index.loop» ⟨[.ref l,y,ap8 i,ap8 top],[]⟩)
   (λB R t=>t.heap.get? l=some { cls:=.type "list",dict:=C,data:=.seq xs n,slots:=os }/\(∀m (h:m<xs.size),EqAt B.in1 t xs[m] y (e m))/\R (.ok (.ret (.int j t.toks))) { t with toks:=t.toks+1 })
 |0,i,M,L,no,prog,w,B,R,t,q=>by
  obtain⟨J,H,I,E,G⟩:=t;obtain⟨s,p,u⟩:=q;obtain rfl:i=j:=by lia
  wp_walk using ae3 s
  rw[show(if(i:Int)<top then xs[((i:Nat):Int).toNat]? else none)=some xs[i]by simp[g,z]];refine o0 (p i z prog w _ _ ?_);rw[o]
  wp_walk
  exact u
 |k+1,i,M,L,no,prog,w,B,R,t,q=>by
  obtain⟨J,H,I,E,G⟩:=t;obtain⟨s,p,u⟩:=q;have A:i<xs.size:=by lia
  have lt:(i:Int)<top:=by lia
  wp_walk using ae3 s
  rw[show(if(i:Int)<top then xs[((i:Nat):Int).toNat]? else none)=some xs[i]by simp[lt,A]];refine o0 (p i A prog w _ _ ?_);rw[no i (F6 _) (by lia)]
  wp_walk
  rw[show((i:Int)+1)=((i+1:Nat):Int)by lia];refine⟨al6 plain_index_loop _,U8 entry_index_loop ?_⟩;rw[W0 plain_index_loop _];exact pG l xs n C os y e top j z g o k (i+1) (by lia) (by lia) (λm a b=>no m (by lia) b) prog w B R _ ⟨s,p,u⟩
theorem xG(l:F4)(xs:Array u8)(n:Nat)(g:Option F4)(os:Array (Option u8))(y:u8)(a:Nat->Bool)(j:Nat)(s:j<xs.size)(z:(j:Int)<2 ^ 63-1)(e:a j=true)(no:∀m,m<j->a m=false):
  Meets (M7.«list.index» ⟨[.ref l,y],[]⟩)
   (λB R t=>t.heap.get? l=some { cls:=.type "list",dict:=g,data:=.seq xs n,slots:=os }/\(∀m (h:m<xs.size),EqAt B.in1 t xs[m] y (a m))/\R (.ok (.ret (.int j t.toks))) { t with toks:=t.toks+1 }):=by
 intro prog w B R t q;obtain⟨H,E,G,A,C⟩:=t;obtain⟨o,u,p⟩:=q
 wp_walk using ae3 o
 rw[show((λi:Int=>if i<0 then max 0 (i+(xs.size:Int))else i) ((none:Option Int).getD 0))=((0:Nat):Int)by simp,show((λi:Int=>if i<0 then max 0 (i+(xs.size:Int))else i) ((none:Option Int).getD (2 ^ 63-1)))=2 ^ 63-1 by simp];refine⟨al6 plain_index_loop _,U8 entry_index_loop ?_⟩;rw[W0 plain_index_loop _];exact pG l xs n g os y a (2 ^ 63-1) j s z e _ 0 rfl (P1 _) (λm _ b=>no m b) prog w B R _ ⟨o,u,p⟩
theorem u4(l:F4)(xs:Array u8)(y:u8)(a:Nat->Bool)(j:Nat)(M:j<xs.size)(N:(j:Int)<2 ^ 63-1)(p:a j=true)(no:∀m,m<j->a m=false):
  Meets (M7.«tuple.index» ⟨[.ref l,y],[]⟩)
   (λB R t=>(∃o n,t.heap.get? l=some o/\o.data=.seq xs n)/\(∀m (h:m<xs.size),EqAt B.in1 t xs[m] y (a m))/\R (.ok (.ret (.int j t.toks))) { t with toks:=t.toks+1 }):=by
 intro prog w B R t q;obtain⟨I,C,H,u,A⟩:=t;obtain⟨⟨o,n,O,qd⟩,G,E⟩:=q;unfold M7.«tuple.index»
 wp_walk
 rw[qd];refine E6 (E6 ?_);refine o0 (E6 ?_);refine o0 (E6 ?_);dsimp only;rw[Nat.min_self];refine o0 ?_;rw[Std.Legacy.Range.forIn_eq_forIn_range'];refine ad5 _ (λrest b g=>b=(none,())/\g=(⟨I,C,H,u,A⟩:E9)/\∃i,i<=j/\rest=ao4 i (xs.size-i) 1) _ ?_ ?_ _ _ ⟨rfl,rfl,0,P1 _,?_⟩
 ·rintro x rest b g ⟨rfl,rfl,i,L,e⟩;have s:i<xs.size:=by lia
  have J:ao4 i (xs.size-i) 1=i::ao4 (i+1) (xs.size-(i+1)) 1:=by
   rw[show xs.size-i=xs.size-(i+1)+1 by lia,List.range'_succ]
  rw[J]at e;obtain⟨rfl,rfl⟩:=ae8.inj e;rw[N5 s];dsimp only;refine o0 (G x s prog w _ _ ?_)
  by_cases z:x=j
  ·subst z;rw[p];simp only[if_true];refine o0 ?_;unfold retInt;refine o0 (wpAny_mkInt (E6 ?_));refine E6 ?_;exact E6 E
  ·rw[no x (by lia)];simp only[F0,if_false];exact E6 ⟨rfl,rfl,x+1,by lia,rfl⟩
 ·rintro b g ⟨rfl,rfl,i,L,e⟩;have:=congrArg X9 e;simp at this
  lia
 ·simp[Std.Legacy.Range.size]
end
end
section
variable{X:Cx}{o e:N1}{B te:TEd}{G g:Pos}
def oV(ds:List D)(d:D)(m:Nat):Bool:=match ds[m]? with|some x=>eqD x d|none=>false
theorem sy{q:List (F4×Obj)}{σ:St}{H:Hp}{s:E9}{M:DH}{ds:List D}{d:D}{e:List V}{a:List u8}{y:V}{u:u8}(I:Inv X q σ H s)(E:X.A.units+64<af9)(g:ao X.K M H ds e)(r:aw e a)(B:aN X.K M H d y)(o:aM y u)(w:dLe d 59=true)(A:bJ ds 59=true):
  ∀m (h:m<a.toArray.size),PySem.SeqAt.EqAt X.A.in1 s a.toArray[m] u (oV ds d m):=λm h=>by
 have G:ds.length=a.length:=g.length.trans r.length;have n:m<a.length:=by simpa using h
 have b:m<ds.length:=by lia
 obtain⟨J,l,z⟩:=g.get (i:=m) (d:=ds[m]) (by simp[b]);obtain⟨p,j,C⟩:=r.get l;have t:a.toArray[m]=p:=by simpa[E4 n]using j
 rw[t,show oV ds d m=eqD ds[m] d by simp[oV,b]];exact(lG I 59 (by show X.A.units+1+59<af9;lia) (eZ A (i:=m) (by simp[b])) w z.r B C o).1
theorem pq{ds:List D}{x:D}{j:Nat}(h:lV ds x=some j):dLe x 59=true/\bJ ds 59=true/\(j:Int)<2 ^ 63-1/\j<ds.length/\oV ds x j=true/\∀m,m<j->oV ds x m=false:=by
 obtain⟨g,i,n,e,b,no⟩:=xK h;refine⟨g,i,by lia,e,by simp[oV,e,b],λm l=>?_⟩;have a:m<ds.length:=by lia
 simp[oV,a,no m a l]
theorem yI(C:X.A.units+64<af9):MtR X "list.index" (λx xs H Q=>∃M ds d y j,xs=[y]/\aN X.K M H (.lst ds) x/\aN X.K M H d y/\lV ds d=some j/\Q (.int j) H):=by
 intro O s R H x xs v us Q I rx rv h;obtain⟨M,ds,d,y,j,rfl,p,L,G,q⟩:=h;obtain⟨u,rfl,m⟩:=aw.one rv;obtain⟨l,T,rfl,sq,i⟩:=p;cases rx;obtain⟨a,r,A,N⟩:=I.list (SqL.of sq);obtain⟨o,J,z,P,e,no⟩:=pq G;have S:ds.length=a.length:=i.length.trans r.length;obtain⟨⟨c,B,dt,t⟩,n,g,w,E,b⟩:=A;obtain rfl:c=.type "list":=w;obtain rfl:dt=.seq a.toArray n:=b;exact ah0 F.slot_list_index ⟨_,g,rfl⟩ F.entry_list_index (F.args_list_index_2 _ _) (xG l a.toArray n B t u (oV ds d) j (by simp;lia) z e no) ⟨g,sy I C i r L m o J,⟨.int _,H,I.tok _,⟨_,rfl⟩,q⟩⟩
theorem yK(w:X.A.units+64<af9):MtR X "tuple.index" (λx xs H Q=>∃M ds d y j,xs=[y]/\aN X.K M H (.tup ds) x/\aN X.K M H d y/\lV ds d=some j/\Q (.int j) H):=by
 intro J s N H x xs v us Q I rx rv h;obtain⟨M,ds,d,y,j,rfl,o,E,z,q⟩:=h;obtain⟨u,rfl,i⟩:=aw.one rv;obtain⟨l,P,rfl,sq,g⟩:=o;cases rx;obtain⟨a,r,⟨C,e,p,⟨n,A⟩,_⟩,G⟩:=I.tupN sq;obtain⟨m,B,t,L,b,no⟩:=pq z;have O:ds.length=a.length:=g.length.trans r.length;exact ah0 F.slot_tuple_index ⟨_,e,p⟩ F.entry_tuple_index (F.args_tuple_index_2 _ _) (u4 l a.toArray u (oV ds d) j (by simp;lia) t b no) ⟨⟨C,n,e,A⟩,sy I w g r E i m B,⟨.int _,H,I.tok _,⟨_,rfl⟩,q⟩⟩
def El(K:E5)(r:V->List V->Hp->VK->Prop)(B:TE)(t:TA):TE:=λe H Q=>B e H λx b=>(∃p a,x=.ref p/\SqT K b p a)/\t e b λa g=>r x a g Q
theorem Bt{name:Str}{id:String}{r:V->List V->Hp->VK->Prop}{b:List N1}{B:TE}{t:TA}(slot:Slot "tuple" name id)(l:typeOf (.builtin id)=af8 (.type "method_descriptor"))(N:MtR X id r)(Y:PE X o B)(ha:PA X (e::b) t)
  (S:V3 o name X.env (aa2 o X.env)=aa2 o X.env)
  (L:((U6 g (F3 (e :: b) X.env)).all (λx => !x.1) && (an4 g (ae5 [] X.env)).all (λx => x.1.isSome)
  &&decide ((e::b).length+([]:List ag6).length+(if([]:List ag6).isEmpty then 0 else 1)<30))=true)
  (dX:(G.endLine==g.line)=true) (hs:F3 (e::b) X.env=(false,aa2 e X.env)::F3 b X.env) (Z:(U6 g (F3 b X.env)).any (·.1)=false) :
  PE X (.Call (.Attribute o name G) (e::b) [] g) (El X.K r B t):=by
 intro j s m H Q I h;refine wpAny_Call_method_late S L dX rfl (thn (Y j s m H _ I h) λv R ⟨x,H1,q,T,⟨p,xs,C,sq⟩,J⟩=>?_);subst C;cases T;obtain⟨a0,_,⟨u,w,U,_,A⟩,_⟩:=q.tupN sq;refine⟨"tuple",id,F.plainAttrs_tuple,slot,l,⟨u,w,U⟩,λa z=>by cases z;exact⟨u,w,A⟩,?_⟩;have n:=ha g j R m H1 _ q J;rw[hs]at n ⊢;refine Calls.callWith_builtin (by show(false || (U6 g (F3 b X.env)).any (·.1))=false;rw[Z]<;>rfl) (Calls.evalArgs_plain ?_);exact thn n λO s2 i=>i.el λP E I2 M q2=>N j s2 m E (.ref p) P (J6 p) O Q I2 rfl M q2
def z7(B te:TEd):TEd:=λb M Q=>B b M λo M1=>(∃a,rdM M1 o=.lst a)/\te b M1 λx M2=>∃a j,rdM M2 o=.lst a/\lV a (rdM M2 x)=some j/\Q (.int j) M2
theorem v6(T:X.A.units+64<af9)(C:QEd X o B)(he:QEd X e te)(cF:V3 o "index" X.env (aa2 o X.env)=aa2 o X.env:=by rfl)
  (h:F3 [e] X.env=(false,aa2 e X.env)::F3 [] X.env:=by rfl)
  (L:((U6 g (F3 [e] X.env)).all (λx => !x.1) && (an4 g (ae5 [] X.env)).all (λx => x.1.isSome)
  &&decide ([e].length+([]:List ag6).length+(if([]:List ag6).isEmpty then 0 else 1)<30))=true:=by rfl)
  (dX:(G.endLine==g.line)=true:=by rfl) (I:(U6 g (F3 [] X.env)).any (·.1)=false:=by rfl):QEd X (.Call (.Attribute o "index" G) [e] [] g) (z7 B te):=by
 rw[QEd.eq]at *
 refine(xo ac9 PySem.F.slot_list_index PySem.F.type_list_index (yI T) C (bA he de h) cF L dX h I).conv λσ H Q O=>?_;obtain⟨t,M,R,n,S,q,k⟩:=O;refine⟨t,M,_,n,S,q,λo M1 ov H1 ⟨⟨U,J⟩,A⟩ m b s=>?_⟩;have w:=s.rd b;rw[J]at w;obtain⟨l0,i,rfl,l,_⟩:=w;refine⟨.inl ⟨rfl,i,SqL.of l⟩,t,M1,_,n.ext m,b,A,λd M2 v z ⟨E,j,N,Y,Z⟩ u a P=>?_⟩;have p:=(s.ext u).rd a;rw[N]at p;exact⟨M2,E,_,v,j,rfl,p,P.rd a,Y,k _ M2 _ z Z (m.trans u) a (by simp[Rep])⟩
def zL(B te:TEd):TEd:=λb M Q=>B b M λo M1=>∃a,o=.tup a/\te b M1 λx M2=>∃j,lV a (rdM M2 x)=some j/\Q (.int j) M2
theorem Bm(S:X.A.units+64<af9)(A:QEd X o B)(he:QEd X e te)(cF:V3 o "index" X.env (aa2 o X.env)=aa2 o X.env:=by rfl)
  (h:F3 [e] X.env=(false,aa2 e X.env)::F3 [] X.env:=by rfl)
  (E:((U6 g (F3 [e] X.env)).all (λx => !x.1) && (an4 g (ae5 [] X.env)).all (λx => x.1.isSome)
  &&decide ([e].length+([]:List ag6).length+(if([]:List ag6).isEmpty then 0 else 1)<30))=true:=by rfl)
  (dX:(G.endLine==g.line)=true:=by rfl) (C:(U6 g (F3 [] X.env)).any (·.1)=false:=by rfl):QEd X (.Call (.Attribute o "index" G) [e] [] g) (zL B te):=by
 rw[QEd.eq]at *
 refine(Bt PySem.F.slot_tuple_index PySem.F.type_tuple_index (yK S) A (bA he de h) cF E dX h C).conv λσ H Q J=>?_;obtain⟨t,M,R,p,O,q,k⟩:=J;refine⟨t,M,_,p,O,q,λo M1 L Z ⟨i,eo,z⟩ n b s=>?_⟩;subst eo;have Y:aN X.K M1 Z (.tup i) L:=s.rd b;obtain⟨P,w,rfl,l,_⟩:=Y;refine⟨⟨_,_,rfl,l⟩,t,M1,_,p.ext n,b,z,λd M2 v m ⟨j,T,U⟩ u a N=>?_⟩;have I:aN X.K M2 m (.tup i) (.ref P):=(s.ext u).rd a;exact⟨M2,i,_,v,j,rfl,I,N.rd a,T,k _ M2 _ m U (n.trans u) a (by simp[Rep])⟩
end
section
variable{X:Cx}{g:af7}{p:List (Str×F4)}{ar:List Str}{y:N1}{pos:Pos}
end
section
variable{K:E5}{M:DH}{H:Hp}
theorem KR.look{f:Str}{d:D}:∀{fs:List (Str×D)}{a:List (Str×V)},KR K M H fs a->fs.lookup f=some d->∃v,a.lookup f=some v/\Rep K M H d v:=by
 intro fs a h;unfold KR at h
 induction h with
 |nil=>intro e;cases e
 |@cons p q j l r t ih =>
  obtain⟨g,x⟩:=p;obtain⟨i,y⟩:=q;obtain⟨rfl,b⟩:=r;intro e;simp only[O1]at e ⊢
  split at e
  ·cases e;exact⟨y,rfl,b⟩
  ·exact ih e
end
section
variable{X:Cx}{e:N1}{te:TEd}
def EF(a:List (Key×D)):D:=.box (.dk (a.map (·.1))) (a.map (·.2))
end
section
variable{X:Cx}{a b c e o i:N1}{p:List N1}{te y z B G:TEd}{t:TAd}{pos:Pos}{H g:N1}
end
def Ef:D->Option D
 |.box (.dk a) _=>some (.lst (a.map kD))
 |_=>none
theorem yP{a:List (Key×D)}:Ef (EF a)=some (.lst (a.map λp=>kD p.1)):=by
 show some (D.lst ((a.map (·.1)).map kD))=_;rw[Q9];rfl
noncomputable def Dp(s:Z7)(i:Nat):Z7:=match s with
 |.ClassDef _ _ _ b _ _ _ _ _ _ _=>b.getD i (.Pass ⟨0,0,0,0⟩)
 |_=>.Pass ⟨0,0,0,0⟩
noncomputable def EM:D->Option D
 |.int i=>some (.int i)
 |.bl k=>some (.int (if k then 1 else 0))
 |_=>none
theorem BG{k:Bool}:EM (.bl k)=some (.int (if k then 1 else 0)):=rfl
section
variable{X:Cx}
def iK(x y:D):Option D:=match y with
 |.lst a=>if dLe x 59=true/\bJ a 59=true then some (.bl (!(a.any λd=>eqD d x)))else none
 |.tup a=>if dLe x 59=true/\bJ a 59=true then some (.bl (!(a.any λd=>eqD d x)))else none
 |_=>none
theorem wA{x:D}{ds:List D}:iK x (.lst ds)=if dLe x 59=true/\bJ ds 59=true then some (.bl (!(ds.any λd=>eqD d x)))else none:=rfl
theorem rK{h:K3}{a:F4}{xs:Array u8}(p:al9 h a xs):h.IsTuple a xs:=by
 obtain⟨o,b,e,n,g⟩:=p;exact⟨o,b,e,n,g⟩
open Classical in
theorem qp(hu:X.A.units+64<af9):bP X (P2 .NotIn) iK:=by
 intro aa s σ H M x y v u dx dy dz Q I hr rx ry r1 r2 e k;cases dy with
 |lst b =>
  simp only[iK]at e
  by_cases m:dLe dx 59=true/\bJ b 59=true
  ·rw[if_pos m]at e;cases e;obtain⟨l,vs,rfl,sq,o⟩:=r2;cases ry;obtain⟨a,r,E,T⟩:=I.list (SqL.of sq);have Z:b.length=a.length:=o.length.trans r.length;have at_:∀j (h:j<b.length) (g:j<a.length),PySem.SeqAt.EqAt X.A.in1 s a[j] v (eqD b[j] dx):=λj h g=>by
    obtain⟨Y,p,B⟩:=o.get (i:=j) (d:=b[j]) (by simp[h]);obtain⟨G,C,S⟩:=r.get p;have A:a[j]=G:=by simpa[E4 g]using C
    rw[A];exact(lG I 59 (by show X.A.units+1+59<af9;omega) (eZ m.2 (i:=j) (by simp[h])) m.1 B.r r1 S rx).1
   refine SeqAt.notIn_listAt (λw=>decide (∃j,∃h:j<b.length,∃g:j<a.length,a[j]=w/\eqD b[j] dx=true)) E.isList (λw R=>?_) ⟨.bl _,H,I,rfl,?_⟩
   ·obtain⟨i,n,rfl⟩:=S7.mp (show w∈a by simpa using R)
    by_cases q:∃j,∃h:j<b.length,∃g:j<a.length,a[j]=a[i]/\eqD b[j] dx=true
    ·rw[decide_eq_true q];obtain⟨j,h,g,t,L⟩:=q;rw[<-t,<-L];exact at_ j h g
    ·rw[decide_eq_false q];have:=at_ i (by omega) n
     rwa [show eqD b[i] dx=false from Z9.mpr λz=>q ⟨i,by omega,n,rfl,z⟩]at this
   ·have N:a.toArray.any (λw=>decide (∃j,∃h:j<b.length,∃g:j<a.length,a[j]=w/\eqD b[j] dx=true))=b.any λd=>eqD d dx:=by
     rw[O2,List.any_toArray,Z0,Z0];constructor
     ·rintro⟨w,_,h⟩;obtain⟨j,U,_,_,P⟩:=of_decide_eq_true h;exact⟨b[j],L8 _,P⟩
     ·rintro⟨d,O,h⟩;obtain⟨j,J,rfl⟩:=S7.mp O;exact⟨a[j],L8 _,decide_eq_true ⟨j,J,by omega,rfl,h⟩⟩
    rw[N];exact k _ H (Ext.refl _ _) hr (by simp[Rep])
  ·rw[if_neg m]at e;cases e
 |tup b =>
  simp only[iK]at e
  by_cases m:dLe dx 59=true/\bJ b 59=true
  ·rw[if_pos m]at e;cases e;obtain⟨l,vs,rfl,sq,o⟩:=r2;cases ry;obtain⟨a,r,E,T⟩:=I.tuple sq;have Z:b.length=a.length:=o.length.trans r.length;have at_:∀j (h:j<b.length) (g:j<a.length),PySem.SeqAt.EqAt X.A.in1 s a[j] v (eqD b[j] dx):=λj h g=>by
    obtain⟨Y,p,B⟩:=o.get (i:=j) (d:=b[j]) (by simp[h]);obtain⟨G,C,S⟩:=r.get p;have A:a[j]=G:=by simpa[E4 g]using C
    rw[A];exact(lG I 59 (by show X.A.units+1+59<af9;omega) (eZ m.2 (i:=j) (by simp[h])) m.1 B.r r1 S rx).1
   refine SeqAt.notIn_tupleAt (λw=>decide (∃j,∃h:j<b.length,∃g:j<a.length,a[j]=w/\eqD b[j] dx=true)) (rK E) (λw R=>?_) ⟨.bl _,H,I,rfl,?_⟩
   ·obtain⟨i,n,rfl⟩:=S7.mp (show w∈a by simpa using R)
    by_cases q:∃j,∃h:j<b.length,∃g:j<a.length,a[j]=a[i]/\eqD b[j] dx=true
    ·rw[decide_eq_true q];obtain⟨j,h,g,t,L⟩:=q;rw[<-t,<-L];exact at_ j h g
    ·rw[decide_eq_false q];have:=at_ i (by omega) n
     rwa [show eqD b[i] dx=false from Z9.mpr λz=>q ⟨i,by omega,n,rfl,z⟩]at this
   ·have N:a.toArray.any (λw=>decide (∃j,∃h:j<b.length,∃g:j<a.length,a[j]=w/\eqD b[j] dx=true))=b.any λd=>eqD d dx:=by
     rw[O2,List.any_toArray,Z0,Z0];constructor
     ·rintro⟨w,_,h⟩;obtain⟨j,U,_,_,P⟩:=of_decide_eq_true h;exact⟨b[j],L8 _,P⟩
     ·rintro⟨d,O,h⟩;obtain⟨j,J,rfl⟩:=S7.mp O;exact⟨a[j],L8 _,decide_eq_true ⟨j,J,by omega,rfl,h⟩⟩
    rw[N];exact k _ H (Ext.refl _ _) hr (by simp[Rep])
  ·rw[if_neg m]at e;cases e
 |_=>cases e
end
section
variable{X:Cx}{e:N1}{t:TEd}
end
section
variable{P:K9}{w:P7}{K:E5}{h base:K3}{H:Str->Option u8}{x y:Str}{st:Z7}{f:F4}{z:K4}{k:Nat}{S:SpD}
structure bx(K:E5) (x:Str) (st:Z7) (f:F4) (z:K4):Prop where
 a:M9 K J8 x=some (some (.ref f))
 F:Fun K x x st f z
theorem Dm{j:u8}{m h:Option F4}{g:Array (Option u8)}{kV e i b ct:u8}(a:M9 K J8 x=some (some (.ref f)))(l:K.lookup f=some ⟨j,m,.func (aa7 x x (et st) (cm st) (ai st) .none kV e i h b ct),g⟩)
  (c:aj9 K b x=true) (k:U7 K (.ref f)=true):bx K x st f (aa7 x x (et st) (cm st) (ai st) .none kV e i h b ct):=⟨a,rP l c k⟩
theorem usS{p:List u8->Prop}{n:Nat}(h:∀a us,us.length=n->p (a::us)):∀us:List u8,us.length=n+1->p us:=by
 intro us e;cases us with
 |nil=>cases e
 |cons a us=>exact h a us (Nat.succ.inj e)
theorem us0{p:List u8->Prop}(h:p []):∀us:List u8,us.length=0->p us:=by
 intro us e;cases us with
 |nil=>exact h
 |cons a us=>cases e
def Bd(x y:Str)(st:Z7)(ps:List Str)(us:List u8):Prop:=∀(kV a h:u8) (g:Option F4) (b e:u8),bindArgs (aa7 x y (et st) (cm st) (ai st) .none kV a h g b e) ⟨us,[]⟩=af8 (ps.zip us)
theorem p7{ps:List Str}(F:Fun K x y st f z)(b:∀us:List u8,us.length=ps.length->Bd x y st ps us):cE K z ps []:=F.binds λkV a j i e g us h=>b us h kV a j i e g
variable{B I W Y p5:Str}
theorem bd1(F:Fun K x y st f z)(b:∀a,Bd x y st [B] [a]):cE K z [B] []:=p7 F (usS λa=>us0 (b a))
theorem bd2(F:Fun K x y st f z)(b:∀a c,Bd x y st [B,I] [a,c]):cE K z [B,I] []:=p7 F (usS λa=>usS λc=>us0 (b a c))
theorem bd3(F:Fun K x y st f z)(b:∀a c d,Bd x y st [B,I,W] [a,c,d]):cE K z [B,I,W] []:=p7 F (usS λa=>usS λc=>usS λd=>us0 (b a c d))
theorem bd4(F:Fun K x y st f z)(b:∀a c d e,Bd x y st [B,I,W,Y] [a,c,d,e]):cE K z [B,I,W,Y] []:=p7 F (usS λa=>usS λc=>usS λd=>usS λe=>us0 (b a c d e))
theorem bd5(F:Fun K x y st f z)(b:∀a c d e g,Bd x y st [B,I,W,Y,p5] [a,c,d,e,g]):cE K z [B,I,W,Y,p5] []:=p7 F (usS λa=>usS λc=>usS λd=>usS λe=>usS λg=>us0 (b a c d e g))
theorem fg{ps:List Str}{n:Nat}(X:K.In h)(G:h.Ns J8 H)(i:bx K x st f z)(o:aP P w K H base CX0 k f z ps (spD K n S))(b:cE K z ps []):FnD P w K H base x k n S:=⟨_,_,_,o,P9 X G i.a,i.F.kp,b⟩
theorem BB{n:F4}{sp:Sp}{m:K9}(X:K.In h)(G:h.Ns J8 H)(g:H "law"=some (.ref n))(i:bx K "law" st f z)(b:∀a,Bd "law" "law" st [B] [a])(o:∀base:K3,aP m w K H base CX0 k f z [B] sp):
  ∃z:K4,(∀(s:E9) (v:u8),ar1 s z ⟨[v],[]⟩ [(B,v)])/\∀base:K3,K.In base->base.Ns J8 H->aP m w K H base CX0 k n z [B] sp:=by
 have e:=g.symm.trans (P9 X G i.a);cases e;refine⟨z,λs v=>?_,λbase _ _=>o base⟩;obtain⟨I,C,kV,j,A,u,l,p,q,rfl,E,t⟩:=i.F.ex;exact .of_eq (b v kV j A u l p)
end
theorem nbh{a:as0}{b:N1}(h:a≠.In:=by decide)(e:a≠.NotIn:=by decide):af0 a b=false:=u9 b h e
theorem fsc{N P:List Str}{h:af7}(a:h.kind=.function:=by exact rfl)(b:h.isCoroutine=false:=by exact rfl)(c:h.isGenerator=false:=by exact rfl)(d:N.Nodup:=by decide +kernel)(e:N.take P.length=P:=by exact rfl)
  (f:∀x∈P,h.names.lookup x=some .local∨h.names.lookup x=some .cell:=by decide +kernel) (g:∀y∈h.names,y.2≠.free:=by decide +kernel):av N P h:=⟨a,b,c,d,e,f,g⟩
section
variable{X:Cx}{e:N1}{g:List N1}{t:TAd}{pos p:Pos}{x:Str}{j k n:Nat}{S:SpD}
theorem qd(F:FnD X.prog X.w X.K X.mg X.base x j n S)(hr:cc k X.A)(ha:QAd X (e::g) t)(h:j<=k:=by decide)(hg:Gl X x:=by exact rfl)(hdb:(x==("__debug__":Str))=false:=by decide)(he:F3 (e::g) X.env=(false,aa2 e X.env)::F3 g X.env:=by rfl)(hpl:(U6 pos (F3 g X.env)).any (·.1)=false:=by rfl):
  QEd X (.Call (.Name x p) (e::g) [] pos) (nH n S t):=qc F (hr.mono h) hg ha hdb he hpl
end
def txt:u8->Str|.str x _=>x|_=>default
theorem vJ(t:N4)(n:Nat):(t.orStandIn n).led=t.led:=by unfold N4.orStandIn;split<;>rfl
theorem rF(t:N4)(a:Array (Int×u8))(h:Int)(x:u8):(layNew t a h x).2.1.led=t.led:=by
 unfold layNew
 split
 ·exact vJ _ _
 ·rfl
theorem lU{t t':N4}{hs:Array Int}{n:Nat}{o:Array Nat}(e:t.relaid hs n=some (t',o)):t'.led=t.led/\t'.plain=t.plain:=by
 unfold N4.relaid N4.laid at e;cases q:N4.layClean (N4.sizeAbove n-1) hs with
 |none=>rw[q]at e;cases e
 |some w=>rw[q]at e;cases e;exact⟨rfl,rfl⟩
theorem oh(t:N4)(a:Array (Int×u8))(n:Nat):(ao6 t a n).2.1.led=t.led:=by
 unfold ao6
 split
 ·rename_i e;dsimp only;split
  ·exact(lU e).1
  ·rfl
 ·rfl
theorem lH(t:N4)(a:Array (Int×u8))(n:Nat)(z:t.plain=false):(ao6 t a n).2.1.plain=false:=by
 unfold ao6
 split
 ·rename_i e;dsimp only;split
  ·rw[(lU e).2];exact z
  ·rfl
 ·rfl
section
variable{prog:K9}{w:P7}{A:M8}{E:u8->E9->Prop}{s:E9}
noncomputable def byT(w:P7):Bool:=w.params.followText "set-order"
def ElT(prog:K9)(w:P7)(l:List (Int×u8)):Prop:=∀e∈l,∃x t,e=((strKind prog w).hash x,.str x t)
theorem ElT.of{l:List (Int×u8)}(h:ElT prog w l):ElemsOf (strKind prog w) l:=λe a=>by
 obtain⟨x,t,rfl⟩:=h e a;exact⟨⟨x,ar4 _ _ _ _,rfl⟩,rfl⟩
structure rg(prog:K9) (w:P7) (h:K3) (a:F4) (o:Obj) (es:Array (Int×u8)) (ep:Nat) (t:N4):Prop where
 get:h.get? a=some o
 ex:o.ExactSet
 data:o.data=.set es ep t
 el:ElT prog w es.toList
 nd:(es.toList.map λe=>txt e.2).Nodup
 room:es.size<ae9
 fit:t.fits es.size=true
 led:t.led=!byT w
 pl:es.size≠0->t.plain=false
def fT(prog:K9)(w:P7)(h:K3)(a:F4)(xs:List Str):Prop:=∃o b g t,rg prog w h a o b g t/\(b.toList.map λe=>txt e.2).Perm xs
theorem fT.mono{h h':K3}{a:F4}{xs:List Str}(z:fT prog w h a xs)(k:∀o,h.get? a=some o->h'.get? a=some o):fT prog w h' a xs:=by
 obtain⟨o,b,e,t,p,q⟩:=z;exact⟨o,b,e,t,⟨k _ p.get,p.ex,p.data,p.el,p.nd,p.room,p.fit,p.led,p.pl⟩,q⟩
theorem fT.perm{h:K3}{a:F4}{xs b:List Str}(z:fT prog w h a xs)(k:xs.Perm b):fT prog w h a b:=by
 obtain⟨o,e,g,t,p,q⟩:=z;exact⟨o,e,g,t,p,q.trans k⟩
theorem Av{x:Str}{v:u8}(h:(strKind prog w).is x v=true):∃t,v=.str x t:=by
 cases v<;>simp[PySem.strKind,u8.isStrOf]at h
 rename_i y t;exact⟨t,by rw[h]⟩
theorem rg.mem{h:K3}{a:F4}{o:Obj}{g:Array (Int×u8)}{i:Nat}{t:N4}(p:rg prog w h a o g i t)(x:Str):
  (∃e∈g.toList,(strKind prog w).is x e.2=true)↔x∈g.toList.map λe=>txt e.2:=by
 constructor
 ·rintro⟨e,b,q⟩;obtain⟨t,z⟩:=Av q;exact K5.mpr ⟨e,b,by rw[z];rfl⟩
 ·intro q;obtain⟨e,b,z⟩:=K5.mp q;obtain⟨y,t,rfl⟩:=p.el e b;have:y=x:=z;subst this;exact⟨_,b,ar4 _ _ _ _⟩
theorem ng{h:K3}{a:F4}{o:Obj}{i:Array (Int×u8)}{g:Nat}{t:N4}(j:h.get? a=some o)(e:o.data=.set i g t)(b:Array (Int×u8))(t':N4):
  (h.update a (ah2 b t')).get? a=some { o with data:=.set b (g+1) t' }:=by
 have:=P3 (ah2 b t') j (by rw[as8 b t' e];rfl);rw[as8 b t' e]at this;exact this
theorem l9{l a:List (Int×u8)}(h:l.Perm a):(l.map λe=>txt e.2).Perm (a.map λe=>txt e.2):=h.map _
theorem rg.laid{h h':K3}{a:F4}{o:Obj}{j b:Array (Int×u8)}{n i:Nat}{t t':N4}(p:rg prog w h a o j n t)
  (g:h'.get? a=some { o with data:=.set b i t' }) (q:b.toList.Perm j.toList) (f:t'.fits b.size=true) (l:t'.led=t.led) (z:b.size≠0->t'.plain=false):rg prog w h' a { o with data:=.set b i t' } b i t':=by
 have sz:b.size=j.size:=by rw[<-J1,q.length_eq,J1]
 exact⟨g,p.ex,rfl,λe m=>p.el e (q.mem_iff.mp m),((l9 q).nodup_iff).mpr p.nd,by rw[sz];exact p.room,f,l.trans p.led,z⟩
theorem zD{g:Bool->Sem Unit}(hg:∀(b:Bool) (m:E9) (O:Unit->E9->Prop),O () m->J0 (L4 prog w) A (g b) O E m)
  {a:F4} {o:Obj} {T:Array (Int×u8)} {H:Nat} {t:N4} (S:s.heap.get? a=some o) (hex:o.ExactSet) (P:o.data=.set T H t)
  {i:Array (Int×u8)} {t2:N4} (el:ElT prog w i.toList) (Y:(i.toList.map λe=>txt e.2).Nodup) (u:i.size<ae9) (N:t2.fits i.size=true) (ld:t2.led=!byT w) (pl:t2.plain=false)
  {j:Bool} {R:Option Bool->E9->Prop}
  (h:∀h',Q4 a s.heap h'->fT prog w h' a (i.toList.map λe=>txt e.2)->R (some true) { s with heap:=h' }) :
  J0 (L4 prog w) A (do
    storeSet a i t2
    if(!j&&t2.tooFull)=true then do
      g (ao6 t2 i (ab4 i.size)).2.2
      storeSet a (ao6 t2 i (ab4 i.size)).1 (ao6 t2 i (ab4 i.size)).2.1
      af8 (some true)
     else af8 (some true)) R E s:=by
 refine o0 (aj5 S P ?_ (aj6 u));have n:=ng S P i t2;have C:rg prog w (s.heap.update a (ah2 i t2)) a { o with data:=.set i (H+1) t2 } i (H+1) t2:=⟨n,hex,rfl,el,Y,u,N,ld,λ_=>pl⟩;have l:=aa1 s.heap a (ah2 i t2)
 split
 ·have B:=relayAll_perm t2 i (ab4 i.size);have q:=relayAll_fits t2 i (ab4 i.size);have M:=oh t2 i (ab4 i.size);have z:=lH t2 i (ab4 i.size) pl;generalize X:ao6 t2 i (ab4 i.size)=U at B q M z ⊢;obtain⟨p,Z,I⟩:=U;dsimp only at B q M z ⊢;have G:p.size=i.size:=by rw[<-J1,B.length_eq,J1]
  have L:p.size<ae9:=by rw[G];exact u
  refine o0 (hg _ _ _ ?_);refine o0 (aj5 n rfl ?_ (aj6 L));have J:=ng (h:=s.heap.update a (ah2 i t2)) n rfl p Z;exact E6 (h _ (l.trans (aa1 _ a _)) ⟨_,_,_,_,C.laid J B q M (λ_=>z),l9 B⟩)
 ·exact E6 (h _ l ⟨_,_,_,_,C,.refl _⟩)
theorem Eu{a:F4}{xs:List Str}{x:Str}{N:Tok}{Q:Bool->E9->Prop}(hS:fT prog w s.heap a xs)(O:xs.length+1<ae9)
  (h:∀b h',Q4 a s.heap h'->fT prog w h' a (if x∈xs then xs else xs++[x])->Q b { s with heap:=h' }) :
  J0 (L4 prog w) A (ap4 a (.str x N) ((strKind prog w).hash x)) Q E s:=by
 obtain⟨o,n,ep,t,p,X⟩:=hS;have U:=ar4 prog w x N;have T:=p.el.of;have hn:n.size=xs.length:=by rw[<-J1,<-X.length_eq,E8]
 have a1:n.size+1<ae9:=by rw[hn];exact O
 unfold ap4 setAddHashedIn;refine N6 (o0 (ac4 p.get p.data p.fit ?_));dsimp only;rw[byScan_of rfl p.room T];simp only[↓reduceIte];unfold setAddByScan;refine o0 ?_;refine o0 (al7 ?_);refine o0 (wpAny_setScan_of U p.get p.data p.fit T ?_);cases hr:List.findIdx? (λe=>(strKind prog w).is x e.2) n.toList with
 |some j =>
  dsimp only;obtain⟨hj,Z,_⟩:=List.findIdx?_eq_some_iff_getElem.mp hr;have Y:x∈xs:=X.mem_iff.mp ((p.mem x).mp ⟨n.toList[j],L8 hj,Z⟩);refine E6 (E6 ?_);have e:s={ s with heap:=s.heap }:=by cases s;rfl
  rw[e];exact h _ s.heap (Q4.refl a s.heap) (by rw[if_pos Y];exact⟨o,n,ep,t,p,X⟩)
 |none =>
  dsimp only;have Y:x∉n.toList.map λe=>txt e.2:=λq=>by
   obtain⟨e,G,z⟩:=(p.mem x).mpr q;have:=List.findIdx?_eq_none_iff.mp hr e G;rw[z]at this;exact Bool.noConfusion this
  have a2:x∉xs:=λq=>Y (X.mem_iff.mpr q);have a0:∀(b:Bool) {l:E9} {R:Unit->E9->Prop},R () l->J0 (L4 prog w) A (match b with|true=>rule "set.scan.the-table-gave-way" |false=>af8 ()) R E l :=
   λb l R J=>by cases b<;>first|exact E6 J|exact al7 J
  have g:=layNew_perm t n ((strKind prog w).hash x) (.str x N);have i:=layNew_fits t n ((strKind prog w).hash x) (.str x N);have m:=rF t n ((strKind prog w).hash x) (.str x N);generalize hL:layNew t n ((strKind prog w).hash x) (.str x N)=L at g i m ⊢;obtain⟨u,t1,P,a3⟩:=L;dsimp only at g i m ⊢;rw[Array.toList_push]at g;have H:ElT prog w u.toList:=λe G=>by
   rcases Q3.mp (g.mem_iff.mp G)with G|G
   ·exact p.el e G
   ·rw[L6]at G;exact⟨x,N,G⟩
  have hm:(u.toList.map λe=>txt e.2).Perm ((n.toList.map λe=>txt e.2)++[x]):=by
   have:=l9 g
   rwa [L7]at this
  have S:(u.toList.map λe=>txt e.2).Nodup:=by
   rw[hm.nodup_iff,V1];exact⟨p.nd,by simp,λa ha b hb=>by rw[L6]at hb;subst hb;intro q;subst q;exact Y ha⟩
  have M:u.size<ae9:=by rw[<-J1,g.length_eq,F2,J1];simpa using a1
  refine o0 (a0 _ ?_);have I:∀h',Q4 a s.heap h'->fT prog w h' a (u.toList.map λe=>txt e.2)->Q true { s with heap:=h' }:=λh' C B =>
   h _ h' C (by rw[if_neg a2];exact B.perm (hm.trans (X.append_right _)))
  split
  ·refine o0 ?_;rw[hashByValue_scannable 8 rfl];refine E6 ?_;refine zD (t2:={ t1 with plain:=false }) ?_ p.get p.ex p.data H S M (N4.fits_plain_off i) (m.trans p.led) rfl ?_
   ·intro b l R J;cases b<;>first|exact E6 J|exact al7 J
   ·intro h' C B;dsimp only;exact E6 (I h' C B)
  ·rename_i hp;refine o0 (E6 ?_);simp only[↓reduceIte];refine zD ?_ p.get p.ex p.data H S M i (m.trans p.led) (by simpa using hp) ?_
   ·intro b l R J;cases b<;>first|exact E6 J|exact al7 J
   ·intro h' C B;dsimp only;exact E6 (I h' C B)
end
def fH(xs:List Str)(x:Str):List Str:=if x∈xs then xs else xs++[x]
def fc(xs:List Str):List Str:=xs.foldl fH []
theorem uD(xs:List Str)(x:Str):(fH xs x).length<=xs.length+1:=by unfold fH;split<;>simp
theorem jH:∀(xs a:List Str),(xs.foldl fH a).length<=a.length+xs.length
 |[],_=>F6 _
 |x::xs,a=>by
  have:=jH xs (fH a x);have:=uD a x;simp only[X3,O0];lia
theorem ve(xs:List Str):(fc xs).length<=xs.length:=by have:=jH xs [];simpa[fc]using this
theorem ux(xs:List Str)(i:Nat)(h:i<xs.length):fc (xs.take (i+1))=fH (fc (xs.take i)) xs[i]:=by
 rw[List.take_succ_eq_append_getElem h,fc,List.foldl_append];rfl
section
variable{prog:K9}{w:P7}{A:M8}{R:as3->E9->Prop}{I:F4}{p g:List F4}{G:Array al3->Array al3->Prop}{P:Nat->u8->Prop}{St:Nat->E9->Prop}
theorem Ey{xs:List Str}(W:WalksS prog w A.in1 I p g G xs.length P St)(S:F4)(q:S∉p)
  (z:∀i v (h:i<xs.length),P i v->∃t,v=.str xs[i] t) (n:xs.length+1<ae9) :
  ∀(k i:Nat) (s:E9),xs.length-i=k->i<=xs.length->St i s->fT prog w s.heap S (fc (xs.take i)) ->
   (∀s',Moved (S::g) G s s'->fT prog w s'.heap S (fc xs)->R (.ok (.ret .none)) s') ->
   am1 (L4 prog w) A (.builtin "set.update.loop" ⟨[.ref S,.ref I],[]⟩) R s:=by
 have J:S∉g:=λh=>q (W.sub _ h);have j:∀b∈g,b∈S::g:=λb n=>K6 _ n;intro k
 induction k with
 |zero =>
  intro i s hk hi m L M;have U:i=xs.length:=by lia
  subst U;refine U8 ad0 ?_;rw[W0 V9 _];show J0 _ A.in1 (aq6 (.ref I) >>= _) _ _ s;refine o0 (W.done s _ _ m λs' u=>?_);show J0 _ A.in1 (ret J9) _ _ s';rw[ag5]at L;exact E6 (M s' (u.mono j) (L.mono λo e=>u.heap S _ J e))
 |succ k ih =>
  intro i s hk hi m L M;have a:i<xs.length:=by lia
  refine U8 ad0 ?_;rw[W0 V9 _];show J0 _ A.in1 (aq6 (.ref I) >>= _) _ _ s;refine o0 (W.item i s _ _ a m λv s' Y E u=>?_);obtain⟨t,rfl⟩:=z i v a Y;have Q:fT prog w s'.heap S (fc (xs.take i)):=L.mono λo e=>u.heap S _ J e;show J0 _ A.in1 (ak9 [an8 xs[i] t] (setAdd S (.str xs[i] t)) >>= _) _ _ s';refine o0 (N6 ?_);unfold setAdd;refine N6 ?_;refine o0 ((strKind prog w).pyHash (k:=xs[i]) (ar4 _ _ _ _) ?_);have l:(fc (xs.take i)).length+1<ae9:=by have:=ve (xs.take i);rw[O7]at this;lia
  refine Eu (s:={ s' with toks:=s'.toks+1 }) Q l λb Z H O=>?_;have T:fT prog w Z S (fc (xs.take (i+1))):=by rw[ux xs i a];exact O
  refine E6 ⟨al6 V9 _,ih (i+1) _ (by lia) a (W.frame _ s' _ _ E (aj3 _) λb n o e=>?_) T λN B C=>?_⟩
  ·rw[H.2 b (λh:b=S=>q (by rw[<-h];exact n))];exact e
  ·refine M N (Moved.trans W.gtrans ((u.mono j).then_heap (aj3 _) λb o n e=>?_) B) C;rw[H.2 b (λh:b=S=>n (by rw[h];exact Q0))];exact e
end
section
variable{prog:K9}{w:P7}{A:M8}{E:u8->E9->Prop}{s:E9}
abbrev eR(w:P7):Obj:={ cls:=.type "set",dict:=none,data:=.set #[] 0 (.fresh 0 0 (!byT w)) }
theorem A5{h:K3}{a:F4}(g:h.get? a=some (eR w)):fT prog w h a [] :=
 ⟨_,#[],0,_,⟨g,⟨rfl,rfl,rfl⟩,rfl,λe b=>by simp at b,by simp,by decide,rfl,rfl,λq=>absurd rfl q⟩,by simp⟩
theorem qA(a:u8){Q₁:u8->E9->Prop}(h:Q₁ (.ref s.heap.objs.size) { s with heap:=s.heap.push (eR w) }):
  am1 (L4 prog w) A (.call (.builtin "set.__new__") ⟨[.type "set",a],[]⟩) (wants Q₁ E) s:=by
 refine am4 ?_;show J0 _ A.in1 (do checkBuiltinCall "set.__new__" ⟨[.type "set",a],[]⟩;again (.builtin "set.__new__" ⟨[.type "set",a],[]⟩)) _ _ s;refine o0 (ao5 (PySem.F.newCall_set_1 a) (E6 ⟨al6 PySem.F.plain_set_new _,U8 PySem.F.entry_set_new ?_⟩));rw[W0 PySem.F.plain_set_new _];unfold M7.«set.__new__» M7.Frozenset.newClass;have b:=sub_set_self;obtain⟨i,g,d,e,os⟩:=s;dsimp only
 wp_walk
 refine wpAny_askSetting (E6 ?_);dsimp only;simp only[newObj];refine o0 (wpAny_alloc (E6 ?_));exact E6 h
set_option maxHeartbeats 3200000 in
theorem u3{l:F4}{a:Array u8}{xs:List Str}{Q:u8->E9->Prop}
  (hh:A.handled=none) (hl:s.heap.IsList l a) (hn:a.size=xs.length) (hi:∀i (h:i<xs.length),∃t,a[i]?=some (.str xs[i] t)) (S:xs.length+1<ae9)
  (h:∀(h':K3) (P:Nat),fT prog w h' s.heap.objs.size (fc xs)->(∀b o,s.heap.get? b=some o->h'.get? b=some o)->Q (.ref s.heap.objs.size) { s with heap:=h',toks:=P }) :
  J0 (L4 prog w) A (ar9 (.type "set") [.ref l]) Q E s:=by
 obtain⟨c,tl,b3⟩:=N7.mro;have X:=N7.made;have a':=N7.sub;refine ad6 (am4 ?_);show J0 _ _ (callAny (.type "set") _) _ _ _;refine E6 ⟨ad8 _ (by decide +kernel),U8 PySem.F.entry_type_call ?_⟩;rw[M8.under_plain (weight_type_call_type "set" [.ref l] []) rfl];have h1:=N7.notType;have h2:=N7.canCreate;have b5:=PySem.F.typeCall_set_1 (.ref l)
 repeat (any_goals (first|assumption|wp_step))
 refine ac5 (qA (.ref l) (E:=E) (Q₁:=λM p=>M=.ref s.heap.objs.size/\p={ s with heap:=s.heap.push (eR w) }) ⟨rfl,rfl⟩) λr p hr=>?_;cases r with
 |error e=>exact hr
 |ok fl =>
  cases fl with
  |ret M =>
   obtain⟨rfl,rfl⟩:=hr;have hS:(s.heap.push (eR w)).get? s.heap.objs.size=some (eR w):=K1 _ rfl;have hT:E9.TypeIs { s with heap:=s.heap.push (eR w) } (.ref s.heap.objs.size) "set":=⟨_,hS,rfl⟩;have b8:=N7.init.lookup;have b9:=N7.init.bind (.ref s.heap.objs.size)
   repeat (any_goals (first|assumption|wp_step))
   refine ac5 (W1 (R:=wants (λr n=>r=.none/\∃h' P,n={ s with heap:=h',toks:=P } /\
     fT prog w h' s.heap.objs.size (fc xs)/\(∀b o,s.heap.get? b=some o->h'.get? b=some o)) E) N7.init.plain PySem.F.entry_set_init (check_set_init_1 hT ?_)) λH n j=>?_
   ·obtain⟨ol,I,J,nl,N⟩:=hl;obtain⟨b2,q,a8,m⟩:=ol;simp only at J N;subst J;subst N;have G:(s.heap.push (eR w)).get? l=some { cls:=.type "list",dict:=q,data:=.seq a nl,slots:=m }:=E7 _ I;have a9:=PySem.F.sub_list_set;have b1:=PySem.F.sub_list_frozenset;have b4:(N3 "list"==N3 "dict")=false:=by decide
    have L:(s.heap.push (eR w)).IsList l a:=⟨_,G,rfl,nl,rfl⟩;unfold M7.«set.__init__» noKeywords M7.Frozenset.updateFrom;generalize a3:as9=PI
    wp_walk
    subst a3;refine af2 L ?_;refine o0 (wpAny_runValue ?_);have O:l<s.heap.objs.size:=I0 I;have a4:A.in1.in1.in1.handled=none:=by simp[hh]
    have B:l≠(s.heap.push (eR w)).objs.size:=by
     rw[ab3];exact K8 (U0 O)
    have U:s.heap.objs.size∉[(s.heap.push (eR w)).objs.size,l]:=by
     rw[ab3];simp only[J3,L6,T7,or_false,not_or];exact⟨K8 (ad4 _),ae1 O⟩
    have W:=(Walks.list (prog:=prog) (w:=w) a4 _ l B a).toS;rw[hn]at W;refine Ey (xs:=xs) W s.heap.objs.size U (λi v Z hv=>?_) S (xs.length-0) 0 _ (by lia) (P1 _) ?St0 ?hS0 ?hR
    case St0=>exact⟨⟨_,K1 _ rfl,rfl,rfl⟩,(L.push _)⟩
    ·obtain⟨t,g⟩:=hi i Z;have C:a[i]?=some v:=hv;rw[g]at C;exact⟨t,(R1 C).symm⟩
    case hS0=>exact A5 (E7 _ hS)
    case hR =>
     intro s' T z;obtain⟨h',g',d',Y,a2⟩:=s';have eg:g'=s.gens:=T.gens;have ed:d'=s.drawn:=T.drawn;have eo:a2=s.os:=T.os;subst eg;subst ed;subst eo;show J0 _ _ _ _ _ _;refine E6 ?_;show J0 _ _ (ret J9) _ _ _;refine E6 ⟨rfl,h',Y,rfl,z,λb o e=>?_⟩;have S:=I0 e;have a0:b≠s.heap.objs.size:=K8 S;have a5:b≠(s.heap.push (eR w)).objs.size:=by
      rw[ab3];exact K8 (U0 S)
     exact T.heap b o (by simp only[J3,L6,T7,or_false,not_or];exact⟨a0,a5⟩) (E7 _ (E7 _ e))
   ·cases H with
    |error e=>exact j
    |ok u =>
     cases u with
     |ret r =>
      obtain⟨rfl,h',P,rfl,z,a1⟩:=j
      repeat (any_goals (first|assumption|wp_step))
      exact h _ _ z a1
     |_=>exact j.elim
  |_=>exact hr.elim
end
end L2
namespace L2
open PySem
def f51(x:Nat):Nat:=5*x+1
def kB:Nat->Nat->Nat
 |0,x=>x
 |n+1,x=>kB n (f51 x)
theorem lR(m n x:Nat):kB (m+n) x=kB n (kB m x):=by
 induction m generalizing x with
 |zero=>simp[kB]
 |succ m ih=>rw[Nat.succ_add];simp only[kB];exact ih _
theorem xk(k:Nat):∃a c,∀z,kB (2 ^ k) z=z+2 ^ (k+2)*a*z+2 ^ k+2 ^ (k+1)*c:=by
 induction k with
 |zero=>exact⟨1,0,λz=>by simp[kB,f51];lia⟩
 |succ k ih =>
  obtain⟨a,c,h⟩:=ih;generalize b:2 ^ k=p at *
  have e:2 ^ (k+1)=2*p:=by rw[ak6,b,ak5]
  have g:2 ^ (k+2)=4*p:=by rw[aq4,b];lia
  have j:2 ^ (k+1+2)=8*p:=by rw[show k+1+2=k+3 by lia,aq4,b];lia
  have i:2 ^ (k+1+1)=4*p:=g;rw[e,j,i];rw[e,g]at h;refine⟨a+2*p*a*a,c+p*a+2*p*a*c,λz=>?_⟩;rw[show 2*p=p+p by lia,lR,h,h]
  grind
theorem wy(k:Nat):∀x j,j<2 ^ k->∃n,n<2 ^ k/\kB n x % 2 ^ k=j:=by
 induction k with
 |zero=>intro x j h;exact⟨0,by simp,by simp at h;simp[h,Nat.mod_one]⟩
 |succ k ih =>
  intro x j G;obtain⟨a,c,C⟩:=xk k;have e:0<2 ^ k:=Nat.two_pow_pos k;have m:2 ^ (k+1)=2*2 ^ k:=by rw[ak6,ak5]
  have E:2 ^ (k+2)=2*(2*2 ^ k):=by rw[aq4];lia
  obtain⟨n,I,t⟩:=ih x (j % 2 ^ k) (al8 _ e);generalize s:kB n x=y at t;generalize H:2 ^ k=p at *
  have b:y % (2*p)=j∨(y+p) % (2*p)=j:=by
   rw[m]at G;have z:=Nat.div_add_mod y (2*p);have J:=al8 y (show 0<2*p by lia);have:y % (2*p) % p=y % p:=Nat.mod_mul_left_mod y 2 p;rw[t]at this;generalize y % (2*p)=r at *
   have l:r=p*(r / p)+r % p:=(Nat.div_add_mod r p).symm;have w:j=p*(j / p)+j % p:=(Nat.div_add_mod j p).symm;have B:r / p<2:=Nat.div_lt_of_lt_mul (by lia);have A:j / p<2:=Nat.div_lt_of_lt_mul (by lia);rw[this]at l;have o:(y+p) % (2*p)=(r+p) % (2*p):=by
    rw[<-z,ao7,Nat.mul_add_mod]
   rw[o];have L:j % p<p:=al8 _ e;generalize j % p=u at *
   have two:∀q,q<2->q=0∨q=1:=λq h=>by lia
   have g:=two _ B;have i:=two _ A;rcases g with g|g<;>rcases i with i|i<;>rw[g]at l<;>rw[i]at w<;>simp only[Nat.mul_zero,Nat.mul_one,Nat.zero_add]at l w
   ·left;lia
   ·right;rw[Nat.mod_eq_of_lt (by lia)];lia
   ·right;rw[show r+p=u+1*(2*p)by lia,Nat.add_mul_mod_self_right,Nat.mod_eq_of_lt (by lia)];lia
   ·left;lia
  rcases b with b|b
  ·exact⟨n,by lia,by rw[m,s];exact b⟩
  ·refine⟨n+p,by lia,?_⟩;rw[lR,s,C y,m,E];have:y+2*(2*p)*a*y+p+2*p*c=(y+p)+(2*a*y+c)*(2*p):=by grind
   rw[this,Nat.add_mul_mod_self_right];exact b
end L2
namespace L2
open PySem PySem.SetTable
def pS(mask:Nat)(h:Int):Probe:={ j:=bits h % (mask+1),more:=runEnd mask (bits h % (mask+1))-bits h % (mask+1),i:=bits h % (mask+1),perturb:=bits h,dummy:=none }
def pA(mask:Nat)(p:Probe):Probe :=
 if p.more > 0 then { p with j:=p.j+1,more:=p.more-1 }
 else { p with j:=(leap mask p.i p.perturb).1,more:=runEnd mask (leap mask p.i p.perturb).1-(leap mask p.i p.perturb).1,i:=(leap mask p.i p.perturb).1,perturb:=(leap mask p.i p.perturb).2 }
def pth(mask:Nat)(h:Int):Nat->Probe
 |0=>pS mask h
 |n+1=>pA mask (pth mask h n)
def rs(mask:Nat)(h:Int):Nat->Nat×Nat
 |0=>(bits h % (mask+1),bits h)
 |n+1=>leap mask (rs mask h n).1 (rs mask h n).2
def atR(mask:Nat)(r:Nat×Nat):Probe:={ j:=r.1,more:=runEnd mask r.1-r.1,i:=r.1,perturb:=r.2,dummy:=none }
variable{mask:Nat}{h:Int}
theorem AF(i:Nat):runEnd mask i-i<=9:=by unfold runEnd;split<;>lia
theorem nZ{n:Nat}{r:Nat×Nat}(e:pth mask h n=atR mask r):∀q,q<=runEnd mask r.1-r.1->pth mask h (n+q)={ atR mask r with j:=r.1+q,more:=runEnd mask r.1-r.1-q }
 |0,_=>by rw[Nat.add_zero,e];rfl
 |q+1,a=>by
  rw[<-ao7];show pA mask (pth mask h (n+q))=_;rw[nZ e q (by lia)];unfold pA;rw[if_pos (show runEnd mask r.1-r.1-q > 0 by lia)];rfl
theorem xh:∀m,∃n,n<=10*m/\pth mask h n=atR mask (rs mask h m)
 |0=>⟨0,by lia,rfl⟩
 |m+1=>by
  obtain⟨n,a,e⟩:=xh m;have b:=AF (mask:=mask) (rs mask h m).1;refine⟨n+(runEnd mask (rs mask h m).1-(rs mask h m).1)+1,by lia,?_⟩;show pA mask (pth mask h (n+_))=_;rw[nZ e _ (F6 _)];unfold pA;rw[if_neg (by simp)];rfl
theorem yx:bits h<2 ^ 64:=by
 unfold bits;have:=ad9 h (show(0:Int)<2 ^ 64 by decide);have:=ai0 h (show(2 ^ 64:Int)≠0 by decide)
 lia
theorem vN:∀m,(rs mask h m).2=bits h / 32 ^ m
 |0=>by simp[rs]
 |m+1=>by
  show(rs mask h m).2 / 32=_;rw[vN m,Nat.div_div_eq_div_mul,ak6]
theorem EH(m:Nat):(rs mask h (13+m)).2=0:=by
 rw[vN];refine Nat.div_eq_of_lt (H0 yx ?_);rw[aq4];exact O9 (by decide) (Nat.le_mul_of_pos_right (32 ^ 13) (Nat.pow_pos (by decide)))
theorem zI:∀m,(rs mask h (13+m)).1 % (mask+1)=kB m (rs mask h 13).1 % (mask+1)
 |0=>rfl
 |m+1=>by
  show(leap mask (rs mask h (13+m)).1 (rs mask h (13+m)).2).1 % _=_;unfold leap;rw[EH,lR m 1];show((rs mask h (13+m)).1*5+1+0 / 32) % (mask+1) % (mask+1)=(5*kB m (rs mask h 13).1+1) % (mask+1);rw[Nat.mod_mod,Nat.zero_div,Nat.add_zero,Nat.add_mod,Nat.mul_mod,zI m,<-Nat.mul_mod,<-Nat.add_mod,ak5]
theorem zU(m:Nat):(rs mask h m).1<mask+1:=by
 cases m with
 |zero=>exact al8 _ (ap5 _)
 |succ m=>exact al8 _ (ap5 _)
theorem sF{k:Nat}(b:mask+1=2 ^ k){j:Nat}(o:j<=mask):∃m n,m<=mask+13/\n<=10*m/\(rs mask h m).1=j/\(pth mask h n).j=j:=by
 obtain⟨m,l,e⟩:=wy k (rs mask h 13).1 j (by lia);rw[<-b]at l e;have a:=zI (mask:=mask) (h:=h) m;rw[e,Nat.mod_eq_of_lt (zU _)]at a;obtain⟨n,g,i⟩:=xh (mask:=mask) (h:=h) (13+m);exact⟨13+m,n,by lia,g,a,by rw[i];exact a⟩
theorem rb(n:Nat):(pth mask h n).j<=mask:=by
 have a:∀n,(pth mask h n).j+(pth mask h n).more<=mask/\(pth mask h n).dummy=none:=λn=>by
  have st:∀i,i<mask+1->i+(runEnd mask i-i)<=mask:=λi b=>by unfold runEnd;split<;>lia
  induction n with
  |zero=>exact⟨st _ (al8 _ (ap5 _)),rfl⟩
  |succ n ih =>
   show(pA mask (pth mask h n)).j+(pA mask (pth mask h n)).more<=mask/\(pA mask (pth mask h n)).dummy=none;unfold pA
   split
   ·exact⟨by have:=ih.1;dsimp only;lia,ih.2⟩
   ·exact⟨st _ (al8 _ (ap5 _)),ih.2⟩
 have:=(a n).1
 lia
theorem Ak(n:Nat):(pth mask h n).dummy=none:=by
 induction n with
 |zero=>rfl
 |succ n ih =>
  show(pA mask (pth mask h n)).dummy=none;unfold pA
  split<;>exact ih
theorem DV{P:Nat->Prop}{n:Nat}(h:P n):∃m,m<=n/\P m/\∀l,l<m->¬ P l:=by
 induction n using Nat.strongRecOn with
 |_ n ih =>
  by_cases c:∃l,l<n/\P l
  ·obtain⟨l,g,e⟩:=c;obtain⟨m,i,a,b⟩:=ih l g e;exact⟨m,by lia,a,b⟩
  ·exact⟨n,F6 _,h,λl g e=>c ⟨l,g,e⟩⟩
def Ri(xs:Array Nat):Prop:=∀i j,i<j->j<xs.size->xs.getD i 0<xs.getD j 0
theorem wg{xs:Array Nat}{i:Nat}(h:i<xs.size)(a b:Nat):xs.getD i a=xs.getD i b:=by simp[X8,h]
theorem kP{xs:Array Nat}(up:Ri xs)(j:Nat):∀f lo hi,hi-lo<=f->lo<=hi->hi<=xs.size->(∀i,i<lo->xs.getD i 0<j)->(∀i,hi<=i->i<xs.size->j<=xs.getD i 0) ->
  below.go xs j f lo hi<=xs.size/\(∀i,i<below.go xs j f lo hi->xs.getD i 0<j)/\∀i,below.go xs j f lo hi<=i->i<xs.size->j<=xs.getD i 0
 |0,lo,hi,g,m,e,a,b=>by
  obtain rfl:lo=hi:=by lia
  exact⟨e,a,b⟩
 |f+1,lo,hi,g,m,e,a,b=>by
  unfold below.go
  by_cases c:lo<hi
  ·rw[if_pos c];dsimp only
   by_cases d:xs.getD ((lo+hi) / 2) j<j
   ·rw[if_pos d];rw[wg (by lia) j 0]at d;refine kP up j f _ _ (by lia) (by lia) e (λi l=>?_) b;rcases P4 i ((lo+hi) / 2)with q|q
    ·exact Nat.lt_trans (up i _ q (by lia)) d
    ·obtain rfl:i=(lo+hi) / 2:=by lia
     exact d
   ·rw[if_neg d];rw[wg (by lia) j 0]at d;refine kP up j f _ _ (by lia) (by lia) (by lia) a (λi n h=>?_);rcases P4 ((lo+hi) / 2) i with q|q
    ·have:=up _ i q h;lia
    ·obtain rfl:i=(lo+hi) / 2:=by lia
     lia
  ·rw[if_neg c];obtain rfl:lo=hi:=by lia
   exact⟨e,a,b⟩
theorem qN{xs:Array Nat}(up:Ri xs)(j:Nat):below xs j<=xs.size/\(∀i,i<below xs j->xs.getD i 0<j)/\∀i,below xs j<=i->i<xs.size->j<=xs.getD i 0 :=
 kP up j _ _ _ (by lia) (P1 _) (F6 _) (λi h=>by lia) (λi a b=>by lia)
def Occ(xs:Array Nat)(j:Nat):Prop:=∃i,i<xs.size/\xs.getD i 0=j
theorem nr{t:N4}(up:Ri t.place){i j:Nat}(hi:i<t.place.size)(e:t.place.getD i 0=j):t.slot j=.live i:=by
 obtain⟨m,h,l⟩:=qN up j;have:below t.place j=i:=by
  rcases Nat.lt_trichotomy (below t.place j) i with q|q|q
  ·have a:=l _ (F6 _) (by lia);have b:=up _ i q hi
   lia
  ·exact q
  ·have:=h i q;lia
 unfold slot;rw[this];have g:t.place[i]?=some j:=by rw[N5 hi,<-e];simp[X8,hi]
 simp[g]
theorem rB{t:N4}(b:t.dummies=#[]){j:Nat}(n:¬ Occ t.place j):t.slot j=.empty:=by
 unfold slot;have g:(t.place[below t.place j]?==some j)=false:=by
  cases q:t.place[below t.place j]? with
  |none=>rfl
  |some x =>
   obtain⟨a,e⟩:=P0.mp q;simp only[beq_eq_false_iff_ne,ne_eq,ac3];intro z;exact n ⟨_,a,by simp[X8,a,e,z]⟩
 rw[if_neg (by rw[g];decide),b];rfl
theorem uY{xs:Array Nat}(up:Ri xs){mask:Nat}(s:xs.size<=mask):∃j,j<=mask/\¬ Occ xs j:=by
 refine ab5 λc=>?_;have all:∀j,j<=mask->Occ xs j:=λj o=>ab5 λd=>c ⟨j,o,d⟩;have g:∀j,j<=mask+1->j<=xs.size/\∀i,i<j->xs.getD i 0=i:=λj=>by
  induction j with
  |zero=>exact λ_=>⟨P1 _,λi h=>by lia⟩
  |succ j ih =>
   intro o;obtain⟨w,m⟩:=ih (by lia);obtain⟨i,n,e⟩:=all j (by lia);have a:¬ i<j:=λq=>by have:=m i q;lia
   have b:i=j:=by
    rcases P4 j i with q|q
    ·have p:=up j i q n;rw[e]at p;cases j with
     |zero=>lia
     |succ j =>
      have u:=up j (j+1) (by lia) (by lia);have t:=m j (by lia)
      lia
    ·lia
   subst b;refine⟨n,λl z=>?_⟩;rcases P4 l i with q|q
   ·exact m l q
   ·obtain rfl:l=i:=by lia
    exact e
 have:=(g (mask+1) (F6 _)).1
 lia
structure TB(t:N4) (hs:List Int):Prop where
 sz:t.place.size=hs.length
 up:Ri t.place
 le:∀i,i<t.place.size->t.place.getD i 0<=t.mask
 dm:t.dummies=#[]
 pw:∃k,3<=k/\t.mask+1=2 ^ k
 few:t.place.size<=t.mask
 pr:∀i h,hs[i]?=some h->∃n,(pth t.mask h n).j=t.place.getD i 0/\∀m,m<n->Occ t.place (pth t.mask h m).j
theorem TB.free{t:N4}{hs:List Int}(T:TB t hs)(h:Int):∃n,n<=10*(t.mask+13)/\¬ Occ t.place (pth t.mask h n).j/\∀m,m<n->Occ t.place (pth t.mask h m).j:=by
 obtain⟨j,i,o⟩:=uY T.up T.few;obtain⟨k,_,l⟩:=T.pw;obtain⟨m,n,a,s,_,e⟩:=sF (mask:=t.mask) (h:=h) l i;obtain⟨b,q,p,g⟩:=DV (P:=λn=>¬ Occ t.place (pth t.mask h n).j) (n:=n) (by rw[e];exact o);exact⟨b,by lia,p,λm a=>ab5 λd=>g m a d⟩
theorem pE{t:N4}{hs:List Int}(T:TB t hs){h:Int}{n0:Nat}(j:¬ Occ t.place (pth t.mask h n0).j)(o:∀m,m<n0->Occ t.place (pth t.mask h m).j){ha:Nat->Int}:∀F n,n<=n0->n0-n<F ->
    ∃ m,n ≤ m ∧ m ≤ n0 ∧ (∀ l,n ≤ l → l < m → ∃ i,i < t.place.size ∧ t.place.getD i 0 = (pth t.mask h l).j ∧ ha i ≠ h) ∧
      ((m = n0 ∧ probe.go t ha h F (pth t.mask h n) = some (.empty (pth t.mask h n0).j none)) ∨
       (m<n0/\∃i,i<t.place.size/\t.place.getD i 0=(pth t.mask h m).j/\ha i=h/\probe.go t ha h F (pth t.mask h n)=some (.candidate (pth t.mask h m).j i (pth t.mask h (m+1)))))
  |0,n,p,A=>by lia
  | F + 1,n,p,A => by
    rcases P4 n n0 with q|q
    · obtain ⟨i,g,e⟩:=o n q;have s:=nr T.up g e
      by_cases c:ha i=h
      · refine ⟨n,F6 _,p,λl a b => by lia,.inr ⟨q,i,g,e,c,?_⟩⟩;unfold probe.go;rw[s];dsimp only;rw[if_pos (by simpa using c)];rfl
      · obtain ⟨m,B,z,w,u⟩:=pE T j o (ha:=ha) F (n + 1) (by lia) (by lia);have eq:probe.go t ha h (F+1) (pth t.mask h n)=probe.go t ha h F (pth t.mask h (n+1)):=by
          rw[probe.go,s];dsimp only;rw[if_neg (by simpa using c)];rfl
        rw[eq];refine⟨m,by lia,z,λl a b=>?_,u⟩;rcases P4 n l with d|d
        · exact w l d b
        · obtain rfl:l = n:=by lia
          exact⟨i,g,e,c⟩
    · obtain rfl:n = n0:=by lia
      refine⟨n,F6 _,F6 _,λl a b=>by lia,.inl ⟨rfl,?_⟩⟩;unfold probe.go;rw[rB T.dm j];dsimp only;rw[Ak]
end L2
namespace L2
open PySem PySem.Spec PyProof.Rows
section
variable{X:Cx}{o i:N1}{g p:TEd}{pos:Pos}
end
section
variable{P:K9}{w:P7}{K:E5}{p:Str->Option u8}{base:K3}{f:F4}{g:K4}
theorem Fun.okR{x b:Str}{st:Z7}{f:F4}{g:K4}{N ps:List Str}{k n:Nat}{S:SpD}(F:Fun K x b st f g)(hn:ps.length=n)(m:av N ps (ai st))
  (h:∀ (e:u8) (A:M8) (a:List Env) (s:E9) (H:Hp) (E:XK),cc k (A.deeper (ac6 b (ai st) s.heap.objs.size f e)) →
   ∃t:TSd,QSs (ja CX0 P w K p base N b (ai st) f e A a s H E).nox (cm st) t/\∀ds M R (G:Prop),S ds M R->(t { nx:=λ_ i=>R .non i,rt:=R } (fu N ds) M->G)->G):aP P w K p base CX0 (k+1) f g ps (spD K n S):=by
 refine F.okD hn m λe A a s H E o=>?_;obtain⟨t,l,q⟩:=h e A a s H E o;exact⟨t,yC l,λds M R _ j=>q ds M R _ j id⟩
end
end L2
namespace L2
open PySem PyProof.Rows
section
variable{prog:K9}{w:P7}{A:M8}{E:u8->E9->Prop}{s:E9}{O:ab6}{key:Keyed->O.α}{g:List Keyed}{κ:SortKind}
structure SB(g:List Keyed) (κ:SortKind) (st:SortSt):Prop where
 perm:(arrOf st).toList.Perm g
 kind:an2 st=κ
 fail:failedOf st=none
theorem SB.size{st:SortSt}(h:SB g κ st):(arrOf st).size=g.length:=by rw[<-J1];exact h.perm.length_eq
end
end L2
namespace L2
open PySem PySem.SetTable
theorem jm{a:Type}(xs:Array a)(p:Nat)(x:a):(insertAt xs p x).toList=xs.toList.take p++x::xs.toList.drop p:=by
 unfold insertAt;rw[Array.toList_append,Array.toList_push,Array.toList_extract,Array.toList_extract,List.extract_eq_take_drop,List.extract_eq_take_drop];rw[List.drop_zero,Nat.sub_zero,S8 (l:=xs.toList.drop p) (by simp)];simp
theorem hJ{xs:Array Nat}{i d:Nat}:xs.getD i d=xs.toList[i]?.getD d:=by
 rw[R9]
 by_cases h:i<xs.size
 ·simp[X8,h]
 ·simp[X8,h]
theorem o6{xs:Array Nat}{p x:Nat}(h:p<=xs.size)(i:Nat):(insertAt xs p x).getD i 0=if i<p then xs.getD i 0 else if i=p then x else xs.getD (i-1) 0:=by
 have e:(xs.toList.take p).length=p:=by simp;lia
 rw[hJ,jm,ag0,e]
 by_cases a:i<p
 ·rw[if_pos a,if_pos a,X7 a,hJ]
 ·rw[if_neg a,if_neg a]
  by_cases b:i=p
  ·rw[if_pos b,b];simp
  ·rw[if_neg b];obtain⟨m,g⟩:∃m,i-p=m+1:=⟨i-p-1,by lia⟩;rw[g,S1,List.getElem?_drop,hJ];congr 2;lia
theorem fX{a:Type}(xs:Array a)(p:Nat)(x:a)(b:p<=xs.size):(insertAt xs p x).size=xs.size+1:=by
 rw[<-J1,jm];simp;lia
theorem tW{xs:Array Nat}{p x:Nat}(b:p<=xs.size){j:Nat}(h:Occ xs j):Occ (insertAt xs p x) j:=by
 obtain⟨i,g,e⟩:=h
 by_cases a:i<p
 ·exact⟨i,by rw[fX _ _ _ b];lia,by rw[o6 b,if_pos a];exact e⟩
 ·exact⟨i+1,by rw[fX _ _ _ b];lia,by rw[o6 b,if_neg (by lia),if_neg (by lia)];exact e⟩
theorem TB.put{t:N4}{hs:List Int}(T:TB t hs){h:Int}{n:Nat}(N:¬ Occ t.place (pth t.mask h n).j)(P:∀m,m<n->Occ t.place (pth t.mask h m).j)(I:t.place.size+1<=t.mask):
  ∃p,p<=hs.length/\(t.put (pth t.mask h n).j).2=p/\TB (t.put (pth t.mask h n).j).1 (hs.take p++h::hs.drop p)/\(t.put (pth t.mask h n).j).1.led=t.led/\(t.put (pth t.mask h n).j).1.plain=t.plain/\(t.put (pth t.mask h n).j).1.mask=t.mask/\(t.put (pth t.mask h n).j).1.place.size=t.place.size+1:=by
 generalize L:(pth t.mask h n).j=j at *
 have H:j<=t.mask:=by rw[<-L];exact rb n
 obtain⟨u,O,M⟩:=qN T.up j;have sz:=T.sz;have Y:has t.dummies j=false:=by rw[T.dm];rfl
 have e:t.put j=({ t with place:=insertAt t.place (below t.place j) j,dummies:=t.dummies },below t.place j):=by unfold N4.put;rw[Y];rfl
 rw[e];dsimp only;generalize Z:below t.place j=p at *
 have E:∀i,p<=i->i<t.place.size->j<t.place.getD i 0:=λi G C=>by
  have:=M i G C;rcases P4 j (t.place.getD i 0)with q|q
  ·exact q
  ·exact absurd ⟨i,C,by lia⟩ N
 have s:=fX t.place p j u;refine⟨p,by lia,rfl,⟨?_,?_,?_,T.dm,T.pw,by rw[s];exact I,?_⟩,rfl,rfl,rfl,s⟩
 ·show(insertAt t.place p j).size=_;rw[s,F2,O7,O0,W3];lia
 ·intro i k hik hk;have Q:k<t.place.size+1:=by rw[<-s];exact hk
  show(insertAt t.place p j).getD i 0<(insertAt t.place p j).getD k 0;rw[o6 u,o6 u]
  by_cases l:i<p
  ·rw[if_pos l]
   by_cases J:k<p
   ·rw[if_pos J];exact T.up i k hik (by lia)
   ·rw[if_neg J]
    by_cases o:k=p
    ·rw[if_pos o];exact O i l
    ·rw[if_neg o];exact T.up i (k-1) (by lia) (by lia)
  ·rw[if_neg l,if_neg (show ¬ k<p by lia),if_neg (show ¬ k=p by lia)]
   by_cases o:i=p
   ·rw[if_pos o];exact E _ (by lia) (by lia)
   ·rw[if_neg o];exact T.up (i-1) (k-1) (by lia) (by lia)
 ·intro i X;have R:i<t.place.size+1:=by rw[<-s];exact X
  show(insertAt t.place p j).getD i 0<=t.mask;rw[o6 u]
  by_cases l:i<p
  ·rw[if_pos l];exact T.le i (by lia)
  ·rw[if_neg l]
   by_cases o:i=p
   ·rw[if_pos o];exact H
   ·rw[if_neg o];exact T.le _ (by lia)
 ·intro i g w;have U:(hs.take p).length=p:=by simp;lia
  have z:∀B,hs[B]?=some g->(insertAt t.place p j).getD i 0=t.place.getD B 0->∃n,(pth t.mask g n).j=(insertAt t.place p j).getD i 0/\∀m,m<n->Occ (insertAt t.place p j) (pth t.mask g m).j:=λB G C=>by
   obtain⟨S,a,b⟩:=T.pr B g G;exact⟨S,by rw[a,C],λm A=>tW u (b m A)⟩
  rw[ag0,U]at w
  by_cases l:i<p
  ·rw[if_pos l,X7 l]at w;exact z i w (by rw[o6 u,if_pos l])
  ·rw[if_neg l]at w
   by_cases o:i=p
   ·rw[o,an5,V8]at w;cases w;exact⟨n,by show _=(insertAt t.place p j).getD i 0;rw[o6 u,if_neg l,if_pos o];exact L,λm A=>tW u (P m A)⟩
   ·obtain⟨m,A⟩:∃m,i-p=m+1:=⟨i-p-1,by lia⟩;rw[A,S1,List.getElem?_drop]at w;exact z _ w (by rw[o6 u,if_neg l,if_neg o];congr 1;lia)
variable{mask:Nat}{h:Int}
abbrev Ow:=Array (Option Nat)
def ocO(ow:Ow)(j:Nat):Prop:=ow.getD j (some 0)≠none
theorem sR{ow:Ow}(hs:ow.size=mask+1){M:Nat}(s:ow.getD (rs mask h M).1 (some 0)=none):∀F m n,m<=M->M-m<F->pth mask h n=atR mask (rs mask h m)->(∀l,l<n->ocO ow (pth mask h l).j) ->
  ∃i,layClean.free mask ow F (rs mask h m).1 (rs mask h m).2=some (pth mask h i).j/\ow.getD (pth mask h i).j (some 0)=none/\∀l,l<i->ocO ow (pth mask h l).j
 |0,m,n,t,B,_,_=>by lia
 |F+1,m,n,t,B,e,p=>by
  have lt:=zU (mask:=mask) (h:=h) m;have len:runEnd mask (rs mask h m).1+1-(rs mask h m).1=runEnd mask (rs mask h m).1-(rs mask h m).1+1:=by
   have:(rs mask h m).1<=runEnd mask (rs mask h m).1:=by unfold runEnd;split<;>lia
   lia
  have g:∀q,q<=runEnd mask (rs mask h m).1-(rs mask h m).1->(pth mask h (n+q)).j=(rs mask h m).1+q:=λq b=>by rw[nZ e q b]
  unfold layClean.free;rw[len];cases c:(Q8 (runEnd mask (rs mask h m).1-(rs mask h m).1+1)).find? λk=>(ow.getD ((rs mask h m).1+k) (some 0)).isNone with
  |some k =>
   dsimp only;have E:=O4.mp (List.mem_of_find?_eq_some c);have u:=List.find?_some c;refine⟨n+k,by rw[g k (by lia)],by rw[g k (by lia)];simpa using u,λl A=>?_⟩;rcases P4 l n with a|a
   ·exact p l a
   ·obtain⟨q,rfl⟩:∃q,l=n+q:=⟨l-n,by lia⟩;unfold ocO;rw[g q (by lia)];intro z;obtain⟨o,bs,j,w⟩:=(List.find?_eq_some_iff_append.mp c).2;have:q∈o:=by
     have b:q∈Q8 (runEnd mask (rs mask h m).1-(rs mask h m).1+1):=O4.mpr (by lia);have srt:(o++k::bs).Pairwise (·<·):=by rw[<-j];exact List.pairwise_lt_range
     rw[j]at b;rcases Q3.mp b with r|r
     ·exact r
     ·rw[List.pairwise_append]at srt;rcases J3.mp r with r|r
      ·lia
      ·have:=(List.pairwise_cons.mp srt.2.1).1 q r;lia
    have:=w q this;rw[z]at this;simp at this
  |none =>
   dsimp only;have all:=List.find?_eq_none.mp c;have C:m≠M:=λz=>by
    subst z;have:=all 0 (O4.mpr (by lia));rw[Nat.add_zero,s]at this;simp at this
   show ∃i,layClean.free mask ow F (rs mask h (m+1)).1 (rs mask h (m+1)).2=_/\_;refine sR hs s F (m+1) (n+(runEnd mask (rs mask h m).1-(rs mask h m).1)+1) (by lia) (by lia) ?_ λl A=>?_
   ·show pA mask (pth mask h (n+_))=_;rw[nZ e _ (F6 _)];unfold pA;rw[if_neg (by simp)];rfl
   ·rcases P4 l n with a|a
    ·exact p l a
    ·obtain⟨q,rfl⟩:∃q,l=n+q:=⟨l-n,by lia⟩;unfold ocO;rw[g q (by lia)];intro z;have:=all q (O4.mpr (by lia));rw[z]at this;simp at this
def lv(mask:Nat)(ow:Ow):List (Nat×Nat):=(Q8 (mask+1)).filterMap λj=>(ow.getD j none).map (j,·)
theorem rf{ow:Ow}{j:Nat}(e:j<ow.size)(a b:Option Nat):ow.getD j a=ow.getD j b:=by simp[X8,e]
theorem B1{ow:Ow}(hs:ow.size=mask+1){s k:Nat}(a:s<=mask)(hn:ow.getD s none=none):(lv mask (ow.setIfInBounds s (some k))).Perm ((s,k)::lv mask ow):=by
 unfold lv;have b:Q8 (mask+1)=Q8 s++s::(ao4 (s+1) (mask-s)):=by
  rw[List.range_eq_range',List.range_eq_range',show mask+1=s+(1+(mask-s))by lia,<-List.range'_append_1,<-List.range'_append_1];simp[Nat.add_comm]
 have same:∀l:List Nat,s∉l->(l.filterMap λj=>((ow.setIfInBounds s (some k)).getD j none).map (j,·))=l.filterMap λj=>(ow.getD j none).map (j,·):=λl a=>by
  induction l with
  |nil=>rfl
  |cons j l ih =>
   have this:s≠j:=λz=>a (z▸.head _);rw[Q5,Q5,ih λz=>a (.tail _ z)];simp only[R4,Z5,if_neg this]
 rw[b,List.filterMap_append,List.filterMap_append,Q5,Q5,hn,same _ (by simp),same _ (λz=>by obtain⟨x,_,z⟩:=List.mem_range'.mp z;lia)];have:(ow.setIfInBounds s (some k)).getD s none=some k:=by simp[R4,show s<ow.size by lia]
 rw[this];simp only[Option.map_some,Option.map_none];exact List.perm_middle
structure LC(mask:Nat) (hs:List Int) (ow:Ow) (k:Nat):Prop where
 sz:ow.size=mask+1
 perm:((lv mask ow).map (·.2)).Perm (Q8 k)
 pr:∀j i h,ow.getD j none=some i->hs[i]?=some h->∃n,(pth mask h n).j=j/\∀m,m<n->ocO ow (pth mask h m).j
theorem Bf{ow:Ow}(hs:ow.size=mask+1){j i:Nat}(e:ow.getD j none=some i):(j,i)∈lv mask ow:=by
 have a:j<ow.size:=by
  rcases P4 j ow.size with q|q
  ·exact q
  ·simp[X8,show ¬ j<ow.size by lia]at e
 exact U5.mpr ⟨j,O4.mpr (by lia),by rw[e];rfl⟩
theorem yG{ow:Ow}(hs:ow.size=mask+1)(a:(lv mask ow).length<=mask):∃j,j<=mask/\ow.getD j none=none:=by
 refine ab5 λc=>?_;have all:∀j∈Q8 (mask+1),∃i,ow.getD j none=some i:=λj h=>by
  cases q:ow.getD j none with
  |none=>exact absurd ⟨j,by have:=O4.mp h;lia,q⟩ c
  |some i=>exact⟨i,rfl⟩
 have:∀l:List Nat,(∀j∈l,∃i,ow.getD j none=some i)->(l.filterMap λj=>(ow.getD j none).map (j,·)).length=l.length:=λl=>by
  induction l with
  |nil=>exact λ_=>rfl
  |cons j l ih =>
   intro b;obtain⟨i,e⟩:=b j (.head _);rw[Q5,e];simp only[Option.map_some,O0];rw[ih λx g=>b x (.tail _ g)]
 have q:=this _ all;rw[aj7]at q;unfold lv at a
 lia
abbrev lcF(mask:Nat)(a:Option (Ow×Nat))(h:Int):Option (Ow×Nat):=do
 let(owner,k) <-a
 let j <-layClean.free mask owner (turns mask) (bits h % (mask+1)) (bits h)
 af8 (owner.setIfInBounds j (some k),k+1)
theorem z9{e:Nat}(J:mask+1=2 ^ e){hs:List Int}(I:hs.length<=mask):∀(o done:List Int) (ow:Ow),hs=done++o->LC mask hs ow done.length->∃w,o.foldl (lcF mask) (some (ow,done.length))=some (w,hs.length)/\LC mask hs w hs.length
 |[],done,ow,q,L=>⟨ow,by rw[q];simp,by rw[q];simpa[q]using L⟩
 |h::o,done,ow,q,L=>by
  have T:(lv mask ow).length=done.length:=by have:=L.perm.length_eq;simpa using this
  have lt:done.length<hs.length:=by rw[q];simp
  obtain⟨j,A,R⟩:=yG L.sz (by lia);obtain⟨m,_,B,_,Q,_⟩:=sF (mask:=mask) (h:=h) J A;obtain⟨t,N,P,S⟩:=sR (mask:=mask) (h:=h) (ow:=ow) L.sz (M:=m) (by rw[Q,rf (by rw[L.sz];lia) (some 0) none];exact R) (turns mask) 0 0 (P1 _) (by unfold turns;lia) rfl (λl U=>by lia);have O:=rb (mask:=mask) (h:=h) t;have st:lcF mask (some (ow,done.length)) h=some (ow.setIfInBounds (pth mask h t).j (some done.length),done.length+1):=by
   show(layClean.free mask ow (turns mask) (bits h % (mask+1)) (bits h) >>= λj=>af8 (ow.setIfInBounds j (some done.length),done.length+1))=_;have:layClean.free mask ow (turns mask) (bits h % (mask+1)) (bits h)=some (pth mask h t).j:=N;rw[this];rfl
  rw[X3,st];generalize H:(pth mask h t).j=p at *
  have E:ow.getD p none=none:=by rw[<-P];exact rf (by rw[L.sz];lia) _ _
  have u:∀j,ocO ow j->ocO (ow.setIfInBounds p (some done.length)) j:=λj A z=>by
   unfold ocO at A;simp only[R4,Z5]at z A
   split at z
   ·split at z<;>simp at z
   ·exact A z
  have:=z9 J I o (done++[h]) (ow.setIfInBounds p (some done.length)) (by rw[q];simp) ⟨by rw[Array.size_setIfInBounds];exact L.sz,?_,?_⟩
  ·rw[F2,aa9]at this;exact this
  ·rw[F2,aa9,List.range_succ];refine((B1 L.sz O E).map _).trans ?_;rw[K0];exact(ao0.cons _ L.perm).trans (List.perm_append_singleton _ _).symm
  ·intro j i g s G
   by_cases c:p=j
   ·have:i=done.length:=by
     simp only[R4,Z5,if_pos c]at s
     split at s
     ·simpa using s.symm
     ·simp at s
    subst this;have:g=h:=by rw[q,U1 (F6 _),an5,V8]at G;exact(R1 G).symm
    subst this;exact⟨t,by rw[H];exact c,λm B=>u _ (S m B)⟩
   ·have C:ow.getD j none=some i:=by
     simp only[R4,Z5,if_neg c]at s ⊢;exact s
    obtain⟨n,a,b⟩:=L.pr j i g C G;exact⟨n,a,λm B=>u _ (b m B)⟩
theorem qC(n:Nat):∀F k,n<2 ^ (k+F)->∃e,k<=e/\sizeAbove.go n F (2 ^ k)=2 ^ e/\n<2 ^ e/\(e=k∨2 ^ e<=2*n)
 |0,k,h=>⟨k,F6 _,rfl,h,.inl rfl⟩
 |F+1,k,h=>by
  unfold sizeAbove.go
  by_cases c:2 ^ k<=n
  ·rw[if_pos c,show 2 ^ k*2=2 ^ (k+1)from(ak6 ..).symm];obtain⟨e,i,g,b,a⟩:=qC n F (k+1) (by rw[show k+1+F=k+(F+1)by lia];exact h);refine⟨e,by lia,g,b,.inr ?_⟩;rcases a with a|a
   ·rw[a,ak6];lia
   ·exact a
  ·rw[if_neg c];exact⟨k,F6 _,rfl,by lia,.inl rfl⟩
theorem qu{n:Nat}(h:n<2 ^ 60):∃e,3<=e/\sizeAbove n=2 ^ e/\n<2 ^ e/\(2 ^ e<=8∨2 ^ e<=2*n):=by
 obtain⟨e,a,g,i,b⟩:=qC n 64 3 (Nat.lt_trans h (by decide));exact⟨e,a,g,i,b.imp (λz=>by rw[z];decide) id⟩
variable{mask:Nat}
theorem Ci(ow:Ow):((lv mask ow).map (·.1)).Pairwise (·<·):=by
 unfold lv;rw[List.map_filterMap,List.pairwise_filterMap];refine List.pairwise_lt_range.imp λ{a b} h x e y g=>?_;cases j:ow.getD a none with
 |none=>rw[j]at e;cases e
 |some i =>
  cases l:ow.getD b none with
  |none=>rw[l]at g;cases g
  |some k =>
   rw[j]at e;rw[l]at g;cases e;cases g;exact h
theorem zS{ow:Ow}{j i:Nat}(h:(j,i)∈lv mask ow):j<=mask/\ow.getD j none=some i:=by
 obtain⟨a,b,e⟩:=U5.mp h;have:=O4.mp b;cases q:ow.getD a none with
 |none=>rw[q]at e;cases e
 |some k=>rw[q]at e;cases e;exact⟨by lia,q⟩
theorem yk{t:N4}{hs:List Int}{wanted:Nat}(U:hs.length<=wanted)(J:wanted<2 ^ 60)(S:0<wanted):∃t' o,t.relaid hs.toArray wanted=some (t',o)/\t'.led=t.led/\t'.plain=t.plain/\t'.mask+1=sizeAbove wanted/\o.toList.Perm (Q8 hs.length)/\t'.place.size=hs.length/\TB t' (o.toList.map λk=>hs.getD k 0):=by
 obtain⟨e,R,T,el,_⟩:=qu J;have P:0<2 ^ e:=Nat.two_pow_pos e;generalize C:sizeAbove wanted-1=mask;have I:mask+1=2 ^ e:=by lia
 have N:LC mask hs (am5 (mask+1) none) 0:=by
  have z:∀j,(am5 (mask+1) (none:Option Nat)).getD j none=none:=λj=>by
   rw[R4,Array.getElem?_replicate];split<;>rfl
  refine⟨by simp,?_,λj i h q _=>by rw[z]at q;cases q⟩;have:lv mask (am5 (mask+1) none)=[]:=by
   unfold lv;rw[List.filterMap_eq_nil_iff];intro j _;rw[z];rfl
  rw[this];exact .refl _
 obtain⟨g,f,L⟩:=z9 I (hs:=hs) (by lia) hs [] _ rfl N;have A:layClean mask hs.toArray=some g:=by
  unfold layClean;rw[<-Array.foldl_toList];show(hs.foldl (lcF mask) (some (am5 (mask+1) none,0))).map (·.1)=_;rw[show(0:Nat)=([]:List Int).length from rfl,f];rfl
 have Q:t.relaid hs.toArray wanted=some ({ mask,place:=((lv mask g).map (·.1)).toArray,dummies:=#[],finger:=t.finger,led:=t.led,moves:=t.movedTo mask,plain:=t.plain },((lv mask g).map (·.2)).toArray):=by
  unfold relaid laid;rw[C,A];rfl
 have G:(lv mask g).length=hs.length:=by have:=L.perm.length_eq;simpa using this
 have u:∀i,((lv mask g).map (·.1)).toArray.getD i 0=((lv mask g)[i]?.map (·.1)).getD 0:=λi=>by rw[hJ];simp
 have p:((lv mask g).map (·.1)).toArray.size=hs.length:=by simp[G]
 have B:∀j,j<=mask->ocO g j->Occ ((lv mask g).map (·.1)).toArray j:=λj H q=>by
  cases c:g.getD j none with
  |none=>exact absurd (by rw[rf (by rw[L.sz];lia) (some 0) none];exact c) q
  |some i =>
   obtain⟨l,A⟩:=ae6.mp (Bf L.sz c);exact⟨l,by rw[p,<-G];exact(J4.mp A).1,by rw[u,A];rfl⟩
 refine⟨_,_,Q,rfl,rfl,by show mask+1=_;lia,by simpa using L.perm,p,⟨by simp,?_,?_,rfl,⟨e,R,I⟩,by show((lv mask g).map (·.1)).toArray.size<=mask;lia,?_⟩⟩
 ·intro i j E H;rw[p]at H;have:=List.pairwise_iff_getElem.mp (Ci (mask:=mask) g) i j (by simp;lia) (by simp;lia) E;show((lv mask g).map (·.1)).toArray.getD i 0<((lv mask g).map (·.1)).toArray.getD j 0;rw[u,u,E4 (by lia),E4 (by lia)];simpa using this
 ·intro i s;rw[p]at s;show((lv mask g).map (·.1)).toArray.getD i 0<=mask;rw[u,E4 (by lia)];exact(zS (L8 (by lia))).1
 ·intro i h s;show ∃n,(pth mask h n).j=((lv mask g).map (·.1)).toArray.getD i 0/\∀m,m<n->Occ ((lv mask g).map (·.1)).toArray (pth mask h m).j;simp only[F7]at s;cases c:(lv mask g)[i]? with
  |none=>rw[c]at s;cases s
  |some M =>
   obtain⟨j,k⟩:=M;rw[c]at s;have mem:=K7 c;have w:k<hs.length:=O4.mp (L.perm.mem_iff.mp (K5.mpr ⟨_,mem,rfl⟩));have O:hs[k]?=some h:=by
    have:hs.getD k 0=h:=by simpa using s
    rw[E4 w,<-this];simp[w]
   obtain⟨n,a,b⟩:=L.pr j k h (zS mem).2 O;exact⟨n,by rw[u,c];exact a,λm C=>B _ (rb m) (b m C)⟩
end L2
namespace L2
open PySem PySem.SetTable PySem.SeqAt
structure TK(prog:K9) (w:P7) (B:Type) where
 is:K3->B->u8->Prop
 hash:B->Int
 room:M8->Prop
 pyHash:∀{A:M8} {E:u8->E9->Prop} {s:E9} {x:B} {v:u8} {Q:Int->E9->Prop},room A->is s.heap x v->(∀t,s.toks<=t->Q (hash x) { s with toks:=t })->J0 (L4 prog w) A (PySem.pyHash v) Q E s
 eqB:∀{A:M8} {s:E9} {x y:B} {v u:u8},room A->is s.heap x v->is s.heap y u->∃b:Bool,(b=true↔x=y)/\EqAt A s v u b
 quiet:∀{A:M8} {E:u8->E9->Prop} {s:E9} {x:B} {v:u8} {Q:Bool->E9->Prop},room A->is s.heap x v->Q true s->J0 (L4 prog w) A (eqIsQuiet 8 v) Q E s
 noCls:∀{A:M8} {E:u8->E9->Prop} {s:E9} {x:B} {v:u8} {Q:Bool->E9->Prop},room A->is s.heap x v->Q false s->J0 (L4 prog w) A (ofAClassStatement 8 v) Q E s
 byV:∀{A:M8} {E:u8->E9->Prop} {s:E9} {x:B} {v:u8} {Q:Bool->E9->Prop},room A->is s.heap x v->(∀b,Q b s)->J0 (L4 prog w) A (hashByValue 8 v) Q E s
 ref:∀{h:K3} {x:B} {v:u8},is h x v->∃a,v=.ref a
variable{prog:K9}{w:P7}{B:Type}{κ:TK prog w B}{A:M8}{E:u8->E9->Prop}{s:E9}
structure Els(κ:TK prog w B) (h:K3) (es:Array (Int×u8)) (zs:List B):Prop where
 len:es.size=zs.length
 at_:∀(i:Nat) z,zs[i]?=some z->∃v,es[i]?=some (κ.hash z,v)/\κ.is h z v
def di(a:Array (Int×u8)):List Int:=a.toList.map (·.1)
theorem Els.of{h:K3}{b:Array (Int×u8)}{a:List B}(L:Els κ h b a){i:Nat}{e:Int×u8}(g:b[i]?=some e):∃z,a[i]?=some z/\e.1=κ.hash z/\κ.is h z e.2:=by
 have l:i<a.length:=by rw[<-L.len];exact(P0.mp g).1
 obtain⟨v,j,q⟩:=L.at_ i a[i] (E4 l);rw[g]at j;cases j;exact⟨_,E4 l,rfl,q⟩
theorem DI{x:B}{v:u8}(hr:κ.room A)(m:κ.is s.heap x v){Q:Bool->E9->Prop}(h:Q false s):∀(l:List u8),(∀u∈l,∃y,κ.is s.heap y u)->J0 (L4 prog w) A (searchCouldBeSeen v l) Q E s:=by
 intro l o;unfold searchCouldBeSeen;refine o0 ?_;refine ad5 _ (λrest b i=>i=s/\b=(none,())/\∀u∈rest,∃y,κ.is s.heap y u) _ ?_ ?_ _ _ ⟨rfl,rfl,o⟩
 ·rintro u rest b i ⟨rfl,rfl,g⟩;obtain⟨y,j⟩:=g u (.head _);obtain⟨a,rfl⟩:=κ.ref m;obtain⟨c,rfl⟩:=κ.ref j;have e:∀u∈rest,∃y,κ.is i.heap y u:=λu n=>g u (.tail _ n);dsimp only
  split
  ·exact E6 ⟨rfl,rfl,e⟩
  ·refine o0 (κ.quiet hr m ?_);simp only[Z6,F0,if_false];refine o0 (κ.quiet hr j ?_);simp only[Z6,F0,if_false];refine o0 (κ.noCls hr m ?_);simp only[F0,if_false];refine o0 (κ.noCls hr j ?_);simp only[F0,if_false];exact E6 ⟨rfl,rfl,e⟩
 ·rintro b i ⟨rfl,rfl,_⟩;exact E6 h
theorem Bp{a:F4}{o:Obj}{H:Array (Int×u8)}{ep:Nat}{t:N4}{C:List B}{x:B}{v:u8}{n0:Nat}(hr:κ.room A)(hx:κ.is s.heap x v)(ho:s.heap.get? a=some o)(hd:o.data=.set H ep t)(L:Els κ s.heap H C)(T:TB t (di H))
  (f0:¬ Occ t.place (pth t.mask (κ.hash x) n0).j) (f1:∀m,m<n0->Occ t.place (pth t.mask (κ.hash x) m).j) {Q:SetFound->E9->Prop} (hy:x∈C->∀i,Q (.there i) s) (hn:x∉C->Q (.free (pth t.mask (κ.hash x) n0).j false) s) :
  ∀F n h,h.getD (t.probeStart (κ.hash x))=pth t.mask (κ.hash x) n->n<=n0->n0-n<F->n0<10*turns t.mask->(∀l,l<n->∀i,i<t.place.size->t.place.getD i 0=(pth t.mask (κ.hash x) l).j->C[i]?≠some x)->J0 (L4 prog w) A (ao8 a v (κ.hash x) true F h) Q E s:=by
 have j:(di H).length=H.size:=by simp[di]
 have fit:t.fits H.size=true:=by
  unfold N4.fits fill;rw[T.dm,T.sz,j];have:=T.few;rw[T.sz,j]at this;simpa using this
 have gw:t.gaveWay=false:=by
  obtain⟨k,k3,U⟩:=T.pw;unfold gaveWay;obtain⟨m,rfl⟩:∃m,k=m+1:=⟨k-1,by lia⟩;rw[ak6]at U;have:t.mask % 2=1:=by lia
  rw[this];rfl
 have I:∀{i k},i<t.place.size->k<t.place.size->t.place.getD i 0=t.place.getD k 0->i=k:=λ{i k} M U e=>by
  rcases Nat.lt_trichotomy i k with q|q|q
  ·have:=T.up i k q U;lia
  ·exact q
  ·have:=T.up k i q M;lia
 intro F
 induction F with
 |zero=>intro n h _ _ h3;lia
 |succ F ih =>
  intro n h e h2 h3 h4 h5;unfold ao8;refine o0 (ac4 ho hd fit ?_);dsimp only;rw[gw];simp only[F0,if_false];unfold N4.probe;rw[e];obtain⟨G,P⟩:∃G:Nat->Int,G=λi=>(H[i]?.map (·.1)).getD 0:=⟨_,rfl⟩;obtain⟨m,m1,m2,m3,m4⟩:=pE T f0 f1 (ha:=G) (10*turns t.mask) n h2 (by lia);have a3:∀(i:Nat) z,C[i]?=some z->G i=κ.hash z:=λi z R=>by
   obtain⟨u,g,_⟩:=L.at_ i z R;rw[P];simp[g]
  have skip:∀l,l<m->∀i,i<t.place.size->t.place.getD i 0=(pth t.mask (κ.hash x) l).j->C[i]?≠some x:=λl hl i M X R=>by
   rcases P4 l n with q|q
   ·exact h5 l q i M X R
   ·obtain⟨k,k1,k2,k3⟩:=m3 l q hl;obtain rfl:=I M k1 (X.trans k2.symm);exact k3 (a3 _ _ R)
  rcases m4 with⟨rfl,em⟩|⟨a0,i,i1,i2,i3,em⟩
  ·have N:∀f:Nat->Int,f=G->probe.go t f (κ.hash x) (10*turns t.mask) (pth t.mask (κ.hash x) n)=probe.go t G (κ.hash x) (10*turns t.mask) (pth t.mask (κ.hash x) n):=λf hf=>by rw[hf]
   rw[N _ ?_,em]
   rotate_left
   ·rw[P];rfl
   dsimp only;refine E6 (hn λR=>?_);obtain⟨i,M⟩:=ae6.mp R;have S:i<t.place.size:=by rw[T.sz,j,L.len];exact(J4.mp M).1
   obtain⟨u,g,_⟩:=L.at_ i x M;obtain⟨nn,a1,a2⟩:=T.pr i (κ.hash x) (by rw[di,F7,R9,g];rfl);have lt:nn<m:=by
    rcases Nat.lt_trichotomy nn m with q|q|q
    ·exact q
    ·subst q;exact absurd ⟨i,S,a1.symm⟩ f0
    ·exact absurd (a2 m q) f0
   exact skip nn lt i S a1.symm M
  ·have N:∀f:Nat->Int,f=G->probe.go t f (κ.hash x) (10*turns t.mask) (pth t.mask (κ.hash x) n)=probe.go t G (κ.hash x) (10*turns t.mask) (pth t.mask (κ.hash x) n):=λf hf=>by rw[hf]
   rw[N _ ?_,em]
   rotate_left
   ·rw[P];rfl
   dsimp only;have iz:i<C.length:=by rw[<-L.len,<-j,<-T.sz];exact i1
   obtain⟨u,gu,Y⟩:=L.at_ i C[i] (E4 iz);have J:J0 (L4 prog w) A (do
     let some (_,y):=H[i]?|aq3 "internal:set-entry"
     let p <-ak9 [y] (eqBool y v)
     let(es',_,t') <-setState a
     if true&&p then return .there none
     let some same:=t'.sameMemory t.moves t.mask|aq3 "set.changed-during-lookup:is-the-new-block-at-the-old-address"
     let O <-match (if same then t'.slot (pth t.mask (κ.hash x) m).j else .empty)with
      |.live Z=>match es'[Z]? with
       |some (_,y')=>do af8 (if <-isSame y' y then some Z else none)
       |none=>af8 none
      |_=>af8 none
     match O with
     |none=>rule "set.search.anew";ao8 a v (κ.hash x) true F none
     |some Z=>if p then return .there (some Z)else ao8 a v (κ.hash x) true F (some (pth t.mask (κ.hash x) (m+1)))) Q E s:=by
    rw[gu];dsimp only;obtain⟨b,hb,eq⟩:=κ.eqB hr Y hx;refine o0 (N6 (eq prog w _ _ ?_));refine o0 (ac4 ho hd fit ?_);dsimp only;cases b with
    |true =>
     have:C[i]=x:=hb.mp rfl;exact E6 (hy (this▸L8 iz) _)
    |false =>
     have ne:C[i]≠x:=λz=>by have:=hb.mpr z;cases this
     simp only[R8,F0,if_false];rw[show t.sameMemory t.moves t.mask=some true by simp[sameMemory]];dsimp only;rw[nr T.up i1 i2];simp only[if_true];rw[gu];dsimp only;obtain⟨c,rfl⟩:=κ.ref Y;refine o0 (wpAny_isSame_ref_self (o0 (E6 ?_)));simp only[if_true];refine ih (m+1) _ rfl a0 (by lia) h4 λl hl k k1 k2=>?_;rcases P4 l m with q|q
     ·exact skip l q k k1 k2
     ·obtain rfl:l=m:=by lia
      obtain rfl:=I k1 i1 (k2.trans i2.symm);rw[E4 iz];intro z;exact ne (R1 z)
   by_cases led:t.led=true
   ·rw[led];simp only[Z6,F0,if_false];exact J
   ·rw[show t.led=false by simpa using led];simp only[ak0,if_true];refine o0 (DI hr hx ?_ _ λu Y=>?_)
    ·simp only[F0,if_false];exact J
    ·obtain⟨e,X,rfl⟩:=K5.mp Y;have a4:e∈H:=(Array.mem_filter.mp (Array.mem_def.mpr X)).1;obtain⟨k,U,ek⟩:=Array.mem_iff_getElem.mp a4;obtain⟨z,_,_,q⟩:=L.of (i:=k) (e:=e) (by rw[N5 U,ek]);exact⟨z,q⟩
variable{prog:K9}{w:P7}{B:Type}{κ:TK prog w B}{A:M8}{E:u8->E9->Prop}{s:E9}
structure EV(κ:TK prog w B) (h:K3) (a:F4) (o:Obj) (es:Array (Int×u8)) (ep:Nat) (t:N4) (zs:List B):Prop where
 get:h.get? a=some o
 ex:o.ExactSet
 data:o.data=.set es ep t
 el:Els κ h es zs
 nd:zs.Nodup
 tb:TB t (di es)
 led:t.led=!w.params.followText "set-order"
 roomy:es.size*5<t.mask*3
 small:t.mask<=7∨t.mask<=8*es.size
def jF(κ:TK prog w B)(h:K3)(a:F4)(xs:List B):Prop:=∃o e g t b,EV κ h a o e g t b/\b.Perm xs
theorem Els.keep{h h':K3}{a:Array (Int×u8)}{b:List B}(L:Els κ h a b)(k:∀z v,κ.is h z v->κ.is h' z v):Els κ h' a b:=⟨L.len,λi z e=>by obtain⟨v,g,q⟩:=L.at_ i z e;exact⟨v,g,k z v q⟩⟩
theorem jF.mono{h h':K3}{a:F4}{xs:List B}(S:jF κ h a xs)(k:∀o,h.get? a=some o->h'.get? a=some o)(k2:∀z v,κ.is h z v->κ.is h' z v):jF κ h' a xs:=by
 obtain⟨o,b,g,t,e,q,p⟩:=S;exact⟨o,b,g,t,e,⟨k _ q.get,q.ex,q.data,q.el.keep k2,q.nd,q.tb,q.led,q.roomy,q.small⟩,p⟩
theorem sX{h:K3}{b:Array (Int×u8)}{g:List B}{x:B}{v:u8}{p:Nat}(L:Els κ h b g)(o:κ.is h x v)(l:p<=g.length):Els κ h (insertAt b p (κ.hash x,v)) (g.take p++x::g.drop p):=by
 have lt:(b.toList.take p).length=p:=by rw[O7,J1,L.len];lia
 have j:(g.take p).length=p:=by rw[O7];lia
 refine⟨by rw[fX _ _ _ (by rw[L.len];exact l),F2,O0,j,W3,L.len];lia,λi z a=>?_⟩;have q:(insertAt b p (κ.hash x,v))[i]?=(b.toList.take p++(κ.hash x,v)::b.toList.drop p)[i]?:=by rw[<-jm,R9]
 rw[q];rw[ag0,j]at a;rw[ag0,lt]
 by_cases e:i<p
 ·rw[if_pos e,X7 e]at a;rw[if_pos e,X7 e,R9];exact L.at_ i z a
 ·rw[if_neg e]at a ⊢
  by_cases n:i=p
  ·rw[n,an5,V8]at a ⊢;cases a;exact⟨v,rfl,o⟩
  ·obtain⟨m,s⟩:∃m,i-p=m+1:=⟨i-p-1,by lia⟩;rw[s,S1,List.getElem?_drop]at a ⊢;rw[R9];exact L.at_ _ z a
theorem TB.plain{t:N4}{hs:List Int}(T:TB t hs)(b:Bool):TB { t with plain:=b } hs:=⟨T.sz,T.up,T.le,T.dm,T.pw,T.few,T.pr⟩
theorem TB.fit{t:N4}{b:Array (Int×u8)}(T:TB t (di b)):t.fits b.size=true:=by
 have a:(di b).length=b.size:=by simp[di]
 unfold N4.fits fill;rw[T.dm,T.sz,a];have:=T.few;rw[T.sz,a]at this;simpa using this
theorem sD{h:K3}{a:F4}{o:Obj}{i:Array (Int×u8)}{g:Nat}{t:N4}(j:h.get? a=some o)(e:o.data=.set i g t)(b:Array (Int×u8))(t':N4):
  (h.update a (ah2 b t')).get? a=some { o with data:=.set b (g+1) t' }:=by
 have:=P3 (ah2 b t') j (by rw[as8 b t' e];rfl);rw[as8 b t' e]at this;exact this
theorem pf{a:Array (Int×u8)}:∀{l:List Nat},(∀k∈l,k<a.size)->(l.filterMap λk=>a[k]?)=l.map λk=>a.getD k (0,.none)
 |[],_=>rfl
 |k::l,h=>by
  have b:=h k (.head _);rw[Q5,N5 b,K0,pf λj e=>h j (.tail _ e)];simp[X8,b]
theorem oQ{l:List B}{k:Nat}(h:k<l.length)(d:B):l[k]?=some (l.getD k d):=by rw[L9,E4 h];rfl
theorem lE(l:List B)(d:B):(Q8 l.length).map (λk=>l.getD k d)=l:=by
 refine aj4 λi=>?_;rw[F7];rcases P4 i l.length with q|q
 ·rw[List.getElem?_range q,oQ q d];rfl
 ·rw[S0 (by rw[aj7];exact q),S0 q];rfl
theorem EW{a:F4}{xs:List B}{x:B}{v:u8}{Q:Bool->E9->Prop}(hr:κ.room A)(hx:κ.is s.heap x v)(hS:jF κ s.heap a xs)(a':xs.length<1000)(kp:∀h' z v,Q4 a s.heap h'->κ.is s.heap z v->κ.is h' z v)
  (h:∀b h',Q4 a s.heap h'->(x∈xs->jF κ h' a xs)->(x∉xs->jF κ h' a (xs++[x]))->Q b { s with heap:=h' }):J0 (L4 prog w) A (ap4 a v (κ.hash x)) Q E s:=by
 obtain⟨o,g,ep,t,u,q,X⟩:=hS;have M:(di g).length=g.size:=by simp[di]
 have lz:g.size=xs.length:=by rw[q.el.len,X.length_eq]
 obtain⟨n0,n1,f0,f1⟩:=q.tb.free (κ.hash x);have hm:t.mask<=8000:=by have:=q.small;lia
 obtain⟨r,rfl⟩:=κ.ref hx;have a2:s={ s with heap:=s.heap }:=by cases s;rfl
 unfold ap4 setAddHashedIn;refine N6 (o0 (ac4 q.get q.data q.tb.fit ?_));dsimp only;rw[show byScan (.ref r) g=false by unfold byScan;rfl];simp only[F0,if_false];unfold setSearch;refine o0 (Bp hr hx q.get q.data q.el q.tb f0 f1 (λR i=>?_) (λR=>?_) 100000 0 none rfl (P1 _) (by lia) (by unfold turns;lia) (λl hl=>by lia))
 ·refine E6 ?_;rw[a2];exact h _ s.heap (Q4.refl a s.heap) (λ_=>⟨o,g,ep,t,u,q,X⟩) λhn=>absurd (X.mem_iff.mp R) hn
 ·have hn:x∉xs:=λz=>R (X.mem_iff.mpr z);have fl:t.place.size+1<=t.mask:=by
   have:=q.roomy;have:=q.tb.sz;obtain⟨k,k3,O⟩:=q.tb.pw;have:2 ^ 3<=2 ^ k:=Nat.pow_le_pow_right (by decide) k3
   lia
  obtain⟨p,hp,e2,S,l1,_,m1,z1⟩:=q.tb.put f0 f1 fl;rw[M]at hp;dsimp only;refine o0 (ac4 q.get q.data q.tb.fit ?_);dsimp only;generalize ht:t.put (pth t.mask (κ.hash x) n0).j=tp at *
  obtain⟨t1,m⟩:=tp;dsimp only at e2 S l1 m1 z1 ⊢;subst e2;have pz:m<=u.length:=by rw[<-q.el.len];exact hp
  have a3:di (insertAt g m (κ.hash x,.ref r))=(di g).take m++κ.hash x::(di g).drop m:=by unfold di;rw[jm];simp[ad1,ai1]
  have N:(insertAt g m (κ.hash x,.ref r)).size=g.size+1:=fX _ _ _ hp;have U:(u.take m++x::u.drop m).Nodup:=by
   rw[List.perm_middle.nodup_iff,List.take_append_drop,T4];exact⟨R,q.nd⟩
  have Y:(u.take m++x::u.drop m).Perm (xs++[x]):=by
   refine List.perm_middle.trans ?_;rw[List.take_append_drop];exact(ao0.cons _ X).trans (List.perm_append_singleton _ _).symm
  have go:∀C:N4,TB C (di (insertAt g m (κ.hash x,.ref r)))->C.led=t.led->C.mask=t.mask->C.place.size=t.place.size+1->J0 (L4 prog w) A (do
     storeSet a (insertAt g m (κ.hash x,.ref r)) C
     if !false&&C.tooFull then setRelay a (grown (g.size+1))
     return true) Q E s:=by
   intro C T2 ld mk a5;refine o0 (aj5 q.get q.data ?_ (aj6 (by unfold ae9;lia)));have I:=sD q.get q.data (insertAt g m (κ.hash x,.ref r)) C;have J:=aa1 s.heap a (ah2 (insertAt g m (κ.hash x,.ref r)) C);generalize a9:s.heap.update a (ah2 (insertAt g m (κ.hash x,.ref r)) C)=h1 at *
   have H:Els κ h1 (insertAt g m (κ.hash x,.ref r)) (u.take m++x::u.drop m):=(sX q.el hx pz).keep λz v R=>kp _ z v J R;have tf:C.tooFull=decide ((g.size+1)*5>=t.mask*3):=by
    unfold tooFull fill;rw[T2.dm,a5,q.tb.sz,M,mk];simp
   by_cases c:(g.size+1)*5>=t.mask*3
   ·rw[tf,decide_eq_true c];simp only[ak0,ai2,if_true];refine o0 ?_;unfold setRelay;refine o0 (ac4 (s:={ s with heap:=h1 }) I rfl T2.fit ?_);dsimp only;have gr:grown (g.size+1)=(g.size+1)*4:=by unfold grown;rw[if_neg (by lia)]
    rw[gr];obtain⟨e,e3,ee,el,eb⟩:=qu (n:=(g.size+1)*4) (by lia);obtain⟨t3,j,er,a4,_,T,P,sz3,T3⟩:=yk (t:=C) (hs:=di (insertAt g m (κ.hash x,.ref r))) (wanted:=(g.size+1)*4) (by simp only[di,E8,J1];rw[N];lia) (by lia) (by lia);have ls:(di (insertAt g m (κ.hash x,.ref r))).length=g.size+1:=by simp[di,N]
    rw[ls]at P sz3;rw[if_neg (by rw[ee,ai7];lia)];have ea:(insertAt g m (κ.hash x,.ref r)).map (·.1)=(di (insertAt g m (κ.hash x,.ref r))).toArray:=by apply Array.toList_inj.mp;simp[di]
    rw[ea,er];have inr:∀k∈j.toList,k<(insertAt g m (κ.hash x,.ref r)).size:=λk O=>by rw[N];exact O4.mp (P.mem_iff.mp O)
    have eo:(j.filterMap λk=>(insertAt g m (κ.hash x,.ref r))[k]?).toList=j.toList.map λk=>(insertAt g m (κ.hash x,.ref r)).getD k (0,.none):=by
     rw[Array.toList_filterMap,pf inr]
    generalize a1:(j.filterMap λk=>(insertAt g m (κ.hash x,.ref r))[k]?)=L at *
    have z2:L.size=g.size+1:=by rw[<-J1,eo,E8,P.length_eq,aj7]
    refine o0 ?_;show J0 _ _ (do
     let a0:=j.filterMap λk=>(insertAt g m (κ.hash x,.ref r))[k]?
     if a0.size != (insertAt g m (κ.hash x,.ref r)).size then aq3 "internal:set-table-lost-an-element"
     af8 (a0,t3)) _ _ _
    dsimp only;rw[a1,if_neg (by rw[z2,N];simp)];refine E6 ?_;dsimp only;refine aj5 I rfl ?_ (aj6 (by unfold ae9;lia));have a8:=sD (h:=h1) I rfl L t3;refine E6 (h _ _ (J.trans (aa1 _ a _)) (λz=>absurd z hn) λ_=>⟨_,L,_,t3,j.toList.map λk=>(u.take m++x::u.drop m).getD k x,⟨a8,q.ex,rfl,?_,?_,?_,?_,?_,?_⟩,?_⟩)
    ·refine⟨by rw[z2,E8,P.length_eq,aj7],λi z G=>?_⟩;rw[F7]at G;cases c2:j.toList[i]? with
     |none=>rw[c2]at G;cases G
     |some k =>
      rw[c2]at G;have O:=inr k (K7 c2);have Z:k<(u.take m++x::u.drop m).length:=by rw[<-H.len];exact O
      obtain⟨v2,g2,q2⟩:=H.at_ k z (by rw[oQ Z x];exact G);refine⟨v2,?_,kp _ z v2 (J.trans (aa1 _ a _)) ?_⟩
      ·rw[<-R9,eo,F7,c2];simp[R4,g2]
      ·obtain⟨v3,g3,q3⟩:=(sX q.el hx pz).at_ k z (by rw[oQ Z x];exact G);rw[g2]at g3;cases g3;exact q3
    ·refine((P.map λk=>(u.take m++x::u.drop m).getD k x).nodup_iff).mpr ?_;rw[<-N,H.len,lE];exact U
    ·have:di L=j.toList.map λk=>(di (insertAt g m (κ.hash x,.ref r))).getD k 0:=by
      unfold di;rw[eo,Q9];refine W7 λk O=>?_;have O:=inr k O;simp[X8,O,List.getD]
     rw[this];exact T3
    ·rw[a4,ld];exact q.led
    ·have:=T;rw[ee]at this;rw[z2];lia
    ·right;have:=T;rw[ee]at this;rw[z2];rcases eb with eb|eb<;>lia
    ·refine(P.map _).trans ?_;rw[<-N,H.len,lE];exact Y
   ·rw[tf,decide_eq_false c];simp only[ak0,R8,F0,if_false];refine E6 (h _ _ J (λz=>absurd z hn) λ_=>⟨_,_,_,C,_,⟨I,q.ex,rfl,H,U,T2,by rw[ld];exact q.led,by rw[N,mk];lia,?_⟩,Y⟩);rw[mk,N];have:=q.small;lia
  rw[<-a3]at S
  by_cases pl:t1.plain=true
  ·rw[if_pos pl];refine o0 (κ.byV hr hx λb=>?_);cases b with
   |true=>simp only[if_true];exact go t1 S l1 m1 z1
   |false=>simp only[F0,if_false];exact go _ (S.plain false) l1 m1 z1
  ·rw[if_neg pl];refine o0 (E6 ?_);simp only[if_true];exact go t1 S l1 m1 z1
end L2
namespace L2
open PySem PySem.Spec PyProof.Rows PySem.SeqAt
inductive KD where
 |int (i:Int)|str (x:Str)|tup (ks:List KD)
 deriving Inhabited
def KAt(h:K3):Nat->KD->u8->Prop
 |_,.int i,v=>∃t,v=.int i t
 |_,.str x,v=>∃t,v=.str x t
 |0,.tup _,_=>False
 |n+1,.tup e,v=>∃(a:F4) (b:Array u8),v=.ref a/\al9 h a b/\b.size=e.length/\∀(i:Nat) d u,e[i]?=some d->b[i]?=some u->KAt h n d u
def hK(w:P7):Nat->KD->Int
 |_,.int i=>hashInt i
 |_,.str x=>hashStr w x
 |0,.tup _=>0
 |n+1,.tup a=>ar5 (S4 (a.map (hK w n)))
theorem sY{h:K3}{n:Nat}{i:Int}{v:u8}:KAt h n (.int i) v↔∃t,v=.int i t:=by cases n<;>exact .rfl
theorem tE{h:K3}{n:Nat}{i:Str}{v:u8}:KAt h n (.str i) v↔∃t,v=.str i t:=by cases n<;>exact .rfl
theorem vL{h h':K3}{a:F4}{b:Array u8}(t:al9 h a b)(k:∀o,o.cls=.type "tuple"->h.get? a=some o->h'.get? a=some o):al9 h' a b :=
 let⟨o,g,e,i⟩:=t
 ⟨o,k _ e g,e,i⟩
theorem KAt.upT{h h':K3}(k:∀b xs,al9 h b xs->al9 h' b xs):∀{n:Nat}{d:KD}{v:u8},KAt h n d v->KAt h' n d v:=by
 intro n
 induction n with
 |zero=>intro d v q;cases d<;>exact q
 |succ n ih =>
  intro d v q;cases d with
  |int _=>exact q
  |str _=>exact q
  |tup m =>
   obtain⟨a,g,e,t,z,r⟩:=q;exact⟨a,g,e,k a _ t,z,λi d u j l=>ih (r i d u j l)⟩
theorem KAt.up{h h':K3}(k:∀b o,o.cls=.type "tuple"->h.get? b=some o->h'.get? b=some o){n:Nat}{d:KD}{v:u8}(q:KAt h n d v):KAt h' n d v:=q.upT λb a t=>vL t (k b)
theorem KAt.same{h:K3}:∀(n:Nat) {d e:KD}{v:u8},KAt h n d v->KAt h n e v->d=e:=by
 intro n
 induction n with
 |zero =>
  intro d e v h1 h2;cases d with
  |int i=>cases e with
   |int j=>obtain⟨_,rfl⟩:=h1;obtain⟨_,z⟩:=h2;cases z;rfl
   |str j=>obtain⟨_,rfl⟩:=h1;obtain⟨_,z⟩:=h2;cases z
   |tup _=>exact h2.elim
  |str i=>cases e with
   |int j=>obtain⟨_,rfl⟩:=h1;obtain⟨_,z⟩:=h2;cases z
   |str j=>obtain⟨_,rfl⟩:=h1;obtain⟨_,z⟩:=h2;cases z;rfl
   |tup _=>exact h2.elim
  |tup _=>exact h1.elim
 |succ n ih =>
  intro d e v h1 h2;cases d with
  |int i=>cases e with
   |int j=>obtain⟨_,rfl⟩:=h1;obtain⟨_,z⟩:=h2;cases z;rfl
   |str j=>obtain⟨_,rfl⟩:=h1;obtain⟨_,z⟩:=h2;cases z
   |tup _=>obtain⟨_,rfl⟩:=h1;obtain⟨_,_,z,_⟩:=h2;cases z
  |str i=>cases e with
   |int j=>obtain⟨_,rfl⟩:=h1;obtain⟨_,z⟩:=h2;cases z
   |str j=>obtain⟨_,rfl⟩:=h1;obtain⟨_,z⟩:=h2;cases z;rfl
   |tup _=>obtain⟨_,rfl⟩:=h1;obtain⟨_,_,z,_⟩:=h2;cases z
  |tup t=>cases e with
   |int j=>obtain⟨_,rfl⟩:=h2;obtain⟨_,_,z,_⟩:=h1;cases z
   |str j=>obtain⟨_,rfl⟩:=h2;obtain⟨_,_,z,_⟩:=h1;cases z
   |tup B =>
    obtain⟨H,g,w,⟨o,s,L,c,E⟩,z,r⟩:=h1;obtain⟨G,m,C,⟨J,b,u,M,a⟩,I,A⟩:=h2;subst w;cases C;rw[s]at b;cases b;rw[E]at a;cases a;congr 1;refine aj4 λi=>?_;rcases P4 i t.length with q|q
    ·have p:i<B.length:=by lia
     rw[E4 q,E4 p];have l:i<g.size:=by lia
     exact congrArg some (ih (r i _ _ (E4 q) (N5 l)) (A i _ _ (E4 p) (N5 l)))
    ·rw[S0 q,S0 (by lia)]
def drK:Nat->KD->Nat
 |_,.int _=>1
 |_,.str _=>1
 |0,.tup _=>0
 |n+1,.tup a=>(a.map (drK n)).sum+1
section
variable{prog:K9}{w:P7}{A:M8}{E:u8->E9->Prop}{s:E9}
theorem KAt.eq:∀(n:Nat) {A:M8}{d e:KD}{v u:u8},A.units+n<af9->KAt s.heap n d v->KAt s.heap n e u->∃b:Bool,(b=true↔d=e)/\EqAt A s v u b:=by
 intro n
 induction n with
 |zero =>
  intro A d e v u hu q1 q2;cases d with
  |tup _=>exact q1.elim
  |int i=>obtain⟨t,rfl⟩:=q1;cases e with
   |tup _=>exact q2.elim
   |int j=>obtain⟨m,rfl⟩:=q2;exact⟨i==j,by simp,EqAt.int_int _ _ _ _⟩
   |str j=>obtain⟨m,rfl⟩:=q2;exact⟨false,by simp,EqAt.int_str _ _ _ _⟩
  |str i=>obtain⟨t,rfl⟩:=q1;cases e with
   |tup _=>exact q2.elim
   |int j=>obtain⟨m,rfl⟩:=q2;exact⟨false,by simp,EqAt.str_int _ _ _ _⟩
   |str j=>obtain⟨m,rfl⟩:=q2;exact⟨i==j,by simp,EqAt.str_str _ _ _ _⟩
 |succ n ih =>
  intro A d e v u hu q1 q2;cases d with
  |int i=>obtain⟨t,rfl⟩:=q1;cases e with
   |int j=>obtain⟨m,rfl⟩:=q2;exact⟨i==j,by simp,EqAt.int_int _ _ _ _⟩
   |str j=>obtain⟨m,rfl⟩:=q2;exact⟨false,by simp,EqAt.int_str _ _ _ _⟩
   |tup _=>obtain⟨a,g,rfl,t,_⟩:=q2;exact⟨false,by simp,EqAt.int_tuple _ _ t (by lia)⟩
  |str i=>obtain⟨t,rfl⟩:=q1;cases e with
   |int j=>obtain⟨m,rfl⟩:=q2;exact⟨false,by simp,EqAt.str_int _ _ _ _⟩
   |str j=>obtain⟨m,rfl⟩:=q2;exact⟨i==j,by simp,EqAt.str_str _ _ _ _⟩
   |tup _=>obtain⟨a,g,rfl,t,_⟩:=q2;exact⟨false,by simp,EqAt.str_tuple _ _ t (by lia)⟩
  |tup B =>
   obtain⟨a,g,rfl,w,O,N⟩:=id q1;cases e with
   |int j=>obtain⟨m,rfl⟩:=q2;exact⟨false,by simp,EqAt.tuple_int _ _ w (by lia)⟩
   |str j=>obtain⟨m,rfl⟩:=q2;exact⟨false,by simp,EqAt.tuple_str _ _ w (by lia)⟩
   |tup M =>
    obtain⟨b,l,rfl,H,P,J⟩:=id q2
    by_cases C:a=b
    ·subst C;exact⟨true,by simp[KAt.same (n+1) q1 q2],EqAt.same _⟩
    ·have item:∀j,∃b:Bool,∀(o:j<g.size) (p:j<l.size),(b=true↔B[j]?=M[j]?)/\EqAt A.in1 s g[j] l[j] b:=λj=>by
      by_cases o:j<g.size
      ·by_cases p:j<l.size
       ·obtain⟨b,I,G⟩:=ih (A:=A.in1) (show A.units+1+n<af9 by lia) (N j _ _ (E4 (by lia)) (N5 o)) (J j _ _ (E4 (by lia)) (N5 p));exact⟨b,λ_ _=>⟨by rw[E4 (by lia),E4 (by lia),I];simp,G⟩⟩
       ·exact⟨true,λ_ h=>absurd h p⟩
      ·exact⟨true,λh=>absurd h o⟩
     have L:=RcAt.tuples (A:=A) (s:=s) (e:=λj=>(item j).choose) w H (by lia) λj o p=>((item j).choose_spec o p).2;refine⟨_,?_,EqAt.of_refs C L⟩;rw[F8,J7,beq_iff_eq];constructor
     ·rintro⟨o,p⟩;congr 1;refine aj4 λi=>?_;rcases P4 i B.length with q|q
      ·exact((item i).choose_spec (by lia) (by lia)).1.mp (o i (O4.mpr (by lia)))
      ·rw[S0 q,S0 (by lia)]
     ·intro z;cases z;refine⟨λi E=>?_,by lia⟩;have E:=O4.mp E;exact((item i).choose_spec (by lia) (by lia)).1.mpr rfl
theorem KAt.hash:∀(n:Nat) {A:M8}{s:E9}{E:u8->E9->Prop}{d:KD}{v:u8}{Q:Int->E9->Prop},A.units+n<af9->KAt s.heap n d v->Q (hK w n d) { s with toks:=s.toks+drK n d }->J0 (L4 prog w) A (pyHash v) Q E s:=by
 intro n
 induction n with
 |zero =>
  intro A s E d v Q hu q h;cases d with
  |int i=>obtain⟨t,rfl⟩:=q;exact wpAny_pyHash_int h
  |str i=>obtain⟨t,rfl⟩:=q;exact wpAny_pyHash_str h
  |tup _=>exact q.elim
 |succ n ih =>
  intro A s E d v Q hu q h;cases d with
  |int i=>obtain⟨t,rfl⟩:=q;exact wpAny_pyHash_int h
  |str i=>obtain⟨t,rfl⟩:=q;exact wpAny_pyHash_str h
  |tup e =>
   obtain⟨a,j,rfl,N,z,r⟩:=q;obtain⟨o,I,J,c,M⟩:=N;have B:s.TypeIs (.ref a) "tuple":=⟨o,I,J⟩;have H:A.units<af9:=by lia
   unfold pyHash pyHashByItsType;refine o0 (wpAny_cRoomFor_or (.inr H) ?_);refine o0 (ai3 B af4.lookup ?_);show J0 _ _ (if(some (af1 "tuple.__hash__")==some J9)=true then _ else _) Q E s;rw[if_neg (by rw[beq_builtin_none];exact P6)];refine o0 (ai3 B af4.lookup ?_);show J0 _ _ (callSpecialIfBoundUnlessNone? (.ref a) "__hash__" _ >>= _) Q E s;refine o0 (wpAny_callSpecialIfBoundUnlessNone?_slot B af4 (aa4 af4 B F.entry_tuple_hash ?_ (F.args_tuple_hash_1 _)));show J0 _ _ (aa3 (.ref a) >>= _) _ _ s;refine o0 (wpAny_tupleItemsOf I M ?_);refine o0 ?_;rw[<-ai4];refine ad5 _ (λrest (b:Array Int) C=>∃m,m<=e.length/\rest=j.toList.drop m/\b.toList=(e.take m).map (hK w n)/\C={ s with toks:=s.toks+((e.take m).map (drK n)).sum }) _ ?_ ?_ _ _ ⟨0,P1 _,rfl,rfl,rfl⟩
   ·rintro x rest b C ⟨m,L,l,u,rfl⟩;have lt:m<j.size:=by
     rcases P4 m j.size with q|q
     ·exact q
     ·rw[ad7 (by rw[J1];exact q)]at l;cases l
    rw[X0 (by rw[J1];exact lt)]at l;obtain⟨rfl,rfl⟩:=ae8.inj l;have G:e[m]?=some (e[m]'(by lia)):=E4 _;refine o0 (ih (show A.in1.units+n<af9 by show A.units+1+n<af9;lia) (r m _ _ G (by rw[N5 lt];simp)) ?_);refine E6 ⟨m+1,by lia,rfl,?_,?_⟩
    ·rw[Array.toList_push,u,W8,G,L7];rfl
    ·rw[W8,G,L7,List.sum_append,<-ao7];simp
   ·rintro b C ⟨m,L,l,u,rfl⟩;have:m=e.length:=by
     rcases P4 m j.size with q|q
     ·rw[X0 (by rw[J1];exact q)]at l;cases l
     ·lia
    subst this;rw[ag5]at u ⊢;show J0 _ _ (retInt (S4 b.toList)) _ _ _;rw[u];refine wpAny_ret_mkInt ?_;show J0 _ _ (if(decide (-(2:Int) ^ 63<=S4 (e.map (hK w n)))&&decide (S4 (e.map (hK w n))<2 ^ 63))=true then _ else _) Q E _;have p:Q (ar5 (S4 (e.map (hK w n)))) { s with toks:=s.toks+((e.map (drK n)).sum+1) }:=h;rw[<-ao7]at p;unfold ar5 at p
    by_cases g:(decide (-(2:Int) ^ 63<=S4 (e.map (hK w n)))&&decide (S4 (e.map (hK w n))<2 ^ 63))=true
    ·rw[if_pos g];rw[if_pos g]at p;exact E6 p
    ·rw[if_neg g];rw[if_neg g]at p;exact o0 (al7 (E6 p))
end
section
variable{prog:K9}{w:P7}{A:M8}{E:u8->E9->Prop}{s:E9}
theorem rN{a:F4}{b:Array u8}{Q:Option (Array u8)->E9->Prop}(t:al9 s.heap a b)(h:Q (some b) s):J0 (L4 prog w) A (seqItems? (.ref a)) Q E s:=by
 obtain⟨o,e,i,c,g⟩:=t;unfold seqItems?;refine o0 (wpAny_load e ?_);rw[g];exact E6 h
theorem KAt.item{h:K3}{n:Nat}{e:List KD}{a:Array u8}(z:a.size=e.length)(r:∀(i:Nat) d u,e[i]?=some d->a[i]?=some u->KAt h n d u){x:u8}(g:x∈a.toList):∃k,KAt h n k x:=by
 obtain⟨i,b⟩:=ae6.mp g;rw[R9]at b;have lt:=(P0.mp b).1;exact⟨_,r i _ _ (E4 (by lia)) b⟩
theorem KAt.quiet:∀(f n:Nat) {k:KD}{v:u8}{Q:Bool->E9->Prop},n<=f->KAt s.heap n k v->Q true s->J0 (L4 prog w) A (eqIsQuiet f v) Q E s:=by
 intro f
 induction f with
 |zero =>
  intro n k v Q hn q h;obtain rfl:n=0:=by lia
  cases k with
  |int i=>obtain⟨t,rfl⟩:=q;exact E6 h
  |str i=>obtain⟨t,rfl⟩:=q;exact E6 h
  |tup _=>exact q.elim
 |succ f ih =>
  intro n k v Q hn q h;cases k with
  |int i=>obtain⟨t,rfl⟩:=sY.mp q;exact E6 h
  |str i=>obtain⟨t,rfl⟩:=tE.mp q;exact E6 h
  |tup G =>
   cases n with
   |zero=>exact q.elim
   |succ n =>
    obtain⟨a,e,rfl,l,z,r⟩:=q;have m:s.TypeIs (.ref a) "tuple":=by obtain⟨o,u,B,_⟩:=l;exact⟨o,u,B⟩
    unfold eqIsQuiet;refine o0 (ai3 m F.slot_tuple_eq.lookup ?_);show J0 _ _ (ar6 (.ref a) (.type "tuple") >>= _) _ _ s;refine o0 (wpAny_isInstance m isSubtype_tuple_tuple ?_);simp only[Z6,F0,if_false];refine o0 (rN l ?_);refine o0 ?_;show J0 _ _ (forIn e _ _) _ _ s;rw[<-ai4];refine ad5 _ (λrest b g=>g=s/\b=(none,())/\∀x∈rest,x∈e.toList) _ ?_ ?_ _ _ ⟨rfl,rfl,λ_ z=>z⟩
    ·rintro x rest b g ⟨rfl,rfl,j⟩;obtain⟨k,C⟩:=KAt.item z r (j x (.head _));refine o0 (ih n (by lia) C ?_);simp only[Z6,F0,if_false];exact E6 ⟨rfl,rfl,λy p=>j y (.tail _ p)⟩
    ·rintro b g ⟨rfl,rfl,_⟩;exact E6 h
theorem KAt.noCls:∀(f n:Nat) {k:KD}{v:u8}{Q:Bool->E9->Prop},n<=f->KAt s.heap n k v->Q false s->J0 (L4 prog w) A (ofAClassStatement f v) Q E s:=by
 intro f
 induction f with
 |zero =>
  intro n k v Q hn q h;obtain rfl:n=0:=by lia
  cases k with
  |int i=>obtain⟨t,rfl⟩:=q;exact E6 h
  |str i=>obtain⟨t,rfl⟩:=q;exact E6 h
  |tup _=>exact q.elim
 |succ f ih =>
  intro n k v Q hn q h;cases k with
  |int i=>obtain⟨t,rfl⟩:=sY.mp q;exact E6 h
  |str i=>obtain⟨t,rfl⟩:=tE.mp q;exact E6 h
  |tup G =>
   cases n with
   |zero=>exact q.elim
   |succ n =>
    obtain⟨a,g,rfl,l,z,r⟩:=q;have C:s.TypeIs (.ref a) "tuple":=by obtain⟨o,p,u,_⟩:=l;exact⟨o,p,u⟩
    unfold ofAClassStatement;refine o0 (an3 C ?_);dsimp only;rw[if_pos (by rfl)];refine o0 (E6 ?_);simp only[Z6,F0,if_false];refine o0 (rN l ?_);dsimp only;refine o0 ?_;rw[<-ai4];refine ad5 _ (λrest b e=>e=s/\b=(none,())/\∀x∈rest,x∈g.toList) _ ?_ ?_ _ _ ⟨rfl,rfl,λ_ z=>z⟩
    ·rintro x rest b e ⟨rfl,rfl,j⟩;obtain⟨k,B⟩:=KAt.item z r (j x (.head _));refine o0 (ih n (by lia) B ?_);simp only[F0,if_false];exact E6 ⟨rfl,rfl,λy m=>j y (.tail _ m)⟩
    ·rintro b e ⟨rfl,rfl,_⟩;exact E6 h
theorem KAt.byV:∀(f n:Nat) {k:KD}{v:u8}{Q:Bool->E9->Prop},KAt s.heap n k v->(∀b,Q b s)->J0 (L4 prog w) A (hashByValue f v) Q E s:=by
 intro f
 induction f with
 |zero =>
  intro n k v Q q h;cases k with
  |int i=>obtain⟨t,rfl⟩:=sY.mp q;exact E6 (h _)
  |str i=>obtain⟨t,rfl⟩:=tE.mp q;exact E6 (h _)
  |tup _=>cases n with
   |zero=>exact q.elim
   |succ n=>obtain⟨a,e,rfl,_⟩:=q;exact E6 (h _)
 |succ f ih =>
  intro n k v Q q h;cases k with
  |int i=>obtain⟨t,rfl⟩:=sY.mp q;exact E6 (h _)
  |str i=>obtain⟨t,rfl⟩:=tE.mp q;exact E6 (h _)
  |tup G =>
   cases n with
   |zero=>exact q.elim
   |succ n =>
    obtain⟨a,e,rfl,l,z,r⟩:=q;have C:s.TypeIs (.ref a) "tuple":=by obtain⟨o,p,u,_⟩:=l;exact⟨o,p,u⟩
    unfold hashByValue;refine o0 (ai3 C af4.lookup ?_);dsimp only;refine o0 (rN l ?_);refine o0 ?_;show J0 _ _ (forIn e _ _) _ _ s;rw[<-ai4];refine ad5 _ (λrest b g=>g=s/\b=(none,())/\∀x∈rest,x∈e.toList) _ ?_ ?_ _ _ ⟨rfl,rfl,λ_ z=>z⟩
    ·rintro x rest b g ⟨rfl,rfl,j⟩;obtain⟨k,B⟩:=KAt.item z r (j x (.head _));refine o0 (ih n B λb=>?_);cases b with
     |true =>
      simp only[Z6,F0,if_false];exact E6 ⟨rfl,rfl,λy m=>j y (.tail _ m)⟩
     |false =>
      simp only[ak0,if_true];exact E6 (E6 (h _))
    ·rintro b g ⟨rfl,rfl,_⟩;exact E6 (h _)
end
def oJ(h0 h:K3):Prop:=∀b o,h0.get? b=some o->h.get? b=some o
theorem KAt.kept{h0 h:K3}{n:Nat}{d:KD}{v:u8}(q:KAt h0 n d v)(k:oJ h0 h):KAt h n d v:=q.up λb o _ e=>k b o e
def tK(prog:K9)(w:P7)(n:Nat)(hn:n<=8)(h0:K3)(V:u8->Prop):TK prog w (List KD) where
 is h ks v:=oJ h0 h/\KAt h0 n (.tup ks) v/\V v
 hash ks:=hK w n (.tup ks)
 room A:=A.units+n<af9
 pyHash hr g h:=KAt.hash n hr (g.2.1.kept g.1) (h _ (Nat.le_add_right _ _))
 eqB hr g hy:=by
  obtain⟨b,i,j⟩:=KAt.eq n hr (g.2.1.kept g.1) (hy.2.1.kept hy.1);exact⟨b,by rw[i];simp,j⟩
 quiet _ g h:=KAt.quiet 8 n hn (g.2.1.kept g.1) h
 noCls _ g h:=KAt.noCls 8 n hn (g.2.1.kept g.1) h
 byV _ g h:=KAt.byV 8 n (g.2.1.kept g.1) h
 ref {h x v} g:=by
  obtain⟨_,g,_⟩:=g;cases n with
  |zero=>exact g.elim
  |succ n=>obtain⟨a,_,e,_⟩:=g;exact⟨a,e⟩
end L2
namespace L2
open PySem PySem.Spec PyProof.Rows
open Classical in
def e9{a:Type}(xs:List a)(x:a):List a:=if x∈xs then xs else xs++[x]
def gG{a:Type}(xs:List a):List a:=xs.foldl e9 []
section
variable{g:Type}
theorem u6(xs:List g)(x:g):(e9 xs x).length<=xs.length+1:=by unfold e9;split<;>simp
theorem mV:∀(xs a:List g),(xs.foldl e9 a).length<=a.length+xs.length
 |[],_=>F6 _
 |x::xs,a=>by
  have:=mV xs (e9 a x);have:=u6 a x;simp only[X3,O0];lia
theorem qJ(xs:List g):(gG xs).length<=xs.length:=by have:=mV xs [];simpa[gG]using this
theorem u7(xs:List g)(i:Nat)(h:i<xs.length):gG (xs.take (i+1))=e9 (gG (xs.take i)) xs[i]:=by
 rw[List.take_succ_eq_append_getElem h,gG,List.foldl_append];rfl
end
section
variable{prog:K9}{w:P7}{A:M8}{R:as3->E9->Prop}{I:F4}{p g:List F4}{G:Array al3->Array al3->Prop}{P:Nat->u8->Prop}{St:Nat->E9->Prop}
theorem Et{V:u8->Prop}{n:Nat}{hn:n<=8}{h0:K3}{xs:List (List KD)}(W:WalksS prog w A.in1 I p g G xs.length P St)(S:F4)(J:S∉p)
  (B:∀b∈S::g,h0.get? b=none) (hu:A.in1.units+n<af9) (L:∀i v (h:i<xs.length),P i v->KAt h0 n (.tup xs[i]) v/\V v) (H:xs.length<1000) :
  ∀(k i:Nat) (s:E9),xs.length-i=k->i<=xs.length->St i s->oJ h0 s.heap->jF (tK prog w n hn h0 V) s.heap S (gG (xs.take i)) ->
   (∀s',Moved (S::g) G s s'->oJ h0 s'.heap->jF (tK prog w n hn h0 V) s'.heap S (gG xs)->R (.ok (.ret .none)) s') ->
   am1 (L4 prog w) A (.builtin "set.update.loop" ⟨[.ref S,.ref I],[]⟩) R s:=by
 have U:S∉g:=λh=>J (W.sub _ h);have j:∀b∈g,b∈S::g:=λb H=>K6 _ H;intro k
 induction k with
 |zero =>
  intro i s hk hi C hK Y Z;have a3:i=xs.length:=by lia
  subst a3;refine U8 ad0 ?_;rw[W0 V9 _];show J0 _ A.in1 (aq6 (.ref I) >>= _) _ _ s;refine o0 (W.done s _ _ C λs' u=>?_);show J0 _ A.in1 (ret J9) _ _ s';rw[ag5]at Y;have a:oJ h0 s'.heap:=λb o e=>u.heap b o (λq=>by rw[B b (j b q)]at e;cases e) (hK b o e);exact E6 (Z s' (u.mono j) a (Y.mono (λo e=>u.heap S _ U e) λz v q=>⟨a,q.2⟩))
 |succ k ih =>
  intro i s hk hi C hK Y Z;have l:i<xs.length:=by lia
  refine U8 ad0 ?_;rw[W0 V9 _];show J0 _ A.in1 (aq6 (.ref I) >>= _) _ _ s;refine o0 (W.item i s _ _ l C λv s' hP T u=>?_);have hx:=L i v l hP;have a:oJ h0 s'.heap:=λb o e=>u.heap b o (λq=>by rw[B b (j b q)]at e;cases e) (hK b o e);have a1:jF (tK prog w n hn h0 V) s'.heap S (gG (xs.take i)):=Y.mono (λo e=>u.heap S _ U e) λz v q=>⟨a,q.2⟩;show J0 _ A.in1 (ak9 [v] (setAdd S v) >>= _) _ _ s';refine o0 (N6 ?_);unfold setAdd;refine N6 ?_;refine o0 ((tK prog w n hn h0 V).pyHash (x:=xs[i]) hu ⟨a,hx⟩ λtk X=>?_);have t:(gG (xs.take i)).length<1000:=by have:=qJ (xs.take i);rw[O7]at this;lia
  have O:∀m,Q4 S s'.heap m->oJ h0 m:=λm sb b o e=>by
   rw[sb.2 b λz=>by rw[z,B S (.head _)]at e;cases e];exact a b o e
  refine EW (s:={ s' with toks:=tk }) (κ:=tK prog w n hn h0 V) hu ⟨a,hx⟩ a1 t (λm z v sb q=>⟨O m sb,q.2⟩) λb m E y1 y2=>?_;have a2:jF (tK prog w n hn h0 V) m S (gG (xs.take (i+1))):=by
   rw[u7 xs i l];unfold e9
   split
   ·rename_i c;exact y1 c
   ·rename_i c;exact y2 c
  refine E6 ⟨al6 V9 _,ih (i+1) _ (by lia) l (W.frame _ s' _ _ T X λb H o e=>?_) (O m E) a2 λa0 M N Q=>?_⟩
  ·rw[E.2 b (λh:b=S=>J (by rw[<-h];exact H))];exact e
  ·refine Z a0 (Moved.trans W.gtrans ((u.mono j).then_heap X λb o H e=>?_) M) N Q;rw[E.2 b (λh:b=S=>H (by rw[h];exact Q0))];exact e
end
section
variable{prog:K9}{w:P7}{A:M8}{E:u8->E9->Prop}{s:E9}
theorem AZ{V:u8->Prop}{n:Nat}{hn:n<=8}{h0 h:K3}{a:F4}(g:h.get? a=some (eR w)):jF (tK prog w n hn h0 V) h a [] :=
 ⟨_,#[],0,_,[],⟨g,⟨rfl,rfl,rfl⟩,rfl,⟨rfl,λi z b=>by simp at b⟩,.nil,⟨rfl,λi j _ l=>by simp[ak1]at l,λi e=>by simp[ak1]at e,rfl,⟨3,by lia,rfl⟩,by simp[ak1],λi h q=>by simp[di]at q⟩,rfl,by simp[ak1],.inl (by simp[ak1])⟩,.refl _⟩
end
end L2
namespace L2
open PySem PySem.Spec PyProof.Rows PySem.SeqAt
mutual
def Cm:KD->KD->Prop
 |.int _,.int _=>True
 |.str _,.str _=>True
 |.tup a,.tup b=>Cms a b
 |_,_=>False
def Cms:List KD->List KD->Prop
 |a::e,b::bs=>Cm a b/\Cms e bs
 |_,_=>True
end
end L2
namespace L2
open PySem PySem.W PySem.Calls PyProof.Rows PySem.SeqAt
end L2
namespace L2
open PySem PySem.Spec PyProof.Rows PySem.Calls PySem.SeqAt
mutual
def kd:KD->D
 |.int i=>.int i
 |.str x=>.str x
 |.tup a=>.tup (kds a)
def kds:List KD->List D
 |[]=>[]
 |k::a=>kd k::kds a
end
theorem om:∀a,kds a=a.map kd
 |[]=>by simp[kds]
 |k::a=>by simp[kds,om a]
mutual
theorem AY:∀{a b:KD},kd a=kd b->a=b
 |.int _,.int _,h=>by simp[kd]at h;rw[h]
 |.int _,.str _,h=>by simp[kd]at h
 |.int _,.tup _,h=>by simp[kd]at h
 |.str _,.int _,h=>by simp[kd]at h
 |.str _,.str _,h=>by simp[kd]at h;rw[h]
 |.str _,.tup _,h=>by simp[kd]at h
 |.tup _,.int _,h=>by simp[kd]at h
 |.tup _,.str _,h=>by simp[kd]at h
 |.tup a,.tup b,h=>by simp only[kd,D.tup.injEq]at h;rw[oo h]
theorem oo:∀{a b:List KD},kds a=kds b->a=b
 |[],[],_=>rfl
 |[],_::_,h=>by simp[kds]at h
 |_::_,[],h=>by simp[kds]at h
 |a::e,b::bs,h=>by
  simp only[kds,X4]at h;rw[AY h.1,oo h.2]
end
def nJ(a:List KD):D:=.tup (kds a)
theorem pT{a b:List KD}(h:nJ a=nJ b):a=b:=oo (by simpa[nJ]using h)
def dpK:Nat->KD->Prop
 |_,.int _=>True
 |_,.str _=>True
 |0,.tup _=>False
 |n+1,.tup a=>∀k∈a,dpK n k
section
variable{X:Cx}{p:List (F4×Obj)}{s:E9}{σ:St}{H:Hp}{M:DH}{K:E5}
theorem zd(I:Inv X p σ H s):∀(n:Nat) {k:KD}{v:V}{u:u8},dpK n k->Rep X.K M H (kd k) v->aM v u->KAt s.heap n k u:=by
 intro n
 induction n with
 |zero =>
  intro k v u hd r q;cases k with
  |int i=>simp only[kd,Rep]at r;subst r;exact q
  |str i=>simp only[kd,Rep]at r;subst r;exact q
  |tup _=>exact hd.elim
 |succ n ih =>
  intro k v u hd r q;cases k with
  |int i=>simp only[kd,Rep]at r;subst r;exact q
  |str i=>simp only[kd,Rep]at r;subst r;exact q
  |tup A =>
   simp only[kd,Rep]at r;obtain⟨a,B,rfl,t,j⟩:=r;cases q;obtain⟨b,h,w,z⟩:=I.tuple t.sq;refine⟨a,b.toArray,rfl,w,?_,λi d u e l=>?_⟩
   ·rw[F1,<-h.length,<-j.length,om,E8]
   ·obtain⟨v,g,r⟩:=j.get (i:=i) (d:=kd d) (by rw[om,F7,e];rfl);obtain⟨C,m,o⟩:=h.get g;rw[List.getElem?_toArray,m]at l;cases l;exact ih (hd d (K7 e)) r o
theorem wU(I:Inv X p σ H s){n:Nat}{b:List (List KD)}{h:List V}{a:List u8}(t:∀k∈b,dpK n (.tup k))(q:ao X.K M H (b.map nJ) h)(o:aw h a){i:Nat}{k:List KD}{u:u8}(e:b[i]?=some k)(j:a[i]?=some u):KAt s.heap n (.tup k) u:=by
 obtain⟨v,g,r⟩:=q.get (i:=i) (d:=nJ k) (by rw[F7,e];rfl);obtain⟨w,l,m⟩:=o.get g;rw[l]at j;cases j;exact zd I n (k:=.tup k) (t k (K7 e)) (by simp only[kd];exact r) m
theorem evD{a:N1}{m:TEd}{l:DE}{R:D->DH->Prop}{Q:u8->E9->Prop}(ha:PEd X a m)(I:Inv X p σ H s)(n:SR X.K M H σ l)(hr:HR X.K M H)(q:m l M R)
  (k:∀u g v b x M1,Inv X p σ b g->aM v u->R x M1->HR X.K M1 b->Rep X.K M1 b x v->Ext M H M1 b->Q u g):J0 (L4 X.prog X.w) X.A (aa2 a X.env) Q X.xe s :=
 thn (ha p s σ H (λv b=>∃x M1,R x M1/\HR X.K M1 b/\Rep X.K M1 b x v/\Ext M H M1 b) I ⟨l,M,R,n,hr,q,λx M1 v b h i e j=>⟨x,M1,h,e,j,i⟩⟩) λu g ⟨v,b,o,t,x,M1,h,e,j,i⟩=>k u g v b x M1 o t h e j i
end
end L2
namespace L2
open PySem PySem.Spec PyProof.Rows PySem.Calls PySem.SeqAt PySem.W
open Classical in
instance decKs:DecidableEq (List KD):=λ_ _=>propDecidable _
end L2
namespace L2
open PySem PySem.Spec PyProof.Rows PySem.Calls PySem.SeqAt
end L2
namespace L2
open PySem PySem.Spec PyProof.Rows
end L2
namespace L2
open PySem PySem.Spec PyProof.Rows PySem.Calls PySem.SeqAt
end L2
namespace L2
open PySem PySem.Spec PyProof.Rows
section
variable{prog:K9}{w:P7}{A:M8}{E:u8->E9->Prop}{s:E9}
theorem qY{n:Nat}{hn8:n<=8}{l:F4}{a:Array u8}{xs:List (List KD)}{Q:u8->E9->Prop}
  (hh:A.handled=none) (hu:A.units+n+8<af9) (hl:s.heap.IsTuple l a) (hn:a.size=xs.length) (hi:∀(i:Nat) k u,xs[i]?=some k->a[i]?=some u->KAt s.heap n (.tup k) u) (q:xs.length<1000)
  (h:∀(h':K3) (P:Nat),jF (tK prog w n hn8 s.heap (·∈a)) h' s.heap.objs.size (gG xs)->oJ s.heap h'->Q (.ref s.heap.objs.size) { s with heap:=h',toks:=P }) :
  J0 (L4 prog w) A (ar9 (.type "set") [.ref l]) Q E s:=by
 obtain⟨c,tl,a9⟩:=N7.mro;have U:=N7.made;have a':=N7.sub;refine ad6 (am4 ?_);show J0 _ _ (callAny (.type "set") _) _ _ _;refine E6 ⟨ad8 _ (by decide +kernel),U8 PySem.F.entry_type_call ?_⟩;rw[M8.under_plain (weight_type_call_type "set" [.ref l] []) rfl];have h1:=N7.notType;have h2:=N7.canCreate;have b4:=PySem.F.typeCall_set_1 (.ref l)
 repeat (any_goals (first|assumption|wp_step))
 refine ac5 (qA (.ref l) (E:=E) (Q₁:=λN p=>N=.ref s.heap.objs.size/\p={ s with heap:=s.heap.push (eR w) }) ⟨rfl,rfl⟩) λr p hr=>?_;cases r with
 |error e=>exact hr
 |ok fl =>
  cases fl with
  |ret N =>
   obtain⟨rfl,rfl⟩:=hr;have hS:(s.heap.push (eR w)).get? s.heap.objs.size=some (eR w):=K1 _ rfl;have hT:E9.TypeIs { s with heap:=s.heap.push (eR w) } (.ref s.heap.objs.size) "set":=⟨_,hS,rfl⟩;have b2:=N7.init.lookup;have b3:=N7.init.bind (.ref s.heap.objs.size)
   repeat (any_goals (first|assumption|wp_step))
   refine ac5 (W1 (R:=wants (λr m=>r=.none/\∃h' P,m={ s with heap:=h',toks:=P } /\
     jF (tK prog w n hn8 s.heap (·∈a)) h' s.heap.objs.size (gG xs)/\oJ s.heap h') E) N7.init.plain PySem.F.entry_set_init (check_set_init_1 hT ?_)) λH m g=>?_
   ·obtain⟨ol,L,M,nl,J⟩:=hl;obtain⟨b0,B,a0,j⟩:=ol;simp only at M J;subst M;subst J;have G:(s.heap.push (eR w)).get? l=some { cls:=.type "tuple",dict:=B,data:=.seq a nl,slots:=j }:=E7 _ L;have a4:=PySem.F.sub_tuple_set;have a8:=PySem.F.sub_tuple_frozenset;have b1:(N3 "tuple"==N3 "dict")=false:=by decide
    have I:(s.heap.push (eR w)).IsTuple l a:=⟨_,G,rfl,nl,rfl⟩;unfold M7.«set.__init__» noKeywords M7.Frozenset.updateFrom;generalize a3:as9=PI
    wp_walk
    subst a3;refine wpAny_pyIter_tuple I ?_;refine o0 (wpAny_runValue ?_);have O:l<s.heap.objs.size:=I0 L;have Z:A.in1.in1.in1.handled=none:=by simp[hh]
    have C:l≠(s.heap.push (eR w)).objs.size:=by
     rw[ab3];exact K8 (U0 O)
    have S:s.heap.objs.size∉[(s.heap.push (eR w)).objs.size,l]:=by
     rw[ab3];simp only[J3,L6,T7,or_false,not_or];exact⟨K8 (ad4 _),ae1 O⟩
    have W:=(Walks.tuple (prog:=prog) (w:=w) Z _ l C a).toS;rw[hn]at W;have frs:∀b,s.heap.objs.size<=b->s.heap.get? b=none:=λb q=>S5 q;refine Et (V:=(·∈a)) (n:=n) (hn:=hn8) (h0:=s.heap) (xs:=xs) W s.heap.objs.size S (λb q=>?_) (show A.units+1+1+1+n<af9 by lia) (λi v a1 hv=>⟨hi i _ _ (E4 a1) hv,Array.mem_of_getElem? hv⟩) q (xs.length-0) 0 _ (by lia) (P1 _) ?St0 ?hK0 ?hS0 ?hR
    case St0=>exact⟨⟨_,K1 _ rfl,rfl,rfl⟩,(I.push _)⟩
    ·rcases J3.mp q with rfl|q
     ·exact frs _ (F6 _)
     ·rw[L6.mp q,ab3];exact frs _ (aj3 _)
    case hK0=>exact λb o e=>E7 _ (E7 _ e)
    case hS0=>exact AZ (E7 _ hS)
    case hR =>
     intro s' hm T z;obtain⟨h',g',d',X,Y⟩:=s';have eg:g'=s.gens:=hm.gens;have ed:d'=s.drawn:=hm.drawn;have eo:Y=s.os:=hm.os;subst eg;subst ed;subst eo;show J0 _ _ _ _ _ _;refine E6 ?_;show J0 _ _ (ret J9) _ _ _;exact E6 ⟨rfl,h',X,rfl,z,T⟩
   ·cases H with
    |error e=>exact g
    |ok t =>
     cases t with
     |ret r =>
      obtain⟨rfl,h',P,rfl,z,a2⟩:=g
      repeat (any_goals (first|assumption|wp_step))
      exact h _ _ z a2
     |_=>exact g.elim
  |_=>exact hr.elim
end
section
open PySem.Calls PySem.SeqAt
variable{X:Cx}{g:List (F4×Obj)}{s:E9}{σ:St}{H:Hp}{M:DH}{K:E5}
end
end L2
namespace L2
open PySem PySem.Spec PyProof.Rows PySem.Calls PySem.SeqAt
section
variable{X:Cx}{p:List (F4×Obj)}{s:E9}{σ:St}{H:Hp}{M:DH}{K:E5}
def dLS(e:TEd):TEd:=λg M Q=>e g M λx M1=>(∃a:List (List KD),rdM M1 x=.tup (a.map nJ)/\(∀k∈a,dpK 8 (.tup k))/\a.length<1000/\Q (.int ((gG a).length:Nat)) M1)∨(∃b:List Str,rdM M1 x=.lst (b.map .str)/\b.length<1000/\Q (.int ((fc b).length:Nat)) M1)
theorem Df{a:N1}{ta:TEd}{p0 p1 q0 E:Pos}(hc:X.calm=true)(hu:X.A.units+64<af9)(a1:Gl X "len")(a4:X.mg "len"=none)(hg:Gl X "set")(hm:X.mg "set"=none)(ha:QEd X a ta)
  (G:F3 [.Call (.Name "set" p1) [a] [] E] X.env=(false,aa2 (.Call (.Name "set" p1) [a] [] E) X.env)::F3 [] X.env:=by rfl)
  (J:F3 [a] X.env=(false,aa2 a X.env)::F3 [] X.env:=by rfl)
  (T:(U6 q0 (F3 [] X.env)).any (·.1)=false:=by rfl) (a0:(U6 E (F3 [] X.env)).any (·.1)=false:=by rfl) :
  QEd X (.Call (.Name "len" p0) [.Call (.Name "set" p1) [a] [] E] [] q0) (dLS ta):=by
 simp only[QEd.eq]at *
 intro p s σ H Q I ⟨Δ,M,R,sr,hr,q,k⟩;refine V5 (jV I a1 a4 (u:=.builtin "len") (by kernel_rfl) ?_ (by decide) (by decide));refine PyProof.Rows.callWith_builtin1 ?_ G T;rw[G];show J0 _ _ (spliced ((false,aa2 _ X.env)::U6 q0 (F3 [] X.env))) _ _ s;refine Calls.spliced_cons ?_;refine V5 (jV I hg hm (u:=.type "set") (by kernel_rfl) ?_ (by decide) (by decide));refine PyProof.Rows.callWith_type1 ?_ J a0;rw[J];show J0 _ _ (spliced ((false,aa2 a X.env)::U6 E (F3 [] X.env))) _ _ s;refine Calls.spliced_cons (evD ha I sr hr q λu L v S x M1 w r1 hx z a3 e1=>?_);have O:=a3.rd z;refine ai8 ?_;rcases hx with⟨P,ex,Z,hl,q2⟩|⟨m,ex,hl,q2⟩
 ·rw[ex]at O;obtain⟨l,vs,rfl,sq,C⟩:=O;cases r1;obtain⟨j,b,pl,hz⟩:=w.tuple sq;have hn:P.length=j.length:=by rw[<-b.length,<-C.length,E8]
  have Y:∀(i:Nat) k u,P[i]?=some k->j[i]?=some u->KAt L.heap 8 (.tup k) u:=λi k u h1 h2=>wU w Z C b h1 h2;refine qY (n:=8) (hn8:=F6 _) (w.ok.hd hc) (by lia) pl (by simp[hn]) (λi k u h1 h2=>Y i k u h1 (by simpa using h2)) hl λN B hS kp=>?_;refine ai8 ?_;obtain⟨o,U,ep,t,zs,h,pm⟩:=hS;have A:U.size=(gG P).length:=by rw[h.el.len,pm.length_eq]
  have I2:Inv X p σ S { L with heap:=N,toks:=B }:=w.kept kp;have a2:=qJ P;refine call_len_set (s:={ L with heap:=N,toks:=B }) h.get h.ex h.data h.tb.fit (by lia) ?_;rw[A];exact⟨.int _,S,I2.tok _,⟨_,rfl⟩,k _ _ _ _ q2 e1 z (by simp only[Rep])⟩
 ·rw[ex]at O;obtain⟨l,vs,rfl,sq,C⟩:=O;cases r1;obtain⟨j,b,pl,hz⟩:=w.list (SqL.of sq);have hn:m.length=j.length:=by rw[<-b.length,<-C.length,E8]
  refine u3 (xs:=m) (w.ok.hd hc) pl.isList (by simp[hn]) (λi hi=>?_) (by unfold ae9;lia) λN B hS kp=>?_
  ·obtain⟨v,g,r⟩:=C.get (i:=i) (d:=.str m[i]) (by rw[F7,E4 hi];rfl);obtain⟨u,g',r'⟩:=b.get g;simp only[Rep]at r;subst r;obtain⟨t,rfl⟩:=r';exact⟨t,by simpa using g'⟩
  refine ai8 ?_;obtain⟨o,U,ep,t,h,pm⟩:=hS;have A:U.size=(fc m).length:=by
   have:=pm.length_eq;rw[E8,J1]at this;exact this
  have I2:Inv X p σ S { L with heap:=N,toks:=B }:=w.kept kp;have a2:(fc m).length<=m.length:=by have:=jH m [];simpa[fc]using this
  refine call_len_set (s:={ L with heap:=N,toks:=B }) h.get h.ex h.data h.fit (by lia) ?_;rw[A];exact⟨.int _,S,I2.tok _,⟨_,rfl⟩,k _ _ _ _ q2 e1 z (by simp only[Rep])⟩
end
end L2
namespace L2
open PySem PySem.Spec PyProof.Rows PySem.Builtin PySem.Builtin.Str StrLaws
end L2
namespace L2
open PySem PySem.Spec PyProof.Rows
open AutoSeq1 (wpAny_loadPart')
def jG(a:Obj->Prop):Prop:=∀o v,a o->a (o.mapFields (·.setIfInBounds 1 v))
def yz(h base:K3)(e:F4)(j:Obj->Prop)(l:u8):Prop :=
 ∃a g T b i,h.get? e=some a/\j a/\a.data=.fields g/\g[1]?=some (.ref T)/\base.get? T=none/\T≠e/\h.get? T=some b/\b.data=.fields i/\i[3]?=some l
def GoX(base:K3)(l:List Env)(e:F4)(a:Obj->Prop)(b:u8)(h h':K3):Prop:=base.StaysIn h'/\h'.FunFrames base l/\yz h' base e a b/\h.UpToSlots h'
section
variable{M:ar7}{A:M8}{E:u8->E9->Prop}{s:E9}{base:K3}{env:Env}{g l:List Env}{L e:F4}{p:Obj->Prop}{Q:Unit->E9->Prop}
theorem vI{R:Obj}{z:Array u8}{m:u8}{t:Bool}(st:jG p)
  (a2:A.frames=some (env::g)) (O:s.heap.FunFrames base (env::g)) (hf:env.frame=some L)
  (he:s.heap.get? e=some R) (S:base.StaysIn s.heap) (Z:base.get? e=none) (P:R.data=.fields z) (hsz:1<z.size) (h0:p R)
  (h:∀h',GoX base (env::g) e p (ap8 L) s.heap h'->Q () { s with heap:=h' }) :
  J0 M A (do let a <-frameOf env;let pl <-entryPlaceOf L t;let b <-EntryCells.newEntry m a .none (ap8 L) .none pl;setField (.ref e) 1 b) Q E s:=by
 have J:e∉(env::g).filterMap (·.frame):=λX=>by
  obtain⟨_,o,ho,i⟩:=O.mem X;rw[he]at ho;cases ho;exact i z P
 refine o0 (wpAny_frameOf_fun a2 O hf λl w=>?_);refine o0 (wpAny_entryPlaceOf λpl a0=>?_);unfold EntryCells.newEntry newFields;refine o0 (V0 ?_ (a0.sizeOk5 _ _ _ _ _));have I:l.get? e=some R:=(w.2.1 e J).trans he;have G:base.StaysIn l:=λb o j=>(w.2.1 b λX=>by rw[(O.mem X).1]at j;cases j).trans (S b o j);have C:([m,.ref L,.none,ap8 L,.none]++(if pl.isEmpty then F5 6 J9 else pl)).toArray[3]?=some (ap8 L):=by simp
 generalize ([m,.ref L,.none,ap8 L,.none]++(if pl.isEmpty then F5 6 J9 else pl)).toArray=T at C ⊢;have N:=E7 (h:=l) { cls:=.type "traceback",dict:=none,data:=.fields T } I;refine wpAny_setField N P hsz (h _ ?_);have B:l.objs.size≠e:=ae1 (I0 I);have H:=ai5 P (·.setIfInBounds 1 (J6 l.objs.size));have a3:=P3 (X1 (·.setIfInBounds 1 (J6 l.objs.size))) N (Obj.isFreed_of_fields H);have a1:=(L5 (l.push { cls:=.type "traceback",dict:=none,data:=.fields T }) (X1 (·.setIfInBounds 1 (J6 l.objs.size))) (U2 B)).trans (K1 l rfl);have keep:∀b o,b≠e->l.get? b=some o->((l.push { cls:=.type "traceback",dict:=none,data:=.fields T }).update e (X1 (·.setIfInBounds 1 (J6 l.objs.size)))).get? b=some o:=λb o Y u=>by
  rw[L5 _ _ (U2 Y)];exact E7 _ u
 have n:∀b o,s.heap.get? b=some o->(∀z,o.data≠.fields z)->b≠e:=λb o u i q=>by
  rw[q,he]at u;cases u;exact i z P
 refine⟨λb o j=>keep b o (λq=>by rw[q,Z]at j;cases j) (G b o j),O.of_keeps λb o u i=>?_,?_,λb o u i=>?_⟩
 ·obtain⟨sl,U⟩:=w.2.2 b o u;exact⟨_,keep b _ (n b o u i) U,rfl⟩
 ·exact⟨_,_,l.objs.size,_,_,a3,st _ _ h0,H,by simp[hsz],G.fresh,B,a1,rfl,C⟩
 ·obtain⟨sl,U⟩:=w.2.2 b o u;exact⟨sl,keep b _ (n b o u i) U⟩
theorem oE{P:u8}(z:base.StaysIn s.heap)(O:s.heap.FunFrames base l)(L:yz s.heap base e p P)(h:∀h',GoX base l e p .none s.heap h'->Q () { s with heap:=h' }):J0 M A (setFlight (.ref e) none) Q E s:=by
 obtain⟨S,B,T,U,H,G,N,J,I,u,w,C,m,R⟩:=L;have n:3<H.size:=(P0.mp R).1;have a:∀b,b≠T->(s.heap.update T (X1 λx=>x.setIfInBounds 3 J9)).get? b=s.heap.get? b:=λb j=>L5 _ _ (U2 j);have i:∀b o,s.heap.get? b=some o->(∀B,o.data≠.fields B)->b≠T:=λb o j g q=>by
  rw[q,C]at j;cases j;exact g H m
 refine wpAny_setFlight_none G J I C m n (h _ ⟨λb o t=>(a b λq=>by rw[q,u]at t;cases t).trans (z b o t),O.of_keeps λb o j g=>⟨o,(a b (i b o j g)).trans j,rfl⟩,?_,λb o j g=>⟨o.slots,(a b (i b o j g)).trans j⟩⟩);exact⟨S,B,T,_,_,(a e (U2 w)).trans G,N,J,I,u,w,P3 _ C (Obj.isFreed_of_fields (ai5 m _)),ai5 m _,by simp[n]⟩
theorem qf{j:Obj}{m:Array u8}(st:jG p)(i:A.frames=some (env::g))(G:s.heap.FunFrames base (env::g))(o:env.frame=some L)
  (he:s.heap.get? e=some j) (a:base.StaysIn s.heap) (b:base.get? e=none) (n:j.data=.fields m) (l:m[1]?=some .none) (h0:p j)
  (h:∀h',GoX base (env::g) e p .none s.heap h'->Q () { s with heap:=h' }):J0 M A (leaving env (.ref e)) Q E s:=by
 unfold leaving aq9;simp only[o];refine o0 (o0 (ae4 he n l ?_));rw[if_neg (by decide)];exact vI st i G o he a b n (P0.mp l).1 h0 λJ ⟨q,C,H,t⟩=>oE q C H λu ⟨z,B,I,w⟩=>h u ⟨z,B,I,t.trans w⟩
theorem zZ(st:jG p)(z:A.frames=some (env::g))(Z:s.heap.FunFrames base (env::g))(O:env.frame=some L)(R:yz s.heap base e p .none)(t:base.StaysIn s.heap)(u:base.get? e=none)
  (h:∀h',GoX base (env::g) e p (ap8 L) s.heap h'->Q () { s with heap:=h' }):J0 M A (aq9 (.ref e) env) Q E s:=by
 obtain⟨oe,J,T,oT,U,I,X,N,G,w,C,B,m,H⟩:=R;unfold aq9;simp only[O];refine o0 (ae4 I N G ?_);rw[if_pos (show(J6 T != J9)=true from by simp)];refine o0 (ae4 B m H ?_);rw[if_neg (show ¬ ((J9==ap8 L)=true)from by simp[ap8])];refine o0 (wpAny_setField B m (P0.mp H).1 ?_);have a:∀b,b≠T->(s.heap.update T (X1 (·.setIfInBounds 3 J9))).get? b=s.heap.get? b:=λb l=>L5 _ _ (U2 l);have j:∀b o,s.heap.get? b=some o->(∀J,o.data≠.fields J)->b≠T:=λb o l i q=>by
  rw[q,B]at l;cases l;exact i U m
 refine vI st z (Z.of_keeps λb o l i=>⟨o,(a b (j b o l i)).trans l,rfl⟩) O ((a e (U2 C)).trans I)
  (λb o n=>(a b λq=>by rw[q,w]at n;cases n).trans (t b o n)) u N (P0.mp G).1 X
  λh' ⟨x1,Y,P,S⟩=>h h' ⟨x1,Y,P,λb o l i=>S b o ((a b (j b o l i)).trans l) i⟩
theorem rA(st:jG p)(i:A.frames=some (env::g))(w:s.heap.FunFrames base (env::g))(C:env.frame=some L)(j:yz s.heap base e p .none)(a:base.StaysIn s.heap)(b:base.get? e=none)
  (h:∀h',GoX base (env::g) e p .none s.heap h'->Q () { s with heap:=h' }):J0 M A (leaving env (.ref e)) Q E s:=by
 unfold leaving;exact o0 (zZ st i w C j a b λG ⟨l,u,z,m⟩=>oE l u z λn ⟨q,t,B,o⟩=>h n ⟨q,t,B,m.trans o⟩)
end
theorem kA{prog:K9}{w:P7}{A:M8}{E:u8->E9->Prop}{h:K3}{g:Array al3}{d:Drawn}{t:Nat}{os:OsState}{nm q:Str}{C N:F4}{bs bm u:List u8}{hdct:Bool}
  {sn:List Str} {sub:List u8} {ab:Bool} {col:Option Bool} {dd:Option F4} {k0 k1 k2 k3 k5:Option u8} {B newId j:String} (F:ExcBaseFacts B newId j u) (T:aq5 h u bm)
  {K:E5} {rest:List u8} {H:F4} {I:Obj} {Q:PySem.Fin->E9->Prop} (s:h.get? C=some (T6 nm q C N bs bm hdct sn sub ab col dd k0 k1 k2 k3 k5 newId)) (hn:K.In h)
  (hi:O5 K (.ref C) "__init__"=some (some (J6 H))) (J:h.get? H=some I) (G:I.cls=N3 "function")
  (L:∀(h':K3) (e:F4),h.objs.size<=e->h.MadeExcOf h' e (J6 C) rest->J0 (L4 prog w) A (ar9 (J6 H) (J6 e::rest)) (λr s'=>r=J9/\Q (Fin.done (Flow.ret (J6 e))) s') E { heap:=h',gens:=g,drawn:=d,toks:=t,os:=os })
  (n:rest.length<=F9):J0 (L4 prog w) A (M7.«type.__call__» { pos:=J6 C::rest }) Q E { heap:=h,gens:=g,drawn:=d,toks:=t,os:=os }:=by
 unfold M7.«type.__call__»;dsimp only;refine S2 (am6 (decide ((J6 C==N3 "type")=true))) (o0 ?_);show J0 _ _ (R5 _ _) _ _ _;refine o0 ?_;show J0 _ _ (R5 _ _) _ _ _;refine o0 (am7 s (E6 (E6 ?_)));refine S2 (am6 (decide ({ name:=nm,bases:=bs,mro:=J6 C::bm,ns:=N,qualname:=q,hasDict:=hdct,slotNames:=sn,subclasses:=sub,abstract:=ab,collection:=col:ClassData }.mro.isEmpty=true))) ?_;refine o0 (wpAny_madeBy_exc s (o0 (E6 (o0 (N6 (ad6 ?_))))));refine codeAny_call_builtin_code (ad8 { pos:=J6 C::rest } F.quiet) (wpAny_check_new_subT F T s (codeAny_exc_new_subT F T s ?_ n));have p:=E7 { cls:=J6 C,data:=ae2 #[J6 h.objs.size,J9,J9,J9,ai6 false,J9] } (E7 { cls:=N3 "tuple",data:=ao2 rest.toArray } s);have l:=E7 { cls:=J6 C,data:=ae2 #[J6 h.objs.size,J9,J9,J9,ai6 false,J9] } (E7 { cls:=N3 "tuple",data:=ao2 rest.toArray } J);have kp:∀b o,h.get? b=some o->((h.push { cls:=N3 "tuple",data:=ao2 rest.toArray }).push { cls:=J6 C,data:=ae2 #[J6 h.objs.size,J9,J9,J9,ai6 false,J9] }).get? b=some o:=λb o e=>E7 _ (E7 _ e);have m:=hn.keeps kp;have i:=K3.get?_push_at (h:=h.push { cls:=N3 "tuple",data:=ao2 rest.toArray }) (a:=h.objs.size+1) (o:={ cls:=J6 C,data:=ae2 #[J6 h.objs.size,J9,J9,J9,ai6 false,J9] }) (by rw[ab3]) rfl;show J0 _ _ (R5 _ _) _ _ _;refine o0 (o0 ?_);show J0 _ _ (R5 _ _) _ _ _;refine o0 (R6 i (E6 (ag7 p ?_)));rw[show(J6 C::bm).contains (J6 C)=true by simp];refine S2 (am6 (decide ((!true)=true))) (o0 (N6 ?_));show J0 _ _ (R5 _ _) _ _ _;refine o0 ?_;show J0 _ _ (R5 _ _) _ _ _;refine o0 ?_;show J0 _ _ (R5 _ _) _ _ _;refine o0 (R6 i (E6 ?_));refine PySem.W.Looks.here (PySem.W.looks_findIn m hi) ?_;refine N6 (o0 ?_);show J0 _ _ (R5 _ _) _ _ _;refine o0 (an3 ⟨I,l,G⟩ ?_);refine ak2 (am6 (decide ((N3 "function"==N3 "function" || N3 "function"==N3 "method_descriptor" || N3 "function"==N3 "wrapper_descriptor")=true))) (E6 ?_);refine o0 (P5 (L _ (h.objs.size+1) (aj3 _) ⟨kp,?_,h.objs.size,i,?_,?_⟩) ?_ λ_ _ z=>z)
 ·exact S5 (aj3 _)
 ·exact S5 (F6 _)
 ·exact E7 _ (K1 _ rfl)
 ·rintro r s' ⟨rfl,M⟩;exact E6 (S2 (am6 (decide ((J9 != J9)=true))) (E6 M))
theorem qU{prog:K9}{w:P7}{A:M8}{E:u8->E9->Prop}{h:K3}{g:Array al3}{d:Drawn}{t:Nat}{os:OsState}{nm q:Str}{C N:F4}{bs bm i:List u8}{hdct:Bool}
  {sn:List Str} {sub:List u8} {ab:Bool} {col:Option Bool} {dd:Option F4} {k0 k1 k2 k3 k5:Option u8} {B newId a:String} (F:ExcBaseFacts B newId a i) (T:aq5 h i bm)
  {K:E5} {rest:List u8} {m:F4} {o:Obj} {Q:u8->E9->Prop} (j:h.get? C=some (T6 nm q C N bs bm hdct sn sub ab col dd k0 k1 k2 k3 k5 newId)) (hn:K.In h)
  (hi:O5 K (.ref C) "__init__"=some (some (J6 m))) (n:h.get? m=some o) (l:o.cls=N3 "function")
  (u:∀(h':K3) (e:F4),h.objs.size<=e->h.MadeExcOf h' e (J6 C) rest->J0 (L4 prog w) (A.under (at2.builtin "type.__call__" { pos:=J6 C::rest })) (ar9 (J6 m) (J6 e::rest)) (λr s'=>r=J9/\Q (J6 e) s') E { heap:=h',gens:=g,drawn:=d,toks:=t,os:=os })
  (b:rest.length<=F9):J0 (L4 prog w) A (ar9 (J6 C) rest) Q E { heap:=h,gens:=g,drawn:=d,toks:=t,os:=os }:=by
 have p:=tc_lookup;have G:=tc_bind (J6 C);have H:E9.TypeIs { heap:=h,gens:=g,drawn:=d,toks:=t,os:=os } (J6 C) "type":=⟨_,j,rfl⟩;refine ad6 (am4 ?_);show J0 _ _ (R5 _ _) _ _ _;refine o0 (am7 j ?_);show J0 _ _ (R5 _ _) _ _ _;refine o0 (ai3 H p (o0 (ao5 G (o0 ?_))));refine E6 (ak2 (am6 (decide (("type.__call__"=="type.__call__")=true))) ?_);refine E6 ⟨rfl,codeAny_call_builtin_at (ad8 _ (by decide +kernel)) entry_typeCall (wpAny_check_type_call_sub j (kA F T j hn hi n l (λh' e s z=>u h' e s z) b))⟩
theorem lr{prog:K9}{w:P7}{A:M8}{E:u8->E9->Prop}{h:K3}{g:Array al3}{d:Drawn}{t:Nat}{os:OsState}{nm q:Str}{C N e:F4}{bs bm l:List u8}{hdct:Bool}
  {sn:List Str} {sub:List u8} {ab:Bool} {col:Option Bool} {dd:Option F4} {k0 k1 k2 k3 k5:Option u8} {B newId a:String} (F:ExcBaseFacts B newId a l) (T:aq5 h l bm)
  {rest:List u8} {p:Obj} {G z u L J I:u8} {Q:u8->E9->Prop} (R:h.get? C=some (T6 nm q C N bs bm hdct sn sub ab col dd k0 k1 k2 k3 k5 newId))
  (he:h.get? e=some p) (m:p.cls=.ref C) (M:p.data=.fields #[G,z,u,L,J,I])
  (S:∀(h':K3) (t':F4),(∀b o,b≠e->h.get? b=some o->h'.get? b=some o)->h'.get? e=some { p with data:=.fields #[.ref t',z,u,L,J,I] }->Q .none { heap:=h',gens:=g,drawn:=d,toks:=t,os:=os })
  (j:rest.length<=F9):J0 (L4 prog w) A (ar9 (af1 a) (J6 e::rest)) Q E { heap:=h,gens:=g,drawn:=d,toks:=t,os:=os }:=by
 refine ad6 (W1 F.init.plain F.initEntry (wpAny_check_init_subT F T R he m ?_));unfold M7.«BaseException.__init__»;dsimp only;refine S2 (am6 (decide ((!({ pos:=J6 e::rest }:Args).kw.isEmpty)=true))) ?_;refine o0 ?_;unfold newTuple;obtain⟨U,X,s,O⟩:=p;obtain rfl:U=.ref C:=m;obtain rfl:s=_:=M;have i:=E7 { cls:=N3 "tuple",data:=ao2 rest.toArray } he;refine S2 (by rw[decide_eq_false_iff_not];simpa using j) ?_;refine o0 (wpAny_alloc' (E6 ?_));refine o0 ?_;unfold M7.BaseException.bexcPut;refine o0 ?_;show J0 _ _ (R5 _ _) _ _ _;refine o0 ?_;show J0 _ _ (R5 _ _) _ _ _;refine o0 (am7 i (E6 (E6 (o0 ?_))));show J0 _ _ (R5 _ _) _ _ _;refine o0 (am7 i ?_);dsimp only;refine ak2 (am6 (decide (0<#[G,z,u,L,J,I].size))) (wpAny_update' i ?_);have n:Q J9 { heap:=(h.push { cls:=N3 "tuple",data:=ao2 rest.toArray }).update e (X1 λx=>x.setIfInBounds 0 (J6 h.objs.size)),gens:=g,drawn:=d,toks:=t,os:=os }:=by
  refine S _ h.objs.size (λb o P H=>?_) ?_
  ·rw[L5 _ _ (U2 P)];exact E7 _ H
  ·exact P3 _ i rfl
 cases G
 all_goals first
  |exact wpAny_letGo (E6 n)
  |exact E6 (E6 n)
theorem lK{M:ar7}{A:M8}{E:u8->E9->Prop}{env:Env}{nm q:Str}{C N:F4}{bs bm:List u8}{hdct:Bool}{sn:List Str}{sub:List u8}{ab:Bool}{col:Option Bool}{dd:Option F4}
  {k0 k1 k2 k3 k5:Option u8} {newId:String} {s:E9} {x:N1} {pos:Pos} {Q:Flow->E9->Prop} (u:bm.contains (N3 "BaseException")=true) (t:A.handled=none)
  (h:J0 M A (aa2 x env) (λv a => ∃ e o n i,v = J6 e ∧ a.heap.get? C = some (T6 nm q C N bs bm hdct sn sub ab col dd k0 k1 k2 k3 k5 newId) ∧
   a.heap.get? e=some { cls:=J6 C,dict:=o,data:=ae2 #[n,J9,J9,J9,ai6 false,J9],slots:=i }/\E (J6 e) a) E s) :
  J0 M A (exec (Z7.Raise (some x) none pos) env) Q E s:=by
 have m:(J6 C::bm).contains (N3 "BaseException")=true:=by
  rw[List.contains_cons,u,Bool.or_true]
 rw[arm_exec_Raise];show J0 _ _ (R5 _ _) _ _ _;refine o0 ?_;refine al4 ?_;show J0 _ _ (R5 _ _) _ _ _;refine o0 (o0 (P5 h (λv a j=>?_) λ_ _ z=>z));obtain⟨e,o,n,i,rfl,l,b,p⟩:=j;obtain⟨B,g,d,w,os⟩:=a;dsimp only at l b;refine o0 (al4 (E6 ?_));refine o0 (E6 (o0 (N6 ?_)));show J0 _ _ (R5 _ _) _ _ _;refine o0 ?_;show J0 _ _ (R5 _ _) _ _ _;refine o0 ?_;show J0 _ _ (R5 _ _) _ _ _;refine o0 ?_;refine R6 b (E6 (S2 ?_ (E6 (S2 (am6 (decide (false=true))) ?_))))
 ·rfl
 refine o0 ?_;show J0 _ _ (R5 _ _) _ _ _;refine o0 ?_;show J0 _ _ (R5 _ _) _ _ _;refine o0 (R6 b (E6 (ag7 l ?_)));rw[m];refine ak2 (am6 (decide (true=true))) (E6 (o0 ?_));show J0 _ _ (R5 _ _) _ _ _;refine o0 ?_;refine R6 b (E6 (S2 ?_ (o0 ?_)))
 ·rfl
 show J0 _ _ (R5 _ _) _ _ _;refine o0 ?_;show J0 _ _ (R5 _ _) _ _ _;refine o0 (R6 b (E6 (o0 ?_)));show J0 _ _ (R5 _ _) _ _ _;refine o0 (R6 l (E6 (ak2 ?_ (E6 (o0 ?_)))))
 ·rfl
 show J0 _ _ (R5 _ _) _ _ _;refine o0 ?_;show J0 _ _ (R5 _ _) _ _ _;refine o0 ?_;show J0 _ _ (R5 _ _) _ _ _;refine o0 (am7 b (E6 (E6 (S2 ?_ (E6 (wpAny_raiseNew_none t p))))));rfl
abbrev veM:List u8:=[.type "ValueError",.type "Exception",.type "BaseException",.type "object"]
theorem uv(self:u8)(C W:F4):refuseLoop self "__setattr__" [.ref C,.ref W,.type "ValueError",.type "Exception",.type "BaseException",.type "object"]=af8 ():=by
 kernel_rfl
def n8(C e:F4)(h:K3):Prop:=∃b a,h.get? e=some { cls:=.ref C,dict:=none,data:=.fields #[b,.none,.none,.none,.bool false,.none],slots:=a }
theorem tu{P:K9}{w:P7}{H:Hp}{h:K3}{C e:F4}(x:n8 C e h):bT P w H h e (.ext (n8 C e)):=by
 obtain⟨j,i,g⟩:=x;exact⟨⟨j,i,g⟩,⟨_,g⟩,λl m ⟨a,b,q⟩ k=>⟨a,b,k _ q⟩⟩
structure mJ(K:E5) (mg:Str->Option u8) (xC xW fld:Str) (C W fI:F4):Prop where
 gC:mg xC=some (.ref C)
 gW:mg xW=some (.ref W)
 kC:U7 K (.ref C)=true
 lC:∃nm q N bs sn sub ab col dd k0 k1 k2 k3 k5,K.lookup C=some (T6 nm q C N bs [.ref W,.type "ValueError",.type "Exception",.type "BaseException",.type "object"] true sn sub ab col dd k0 k1 k2 k3 k5 "ValueError.__new__")
 iC:O5 K (.ref C) "__init__"=some (some (.ref fI))
 lW:∃c0 dW cdW slW cN dN es ep sN,K.lookup W=some ⟨c0,dW,.cls cdW,slW⟩/\K.lookup cdW.ns=some ⟨cN,dN,.dict es ep,sN⟩/\es.toList.all (λe=>e.key.isStr "__init__"==false&&match e.key with|.str _ _=>true|_=>false)=true
 sW:aj8 K (.ref W) "__getattribute__"=some (some (.builtin "type.__getattribute__"))
 rW:PySem.W.readsIn K W (.type "type")=true
 fW:PySem.W.findCls K (.ref W) (.type "type") "__init__"=some (.val (.builtin "ValueError.__init__"))
 sC:O5 K (.ref C) "__setattr__"=some (some (.builtin "object.__setattr__"))
 mC:af5 K C (.type "object")=some true
 tC:O5 K (.ref C) fld=some none
theorem mJ.tail{K:E5}{s:Str->Option u8}{m l fld:Str}{C W p:F4}{h:K3}(Y:mJ K s m l fld C W p)(i:K.In h):aq5 h veM (.ref W::veM):=by
 obtain⟨B,E,u,j,G,H,g,z,A,o,w,a⟩:=Y.lW;rw[J7]at a;refine aq5.own (i _ _ o) (mA:=aq7 g) ⟨_,g,z,i _ _ w,rfl,λe b=>?_,λ_=>rfl⟩ ?_ aq5.base
 ·have:=a e (by simpa using b);rw[F8]at this;cases q:e.key with
  |str n t=>exact⟨n,t,rfl⟩
  |_=>rw[q]at this;simp at this
 ·unfold aq7 findBy;rw[Option.map_eq_none_iff,Array.find?_eq_none];intro e b;have:=a e (by simpa using b);rw[F8]at this;simpa using this.1
section
variable{X:Cx}{G y B:Str}{C W fI:F4}
def tWI(C:F4)(i:Nat):TE:=λa H Q=>∃e,a[i]?=some (some (.ref e))/\H e=some (.ext (n8 C e))/\Q .non H
theorem C8(Y:mJ X.K X.mg G y B C W fI)(i:Nat){x:Str}{pl:Sem Bool}{p L ps pos a:Pos}{txt:Str}{j:Nat}(hg:Gl X y)(hx:PE X (.Name x ps) (u0 i))(ht:PE X (.Constant (.str txt) j a) (tC (.str txt)))
  (hdb:(y==("__debug__":Str))=false:=by decide)
  (J:F3 [.Name x ps,.Constant (.str txt) j a] X.env=(false,aa2 (.Name x ps) X.env)::F3 [.Constant (.str txt) j a] X.env:=by rfl) (hpl:(U6 pos (F3 [.Constant (.str txt) j a] X.env)).any (·.1)=false:=by rfl)
  (O:aa2 (.Call (.Attribute (.Name y p) "__init__" L) [.Name x ps,.Constant (.str txt) j a] [] pos) X.env = (do
   let S <-aa2 (.Name y p) X.env
   as1 L.atName
   let(f,first) <-ak9 [S] (getMethod S "__init__" pl)
   callWith pos f first (U6 pos (F3 [.Name x ps,.Constant (.str txt) j a] X.env)) (an4 pos (ae5 [] X.env))):=by rfl) :
  PE X (.Call (.Attribute (.Name y p) "__init__" L) [.Name x ps,.Constant (.str txt) j a] [] pos) (tWI C i):=by
 intro aa s σ H Q I h;obtain⟨e,ei,A,q⟩:=h;refine PySem.W.methodCall_KW (pl:=pl) (hV I hg Y.gW ?_ hdb) O;refine PySem.W.method_cls I.kIn Y.sW (PySem.W.cls_value I.kIn Y.rW Y.fW rfl ?_);have I1:=I.tok (s.toks+1);have ha:PA X [.Name x ps,.Constant (.str txt) j a] (pV (u0 i) (pV (tC (.str txt)) zi)):=bA hx (bA ht de);refine PyProof.Rows.callWith_builtin1 (thn (ha pos aa _ σ H (λU m=>U=[.ref e,.str txt]/\m=H) I1 ?_) λus s1 hs=>?_) J hpl
 ·exact⟨.ref e,ei,rfl,rfl⟩
 obtain⟨U,m,w,l,rfl,rfl⟩:=hs;obtain⟨n,E,rfl,M,P⟩:∃n E,us=[n,E]/\aM (.ref e) n/\aM (.str txt) E:=by
  cases l with
  |cons M l =>
   cases l with
   |cons P l =>
    cases l;exact⟨_,_,rfl,M,P⟩
 obtain rfl:n=.ref e:=M;obtain⟨⟨a0,a2,g⟩,_⟩:=w.hok e _ A;obtain⟨nm,q',N,bs,sn,sub,ab,a1,dd,k0,k1,k2,k3,k5,lC⟩:=Y.lC;obtain⟨hp,gs,d,t,os⟩:=s1;refine lr F.excBase_ValueError (Y.tail w.kIn) (w.kIn _ _ lC) g rfl rfl (λZ t' kp R=>?_) (ae0 (jz (by simp)));have T:=w.write (t':=t) (h':=Z) (x:=e) (e:=e) (o:=.ext (n8 C e)) (by rw[A];trivial) (.inl rfl) (λb u hb hu=>kp b u hb hu) ⟨_,R⟩ (tu ⟨_,_,R⟩);have eu:upd m e (.ext (n8 C e))=m:=by
  funext b;unfold upd
  split
  ·next z=>rw[z,A]
  ·rfl
 rw[eu]at T;exact⟨.non,m,T,rfl,q⟩
end
section
variable{X:Cx}{B G y:Str}{C W Y:F4}{g:List (F4×Obj)}{σ:St}{H:Hp}{s:E9}
theorem Inv.forget{e:F4}{φ:K3->Prop}(I:Inv X g σ (upd H e (.ext φ)) s)(hn:H e=none):Inv X g σ H s:=by
 have i:∀{b o},upd H e (.ext φ) b=some o->(∀ C,o≠.ext C)->H b=some o:=λ{b o} q z=>by
  by_cases h:b=e
  ·subst h;rw[aX]at q;cases q;exact absurd rfl (z φ)
  ·rw[aG h]at q;exact q
 have j:∀{b},upd H e (.ext φ) b=none->H b=none:=λ{b} q=>by
  by_cases h:b=e
  ·subst h;exact hn
  ·rw[aG h]at q;exact q
 refine⟨I.ok,I.os,I.bare,⟨I.base.keep,I.base.slot,λb o q n x=>j (I.base.free b o q n x),I.base.there,λb l q=>i (I.base.tups b l q) (λ_ z=>by cases z),λb o u q=>i (I.base.frzs b o u q) (λ_ z=>by cases z),λb t q=>?_⟩,I.loc,I.cell,j I.free,λx c q=>j (I.freeC x c q),λp m=>?_,λa o q=>?_,I.len⟩
 ·obtain⟨more,E⟩:=I.base.tbls b t q;exact⟨more,i E (λ_ z=>by cases z)⟩
 ·obtain⟨A,G,B⟩:=I.pin p m;exact⟨A,j G,B⟩
 ·have w:a≠e:=by rintro rfl;rw[hn]at q;cases q
  refine(I.hok a o (by rw[aG w];exact q)).stay (λc v _ r=>r) (λc r=>i r (λ_ z=>by cases z)) λc l r=>i r (λ_ z=>by cases z)
def tRs(XW:Hp->Prop)(te:TE):TS:=λ_ σ H=>te σ H λx a=>[x].length=1/\XW a
end
theorem bT.is{P:K9}{w:P7}{H:Hp}{h:K3}{a:F4}{o:HO}(x:bT P w H h a o):∃u,h.get? a=some u:=by
 cases o with
 |lst g=>obtain⟨_,_,_,_,e⟩:=x;exact⟨_,e⟩
 |tup g=>obtain⟨_,_,_,i,e,_⟩:=x;exact⟨_,e⟩
 |dK b=>obtain⟨_,_,_,_,o,_,_,e,_⟩:=x;exact⟨_,e⟩
 |dT b=>obtain⟨_,_,_,_,o,_,_,e,_⟩:=x;exact⟨_,e⟩
 |set S n=>obtain⟨o,_,_,_,e,_⟩:=x;exact⟨_,e⟩
 |ins C m fs=>obtain⟨_,_,_,e,_⟩:=x;exact⟨_,e⟩
 |own y=>exact x
 |xd fs=>obtain⟨_,⟨_,_,_,e,_⟩,_⟩:=x;exact⟨_,e⟩
 |rng lo j=>obtain⟨_,_,_,e⟩:=x;exact⟨_,e⟩
 |frz i u=>obtain⟨e,_⟩:=x;exact⟨_,e⟩
 |tbl l=>exact⟨_,x⟩
 |met f y=>exact⟨_,x⟩
 |ext p=>exact x.2.1
def ExF(C:F4)(o:Obj):Prop:=o.cls=.ref C/\∃a,o.data=.fields a/\a[2]?=some .none
theorem rE{C:F4}:jG (ExF C):=λo v ⟨a,g,e,b⟩=>⟨(Obj.cls_mapFields _ _).trans a,_,ai5 e _,by rw[Array.getElem?_setIfInBounds_ne (by decide)];exact b⟩
section
variable{X:Cx}{y:List (F4×Obj)}{σ:St}{B g:Hp}{p s':E9}{C a T:F4}
theorem pk{h:K3}{Z:List F4}(E:Inv X y σ B p)(os:s'.os=p.os)(a:ak8 s'.gens)(un:Un (frs X.stack) [] B g p.heap s'.heap)(l:HOk X.prog X.w g s'.heap)
  (kp:∀b o,s'.heap.get? b=some o->b∉Z->b∉frs X.stack->h.get? b=some o) (A:∀b o,b∈frs X.stack->s'.heap.get? b=some o->∃G,h.get? b=some { o with slots:=G })
  (C:∀b∈Z,p.heap.get? b=none/\g b=none):Inv X y σ g { s' with heap:=h }:=by
 have J:Inv X y σ g s':=E.call' (ch:=[]) os un l a λb z=>absurd z (by simp);have j:=J.stkFree;have w:∀{b o},p.heap.get? b=some o->b∉Z:=λ{b o} e z=>by rw[(C b z).1]at e;cases e
 refine E.call' (s':={ s' with heap:=h }) (ch:=[]) os ⟨λb o e n m q=>kp b o (un.keep b o e n m q) (w e) m,λb o e n m q=>?_,un.free,λb o e q=>?_,un.tups,un.frzs,un.tbls⟩ (λb o e=>?_) a λb z=>absurd z (by simp)
 ·obtain⟨G,t⟩:=un.slot b o e n m q;obtain⟨s,u⟩:=A b _ m t;exact⟨s,u⟩
 ·obtain⟨H,t⟩:=un.there b o e q
  by_cases I:b∈frs X.stack
  ·obtain⟨s,u⟩:=A b _ I t;exact⟨_,u⟩
  ·exact⟨H,kp b H t (w e) I⟩
 ·refine(l b o e).stay (λc v i r=>kp c v r (λz=>?_) (λz=>?_)) (λc r=>r) λc L r=>r
  ·have:=(C c z).2;rcases i with rfl|i
   ·rw[this]at e;cases e
   ·rw[this]at i;cases i
  ·have:=j c z;rcases i with rfl|i
   ·rw[this]at e;cases e
   ·rw[this]at i;cases i
end
theorem mJ.cls{K:E5}{h:Str->Option u8}{b a fld:Str}{C W e:F4}(Y:mJ K h b a fld C W e):∃nm q N bs bm i sn sub ab col dd k0 k1 k2 k3 k5 newId,K.lookup C=some (T6 nm q C N bs bm i sn sub ab col dd k0 k1 k2 k3 k5 newId)/\bm.contains (.type "BaseException")=true:=by
 obtain⟨nm,q,N,bs,sn,sub,ab,col,dd,k0,k1,k2,k3,k5,g⟩:=Y.lC;exact⟨nm,q,N,bs,_,_,sn,sub,ab,col,dd,k0,k1,k2,k3,k5,_,g,rfl⟩
structure AS(K:E5) (mg:Str->Option u8) (xC:Str) (C W:F4):Prop where
 gC:mg xC=some (.ref C)
 kC:U7 K (.ref C)=true
 lC:∃nm q N bs hd sn sub ab col dd k0 k1 k2 k3 k5 cN dN es ep sN,K.lookup C=some (T6 nm q C N bs [.ref W,.type "ValueError",.type "Exception",.type "BaseException",.type "object"] hd sn sub ab col dd k0 k1 k2 k3 k5 "ValueError.__new__") /\
  K.lookup N=some ⟨cN,dN,.dict es ep,sN⟩/\es.toList.all (λe=>e.key.isStr "__init__"==false&&match e.key with|.str _ _=>true|_=>false)=true
 lW:∃c0 dW cdW slW cN dN es ep sN,K.lookup W=some ⟨c0,dW,.cls cdW,slW⟩/\K.lookup cdW.ns=some ⟨cN,dN,.dict es ep,sN⟩/\es.toList.all (λe=>e.key.isStr "__init__"==false&&match e.key with|.str _ _=>true|_=>false)=true
theorem mY{h:K3}{a:F4}{m:u8}{p:Option F4}{b:Array ag2}{l:Nat}{o:Array (Option u8)}(g:h.get? a=some ⟨m,p,.dict b l,o⟩)
  (j:b.toList.all (λe=>e.key.isStr "__init__"==false&&match e.key with|.str _ _=>true|_=>false)=true):h.Ns a (aq7 b)/\aq7 b "__init__"=none:=by
 rw[J7]at j;refine⟨⟨_,b,l,g,rfl,λe i=>?_,λ_=>rfl⟩,?_⟩
 ·have:=j e (by simpa using i);rw[F8]at this;cases q:e.key with
  |str n t=>exact⟨n,t,rfl⟩
  |_=>rw[q]at this;simp at this
 ·unfold aq7 findBy;rw[Option.map_eq_none_iff,Array.find?_eq_none];intro e i;have:=j e (by simpa using i);rw[F8]at this;simpa using this.1
theorem kY{b:Type}{p:b->Bool}:∀(l:List b) (i:Nat),(∀x,l[i]?=some x->p x=false)->(l.eraseIdx i).find? p=l.find? p
 |[],_,_=>rfl
 |a::l,0,h=>by simp[aa0,h a rfl]
 |a::l,i+1,h=>by
  simp only[List.eraseIdx_cons_succ,aa0];rw[kY l i (λx e=>h x (by simpa using e))]
theorem pP{b:Array ag2}{name x:Str}{i:Nat}(hi:b.findIdx? (·.key.isStr name)=some i)(h:x≠name):aq7 (b.eraseIdxIfInBounds i) x=aq7 b x:=by
 unfold aq7 findBy;rw[<-Array.find?_toList,<-Array.find?_toList];obtain⟨g,a,j⟩:=Array.findIdx?_eq_some_iff_getElem.mp hi;rw[Array.eraseIdxIfInBounds,dif_pos g,Array.toList_eraseIdx,kY];intro y e;rw[R9,N5 g]at e;cases e;have a:b[i].key.isStr name=true:=a;show b[i].key.isStr x=false;cases q:b[i].key<;>rw[q]at a<;>simp only[u8.isStr]at a ⊢<;>first|(cases a;done)|skip
 all_goals first|(rw[beq_iff_eq]at a;rw[beq_eq_false_iff_ne];exact λz=>h (z.symm.trans a))|rfl
section
variable{M:ar7}{A:M8}{E:u8->E9->Prop}{s:E9}
theorem Bl{a:F4}{m}{name:Str}{Q:Bool->E9->Prop}(hn:s.heap.Ns a m)
  (P:∀h' j,h'.Ns a j->(∀x,x≠name->j x=m x)->Q4 a s.heap h'->Q (m name).isSome { s with heap:=h' }):J0 M A (nsDel a name) Q E s:=by
 obtain⟨o,p,O,z,N,L,B⟩:=id hn;have u:p.any (·.refKey)=false:=by
  rw[Array.any_eq_false'];intro e R;obtain⟨n,t,h⟩:=L e R;simp[ag2.refKey,h]
 have l:(m name).isSome=p.any (·.key.isStr name):=by
  rw[<-B name];simp only[aq7,findBy,Option.isSome_map];rw[O2];simp only[Array.find?_isSome,Array.any_eq_true];constructor
  ·rintro⟨x,J,H⟩;obtain⟨i,g,rfl⟩:=Array.mem_iff_getElem.mp J;exact⟨i,g,H⟩
  ·rintro⟨i,g,H⟩;exact⟨_,Array.getElem_mem g,H⟩
 have w:nsHas name o=af8 (p.any (·.key.isStr name)):=by
  rw[nsHas_eq];unfold nsHasByArray;rw[N];show(if(p.any λx=>x.key.isStr name)=true then _ else _)=_;generalize (p.any λx=>x.key.isStr name)=b;cases b<;>simp[u]
 unfold nsDel;refine o0 (ag3 z ?_);rw[w];refine o0 (E6 ?_);rw[<-l];cases q:(m name).isSome
 ·have:=P s.heap m hn (λ_ _=>rfl) (.refl ..);rw[q]at this;exact E6 this
 ·refine o0 (wpAny_updatePart z (E6 ?_));have C:∃j,(s.heap.update a (Obj.dropName name)).Ns a j/\∀x,x≠name->j x=m x:=by
   obtain⟨T,d,dt,S⟩:=o;subst N;cases g:p.findIdx? (·.key.isStr name)with
   |some i=>exact⟨_,⟨_,_,O+1,P3 _ z (by simp only[am8,ag8,g]<;>rfl),(by simp only[am8,ag8,g]<;>rfl),L.erase i,λ_=>rfl⟩,λx J=>by rw[pP g J,B]⟩
   |none=>exact⟨_,⟨_,_,O,P3 _ z (by simp only[am8,ag8,g]<;>rfl),(by simp only[am8,ag8,g]<;>rfl),L,λ_=>rfl⟩,λx _=>B x⟩
  obtain⟨j,G,I⟩:=C;have:=P _ j G I (aa1 ..);rw[q]at this;exact this
end
end L2
namespace L2
open PySem PySem.Spec PySem.Calls PyProof.Rows PySem.W PySem.Builtin PySem.Builtin.ObjectAttr PySem.Builtin.Getset_descriptor
def ig(C e:F4)(h:K3):Prop:=∃o,h.get? e=some o/\ExF C o
theorem ig.type{M:ar7}{h:K3}{C e:F4}(x:ig C e h):Looks M h (typeOf (.ref e)) (.ref C):=by
 obtain⟨o,g,r,_⟩:=x;exact r▸(Looks.ld g).andThen .now
section
variable{prog:K9}{w:P7}{A:M8}{E:u8->E9->Prop}{s:E9}{K:Frag}{x C D:F4}{name:Str}
theorem qm{M:ar7}{a:u8}{Q:Unit->E9->Prop}(X:K.In s.heap)(I:ig D x s.heap)(m:mroIn K D (.type "BaseException")=some true)(j:Q () s):
  J0 M A (checkBuiltinCall "BaseException.__getattribute__" ⟨[.ref x,a],[]⟩) Q E s:=by
 obtain⟨q,g,d,t,os⟩:=s;have n:builtinKind "BaseException.__getattribute__"=some .slot:=by decide +kernel
 have b:splitId "BaseException.__getattribute__"=some ("BaseException","__getattribute__"):=by decide +kernel
 have i:=F.args_bexc_ga (.ref x) a;have o:=I.type (M:=M);have l:=looks_mroIn (M:=M) X m;simp only[checkBuiltinCall,n,b];unfold ar6;refine o0 (o0 (o.at (l.at ?_)));simp only[Z6,F0,if_false];cases h:Manifest.signature? "BaseException.__getattribute__" with
 |none=>exact E6 j
 |some e =>
  simp only[argsOk,h]at i;have p:Bind.checkArgs "BaseException.__getattribute__" e ⟨[.ref x,a],[]⟩=af8 ():=i;show J0 M A (Bind.checkArgs "BaseException.__getattribute__" e ⟨[.ref x,a],[]⟩) Q E _;rw[p];exact E6 j
theorem yQ{M:ar7}{h:K3}{a g:u8}(X:K.In h)(ha:findIn K (.ref D) name=some (some a))(hg:specialIn K a "__get__"=some (some g))(e:takesIn K a=some true):
  Looks M h (find (.ref x) (.ref D) name) (.bind g a):=by
 have j:=looks_findIn (M:=M) X ha;have b:Looks M h (getOf (some a)) (some g):=looks_specialIn X hg;have i:=looks_takesIn (M:=M) X e;refine j.andThen (b.andThen ?_);exact(show Looks M h (dataDescriptor? (some a) (some g)) (some (g,a))from i.andThen .now).andThen (Looks.tag .now)
theorem xD{g a:u8}{i:Tok}{P:u8->E9->Prop}(X:K.In s.heap)(I:ig D x s.heap)(ha:findIn K (.ref D) name=some (some a))(hg:specialIn K a "__get__"=some (some g))(e:takesIn K a=some true)
  (h:J0 (L4 prog w) A (ar9 g [a,.ref x,.ref D]) P E s) :
  J0 (L4 prog w) A (M7.«object.__getattribute__» ⟨[.ref x,.str name i],[]⟩) (λb s'=>match b with|.done (.ret v)=>P v s'|_=>False) E s:=by
 obtain⟨m,n,d,t,os⟩:=s;have j:=I.type (M:=L4 prog w);have l:=yQ (M:=L4 prog w) (x:=x) X ha hg e;refine o0 (E6 (o0 (E6 (o0 (j.at (o0 (l.at ?_)))))));show J0 _ _ (ak9 [a] (ar9 g [a,.ref x,.ref D]) >>= ret) _ _ _;exact o0 (N6 (P5 h (λv s' z=>E6 z) λ_ _ z=>z))
theorem zb{g a:u8}{Q:Option u8->E9->Prop}(X:K.In s.heap)(I:ig D x s.heap)(e:findIn K (.ref D) "__getattribute__"=some (some (.builtin "BaseException.__getattribute__")))(j:findIn K (.ref D) "__getattr__"=some none)(o:mroIn K D (.type "BaseException")=some true)
  (ha:findIn K (.ref D) name=some (some a)) (hg:specialIn K a "__get__"=some (some g)) (m:takesIn K a=some true)
  (h:∀A C,J0 (L4 prog w) A (ar9 g [a,.ref x,.ref D]) (λv s'=>J0 (L4 prog w) C (handedOut v) (λv b=>Q (some v) b) (λ_ _=>False) s') (λ_ _=>False) { s with toks:=s.toks+1 }) :
  J0 (L4 prog w) A (getAttr? (.ref x) name) Q E s:=by
 obtain⟨q,G,d,t,os⟩:=s;have p:=I.type (M:=L4 prog w);have B:=looks_findIn (M:=L4 prog w) X e;have u:=looks_findIn (M:=L4 prog w) X j;unfold getAttr? getAttrBy? getAttrBy;refine o0 (wpAny_mkText (o0 (ao9 (N6 (o0 (p.at (o0 (B.at ?_))))))));have i:(af1 "BaseException.__getattribute__"==af1 "object.__getattribute__")=false:=by decide +kernel
 simp only[i,R8,F0,if_false];unfold getAttrByItsOwn hookBefore;refine o0 (u.at (o0 (ao9 (N6 ?_))));unfold callGetattribute boundAndCalled;simp only[K2,F0,if_false];rw[show bindSpecial (.builtin "BaseException.__getattribute__") (.ref x)=af8 (.builtin "BaseException.__getattribute__",[.ref x])from ag1.ga.bind _];refine o0 (E6 (ad6 ?_));refine W1 ag1.ga.plain F.entry_bexc_ga (qm X I o ?_);refine P5 (xD (s:=⟨q,G,d,t+1,os⟩) X I ha hg m (h _ A)) (λl s' z=>?_) (λ_ _ z=>z.elim);rcases l with(_|_|_|_)|_<;>first|exact P5 z (λv b n=>E6 n) (λ_ _ z=>z.elim)|exact z.elim
theorem Aj{a:u8}{R:as3->E9->Prop}(X:K.In s.heap)(I:ig C x s.heap)(b:mroIn K C (.type "object")=some true)
  (h:R (.ok (.ret (.ref C))) s):am1 (L4 prog w) A (.call (.builtin "getset_descriptor.__get__") ⟨[.builtin "object.__class__",.ref x,a],[]⟩) R s:=by
 obtain⟨l,g,i,t,os⟩:=s;have j:=I.type (M:=L4 prog w);have e:=looks_mroIn (M:=L4 prog w) X b;refine W1 KF.slot_gs.plain KF.entry_gs (KF.slot_gs.check _ _ _ _ _ _ _ _ KF.type_class (KF.args_gs _ _ _) ?_);unfold M7.«getset_descriptor.__get__» descrGet;rw[dga_obj];refine o0 (E6 ?_);unfold descrGetter descrCheckInstance descrNameAndClass ar6;simp only[KF.owner_class]
 repeat lk
 refine⟨ad8 _ (by decide +kernel),U8 KF.entry_class ?_⟩;unfold M7.«object.__class__» shownTypeOf
 repeat lk
 exact h
theorem wM(g:findIn K (.ref D) "__getattribute__"=some (some (.builtin "BaseException.__getattribute__")))(b:findIn K (.ref D) "__getattr__"=some none)(B:mroIn K D (.type "BaseException")=some true)(hdct:(clsIn K D).isSome=true)(ha:findIn K (.ref D) "__class__"=some (some (.builtin "object.__class__")))
  (hn:specialIn K (.builtin "object.__class__") "__get__"=some (some (.builtin "getset_descriptor.__get__"))) (m:takesIn K (.builtin "object.__class__")=some true) (E:mroIn K D (.type "object")=some true) :
  KitX K (.ref x) (.ref D) (ig D x) where
 ty:=λ_ _ _ I=>I.type
 it:=λ_ _ X _=>by
  obtain⟨i,a⟩:=X6.mp hdct;unfold clsIn at a
  split at a
  ·rename_i u A o p j;intro G H M L k q;unfold isType loadHead;exact o0 (ag3 (k _ _ (X _ _ j)) (E6 q))
  ·cases a
 ne:=λh C J w n N X l=>by
  obtain⟨i,a⟩:=X6.mp hdct;refine Z9.mpr λq=>?_;have e:D=C:=J6.inj (beq_iff_eq.mp q);subst e;unfold clsIn at a
  split at a
  ·rename_i u A o p j;have z:=(X _ _ j).symm.trans l;cases z
  ·cases a
 ca:=λ{_ _ _ _ _ s} X I k=>zb X I g b B ha hn m λ_ _=>ad6 (Aj (s:={ s with toks:=s.toks+1 }) X I E (handed_on rfl k))
end
end L2
namespace L2
open PySem PySem.Spec PyProof.Rows
section
variable{X:Cx}{g:List (F4×Obj)}{σ:St}{H:Hp}{s:E9}
theorem kI{M:ar7}{A:M8}{E:u8->E9->Prop}{i:Nat}{x:Str}{pos:Pos}{Q:Unit->E9->Prop}(I:Inv X g σ H s)(U:X.N.Nodup)(hi:X.N[i]?=some x)(w:X.env.scope.names.lookup x=some .local)
  (h:∀s',Inv X g (σ.set i none) H s'->Q () s'):J0 M A (do bindName X.env x .none;unbindBehindTheSuite X.env x pos) Q E s:=by
 refine o0 (wpAny_bindName (gM I U hi (.inl w) (v:=.non) (u:=.none) rfl (λs1 a=>?_) (.inr w)));have B:i<σ.length:=by rw[I.len];exact(J4.mp hi).1
 unfold unbindBehindTheSuite;refine wpAny_onRaise ?_;unfold unbindName;refine o0 (wpAny_point (o0 ?_));unfold deleteName;have hl:X.env.kindOf x=some .local:=w;have L:(X.env.scope.kind==.class || (X.env.scope.kind==.module&&X.env.locals != X.env.globals))=false:=by rw[I.ok.kind];rfl
 simp only[hl,L];rw[if_neg (by decide)];obtain⟨m,Y,J⟩:=id a.loc;have hm:(m x).isSome=true:=by
  obtain⟨u,r,q⟩:=J i x .non hi (by rw[P8 B]) (.inl w);rcases q with⟨_,e⟩|⟨k,_⟩
  ·rw[e];rfl
  ·rw[hl]at k;rcases k with k|k<;>cases k
 refine o0 (Bl Y λh2 m2 T R C=>?_);rw[hm];simp only[Z6,F0,if_false];refine E6 (wpAny_point (h _ ?_));have cne:=a.cne;obtain⟨oL,_,_,a0,_⟩:=id Y;have l:HOk X.prog X.w H h2:=λb ob e=>by
  refine(a.hok b ob e).stay (λc Z N q=>(C.2 c ?_).trans q) (λ_ q=>q) λ_ _ q=>q;rintro rfl;have t:=a.free;rcases N with rfl|N
  ·rw[t]at e;cases e
  ·rw[t]at N;cases N
 refine⟨a.ok,a.os,a.bare,⟨λb o e n S w=>?_,λb o e n S w=>?_,a.base.free,λb o e w=>?_,a.base.tups,a.base.frzs,a.base.tbls⟩,⟨_,T,λj y v' G O e3=>?_⟩,λy c e=>?_,a.free,a.freeC,λp hp=>?_,l,by simpa using I.len⟩
 ·exact(C.2 b (K8 (H0 (I0 e) I.ok.above))).trans (a.base.keep b o e n S w)
 ·obtain⟨sl,G⟩:=a.base.slot b o e n S w;exact⟨sl,(C.2 b (K8 (H0 (I0 e) I.ok.above))).trans G⟩
 ·obtain⟨o',G⟩:=a.base.there b o e w;exact⟨o',(C.2 b (K8 (H0 (I0 e) I.ok.above))).trans G⟩
 ·by_cases P:j=i
  ·subst P;rw[P8 B]at O;cases O
  ·rw[U4 (U2 P)]at O;obtain⟨u',r',q⟩:=J j y v' G (by rw[U4 (U2 P)];exact O) e3;refine⟨u',r',?_⟩;rcases q with⟨k,e⟩|⟨k,c,e,z⟩
   ·refine .inl ⟨k,?_⟩;have:y≠x:=λe=>P (lM U G (e▸hi));rw[R y this];exact e
   ·exact .inr ⟨k,c,e,z.sameBut C (cne y c e)⟩
 ·obtain⟨Z,z⟩:=a.cell y c e;exact⟨Z,z.sameBut C (cne y c e)⟩
 ·obtain⟨e,n,ne,nf,d⟩:=a.pin p hp;exact⟨(C.2 p.1 ne).trans e,n,ne,nf,d⟩
theorem Inv.track{a:F4}{φ:K3->Prop}(I:Inv X g σ H s)(hn:H a=none)(w:bT X.prog X.w (upd H a (.ext φ)) s.heap a (.ext φ))(h0:X.s₀.heap.get? a=none)(l:a≠X.env.locals)(G:∀x c,X.env.cells.lookup x=some c->c≠a)
  (m:∀p∈X.pn++g,p.1≠a):Inv X g σ (upd H a (.ext φ)) s:=by
 have h:∀{b o},H b=some o->upd H a (.ext φ) b=some o:=λ{b o} q=>by
  by_cases z:b=a
  ·rw[z,hn]at q;cases q
  ·rw[aG z];exact q
 refine⟨I.ok,I.os,I.bare,⟨I.base.keep,I.base.slot,λb o e n x=>?_,I.base.there,λb j q=>h (I.base.tups b j q),λb o u q=>h (I.base.frzs b o u q),λb t q=>?_⟩,I.loc,I.cell,?_,λx c e=>?_,λp z=>?_,λb o e=>?_,I.len⟩
 ·have:b≠a:=λz=>by rw[z,h0]at e;cases e
  rw[aG this];exact I.base.free b o e n x
 ·obtain⟨more,C⟩:=I.base.tbls b t q;exact⟨more,h C⟩
 ·rw[aG (U2 l)];exact I.free
 ·rw[aG (G x c e)];exact I.freeC x c e
 ·obtain⟨A,E,B⟩:=I.pin p z;exact⟨A,by rw[aG (m p z)];exact E,B⟩
 ·by_cases i:b=a
  ·subst i;rw[aX]at e;cases e;exact w
  ·rw[aG i]at e;exact(I.hok b o e).stay (λc v _ r=>r) (λc r=>h r) λc j r=>h r
end
theorem SR.setN{K:E5}{M:DH}{H:Hp}{σ:St}{a:DE}(h:SR K M H σ a)(i:Nat):SR K M H (σ.set i none) (a.set i none):=by
 refine⟨by simp[h.1],λj e q=>?_⟩
 by_cases g:j=i
 ·subst g
  by_cases b:j<a.length
  ·rw[P8 b]at q;cases q
  ·rw[S0 (by simpa using b)]at q;cases q
 ·rw[U4 (U2 g)]at q ⊢;exact h.2 j e q
def A1(j:Nat)(E:dH):dH where
 nx:=λb M=>∃a,LeM a M/\E.nx (b.set j none) a
 bk:=λb M=>∃a,LeM a M/\E.bk (b.set j none) a
 ct:=λb M=>∃a,LeM a M/\E.ct (b.set j none) a
 rt:=λd M=>∃a,LeM a M/\E.rt d a
abbrev Cx.caught(X:Cx)(a:F4):Cx:={ X with A:=X.A.mark (some (.ref a)),calm:=false,xe:=λ_ _=>False }
structure uU(K:E5) (C:F4):Prop where
 ga:O5 K (.ref C) "__getattribute__"=some (some (.builtin "BaseException.__getattribute__"))
 gk:O5 K (.ref C) "__getattr__"=some none
 mb:af5 K C (.type "BaseException")=some true
 cl:(ap0 K C).isSome=true
 ha:O5 K (.ref C) "__class__"=some (some (.builtin "object.__class__"))
 hn:aj8 K (.builtin "object.__class__") "__get__"=some (some (.builtin "getset_descriptor.__get__"))
 tk:PySem.W.takesIn K (.builtin "object.__class__")=some true
 mo:af5 K C (.type "object")=some true
theorem mH:entryFor table "proto.unchain"=some M7.«proto.unchain»:=entryFor_of_tree (by kernel_rfl)
section
variable{prog:K9}{w:P7}{A:M8}{E:u8->E9->Prop}{s:E9}{C e b:F4}{p:Obj}{y:Array u8}
theorem Af{i:Type}{Q:i->E9->Prop}(u:A.handled=some (.ref e))(l:ig C e s.heap)(a:e≠b)(j:s.heap.get? b=some p)(m:p.data=.fields y)(t:2<y.size)
  (h:E (.ref b) { s with heap:=s.heap.update b (X1 (·.setIfInBounds 2 (.ref e))) }):J0 (L4 prog w) A (raiseNew (.ref b):Sem i) Q E s:=by
 obtain⟨o,g,_,z,n,q⟩:=l;unfold raiseNew;refine o0 (wpAny_handled ?_);rw[u];dsimp only;rw[if_pos (show(J6 e != J6 b)=true by simp[a])];refine o0 (N6 (wpAny_runValue (U8 mH ?_)));unfold M7.«proto.unchain»;dsimp only;refine o0 (ae4 g n q ?_);rw[if_pos (show(J9==J9)=true from rfl)];refine o0 (E6 (E6 ?_));dsimp only;unfold updateField;refine o0 (o0 (am7 j ?_));simp only[m];rw[if_pos t];exact wpAny_update' j (wpAny_throw h)
theorem ig.kept{h h':K3}(x:ig C e h)(k:∀o,h.get? e=some o->h'.get? e=some o):ig C e h':=let⟨o,g,r⟩:=x;⟨o,k o g,r⟩
theorem uJ{it l:F4}{i:Nat}{h:Array u8}{Q:Option u8->E9->Prop}(O:A.handled=some (.ref e))(L:ig C e s.heap)
  (n:s.heap.IsListIter it l i) (P:s.heap.IsList l h) (hi:h[i]?=none)
  (R:∀h',(∀b o,b≠it->s.heap.get? b=some o->h'.get? b=some o)->Q none { s with heap:=h' }):J0 (L4 prog w) A (aq6 (.ref it)) Q E s:=by
 obtain⟨o,p,N,G⟩:=id n;obtain⟨S,B,_,U,H⟩:=P;have u:e≠it:=λz=>by
  obtain⟨j,g,r,_⟩:=L;rw[z,p]at g;cases g;rw[N]at r;cases r
 unfold aq6;refine o0 (ao9 (wpAny_callSpecial?_slot (name:=J5 "__next__") n.typeIs slot_listiter_next
  (aa4 slot_listiter_next n.typeIs entry_listiter_next ?_ (args_listiter_next _))))
 show J0 _ _ (field (.ref it) 0 >>= _) _ _ s;refine o0 (ae4 p G (x:=.ref l) rfl ?_);show J0 _ _ (if(J6 l==J9)=true then _ else _) _ _ s;rw[if_neg (show ¬ ((J6 l==J9)=true)from P6)];show J0 _ _ (field (.ref it) 1 >>= _) _ _ s;refine o0 (ae4 p G (x:=.int i 0) rfl ?_);show J0 _ _ (seqItems? (.ref l) >>= _) _ _ s;refine o0 (wpAny_seqItems B H ?_);simp only[S3,hi];refine o0 (al7 (o0 (wpAny_setField p G (by simp) ?_)));have J:∀b j,b≠it->s.heap.get? b=some j->(s.heap.update it (X1 λx=>x.setIfInBounds 0 J9)).get? b=some j:=λb j t q=>by
  rw[L5 _ _ (U2 t)];exact q
 show J0 _ _ (newExc (.type "StopIteration") [] >>= _) _ _ _;refine o0 ?_;simp only[newExc,newTuple];refine o0 (V0 ?_ (by size_fits));refine o0 (m:=firstArgMember _ _) (ao5 (a:=J9) (by first|rfl|(simp only[firstArgMember];rfl)) ?_);refine V0 ?_ (by size_fits);have M:ig C e (s.heap.update it (X1 λx=>x.setIfInBounds 0 J9)):=L.kept λj q=>J e j u q;refine Af (e:=e) (C:=C) O (M.kept λj q=>E7 _ (E7 _ q)) ?_ (K1 _ rfl) rfl (by rw[Array.size_append];exact H0 (show 2<6 by decide) (Nat.le_add_right _ _)) ?_
 ·obtain⟨j,g,_⟩:=M;exact K8 (I0 (E7 _ g))
 refine o0 (wpAny_isInstance (T:="StopIteration") (b:=true) ⟨_,P3 _ (K1 _ rfl) rfl,rfl⟩ isSubtype_stop ?_);refine E6 (R _ λb j t q=>?_);have I:=E7 { cls:=N3 "tuple",data:=ao2 #[] } (J b j t q);rw[L5]
 ·exact E7 _ I
 ·exact ae1 (I0 I)
theorem C6(G:A.handled=some (.ref e))(I l:F4)(z:l≠I)(he:e≠I)(a:Array u8):
  Walks prog w A I [I,l,e] [I] a.size (λi v=>a[i]?=some v) (λi h=>h.IsListIter I l i/\h.IsList l a/\ig C e h) where
 sub:=λb j=>by simp at j;simp[j]
 frame:=λ_ _ _ st t=>⟨st.1.at λo e=>t I (by simp) o e,st.2.1.at λo e=>t l (by simp) o e,st.2.2.kept λo q=>t e (by simp) o q⟩
 item:=λi s Q E B st m=>by
  refine wpAny_pyNext_list_item st.1 st.2.1 (x:=a[i]) (by simp[B]) λp n g=>?_;exact m _ p s.toks (by simp[B]) ⟨n,st.2.1.extBut g.extBut z,st.2.2.kept λo q=>g.extBut e o he q⟩ λb o j e=>g.extBut b o (λh=>j (by simp[h])) e
 done:=λs Q E st m=>uJ G st.2.2 st.1 st.2.1 (by simp) λp u=>m p s.toks λb o j e=>u b o (λh=>j (by simp[h])) e
 self:=λ_ _ _ _ st m=>wpAny_pyIter_listiter st.1 m
end
def wx(K:E5)(P:F4):E5:=K.filter λp=>p.1 != P
theorem kQ{P a:F4}(h:a≠P):∀K:E5,(wx K P).lookup a=K.lookup a
 |[]=>rfl
 |(b,o)::K=>by
  have ih:=kQ h K;unfold wx at ih ⊢
  by_cases g:b=P
  ·rw[List.filter_cons_of_neg (by simp[g]),ih,O1,beq_eq_false_iff_ne.mpr (λe=>h (e.trans g))]
  ·rw[List.filter_cons_of_pos (by simp[g]),O1,O1,ih]
theorem pY{P:F4}:∀K:E5,(wx K P).lookup P=none
 |[]=>rfl
 |(b,o)::K=>by
  have ih:=pY (P:=P) K;unfold wx at ih ⊢
  by_cases a:b=P
  ·rw[List.filter_cons_of_neg (by simp[a]),ih]
  ·rw[List.filter_cons_of_pos (by simp[a]),O1,beq_eq_false_iff_ne.mpr (λe=>a e.symm),ih]
theorem rT{K:E5}{P:F4}{h:K3}(X:K.In h):(wx K P).In h:=λa o e=>by
 by_cases b:a=P
 ·subst b;rw[pY]at e;cases e
 ·rw[kQ b]at e;exact X a o e
end L2
namespace L2
open PySem PySem.Spec PySem.Calls PyProof.Rows
end L2
namespace L2
open PySem PySem.Spec PyProof.Rows
end L2
namespace L2
open PySem PySem.Spec PyProof.Rows PySem.Calls PySem.SeqAt
end L2
namespace L2
open PySem PySem.Spec PyProof.Rows PySem.Calls PySem.SeqAt PySem.W
end L2
namespace L2
open PySem PySem.Spec PyProof.Rows PySem.Calls
end L2
namespace L2
open PySem PySem.Spec PyProof.Rows
end L2
namespace L2
open PySem PySem.Spec PyProof.Rows PySem.Calls PySem.SeqAt
end L2
namespace L2
open PySem PySem.Spec PyProof.Rows
end L2
namespace L2
open PySem PySem.Spec PySem.Calls PyProof.Rows PySem.W PySem.Builtin PySem.Builtin.ObjectAttr
section
variable{prog:K9}{w:P7}{A:M8}{E:u8->E9->Prop}{s:E9}{K:Frag}{x D:F4}{p:Obj}{g:Option Obj}{name:Str}
theorem Az{a:Bool}{v:u8}{Q:u8->E9->Prop}(X:K.In s.heap)(I:InstAt s.heap x p D g)(b:findIn K (.ref D) "__getattribute__"=some (some (.builtin "BaseException.__getattribute__")))(i:findIn K (.ref D) "__getattr__"=some none)(n:mroIn K D (.type "BaseException")=some true)
  (J:ig D x s.heap) (z:findObj K D g name=some (.value v)) (o:handedIn v=true) (h:Q v { s with toks:=s.toks+1 }) :
  J0 (L4 prog w) A (getAttr (.ref x) name a) Q E s:=by
 obtain⟨m,B,d,t,os⟩:=s;have j:=I.type (M:=L4 prog w);have u:=looks_findIn (M:=L4 prog w) X b;have q:=looks_findIn (M:=L4 prog w) X i;have l:=looks_find (M:=L4 prog w) X I z;unfold getAttr getAttrBy;refine o0 (wpAny_mkText (N6 (o0 (j.at (o0 (u.at ?_))))));have e:(af1 "BaseException.__getattribute__"==af1 "object.__getattribute__")=false:=by decide +kernel
 simp only[e,R8,F0,if_false];unfold getAttrByItsOwn hookBefore;refine o0 (q.at (o0 (ao9 (N6 ?_))));unfold callGetattribute boundAndCalled;simp only[onTheHeap,R8,F0,if_false];rw[show bindSpecial (.builtin "BaseException.__getattribute__") (.ref x)=af8 (.builtin "BaseException.__getattribute__",[.ref x])from ag1.ga.bind _];refine o0 (E6 (ad6 ?_));refine W1 ag1.ga.plain F.entry_bexc_ga (qm X J n ?_);refine o0 (E6 (o0 (E6 (o0 (j.at (o0 (l.at ?_)))))));refine E6 ?_;show J0 _ _ (handedOut v) _ _ _;rw[handedOut_of o];exact E6 h
end
end L2
namespace L2
open PySem PySem.Spec PyProof.Rows
theorem oz{prog:K9}{w:P7}{A:M8}{E:u8->E9->Prop}{s:E9}{K:W.Frag}{x C:F4}{q:Obj}{name:Str}{v:u8}{L:Array u8}{cd:ClassData}{Q:Unit->E9->Prop}
  (X:K.In s.heap) (he:s.heap.get? x=some q) (n:q.cls=.ref C) (j:q.dict=none) (l:q.data=.fields L)
  (hs:W.findIn K (.ref C) "__setattr__"=some (some (.builtin "object.__setattr__"))) (Y:W.clsIn K C=some cd) (U:W.mroIn K C (.type "object")=some true)
  (H:∀self,refuseLoop self "__setattr__" cd.mro=af8 ()) (ha:W.findIn K (.ref C) name=some none) (hh:cd.hasDict=true)
  (h:∀(h':K3) (d:F4),(∀b o,b≠x->s.heap.get? b=some o->h'.get? b=some o)->s.heap.objs.size<=d->h'.get? x=some { q with dict:=some d }->(∃o,h'.get? d=some o/\W.lookIn name o=some (some v))->Q () { s with heap:=h',toks:=s.toks+2 }) :
  J0 (L4 prog w) A (setAttr (.ref x) name v) Q E s:=by
 have I:W.InstAt s.heap x q C none:=⟨he,n,by unfold W.notCls;rw[l],by rw[j];trivial⟩;refine W.set_plain X I hs ?_;have J:=F.store_object;have sub:am9 (L4 prog w) s.heap (ar6 (.ref x) (.type "object")) true:=am9.andThen (W.InstAt.type I) (W.looks_mroIn X U);refine W1 J.slot.plain J.entry ?_;have hk:=J.kind;have R:=J.split;have S:=J.args (J6 x) (an8 name s.toks) v;refine W.check_slot (i:="object.__setattr__") (owner:="object") (self:=.ref x) (rest:=[an8 name s.toks,v]) (kw:=[]) hk R sub S ?_;rw[W.osa_eq,refuse_eq];have hm:am9 (L4 prog w) s.heap (mroOf (.ref C)) cd.mro:=am9.andThen (W.looks_clsIn X Y) am9.now;refine o0 (o0 (ak7 (W.InstAt.type I) (o0 (ak7 hm ?_))));rw[H];refine E6 (o0 (ak7 (W.InstAt.type I) (o0 (ak7 (W.looks_findIn X ha) (o0 (ak7 (r:=none) am9.now ?_))))));obtain⟨Z,od,P,G⟩:=q;obtain rfl:Z=.ref C:=n;obtain rfl:od=none:=j;obtain rfl:P=.fields L:=l;obtain⟨a,g,d,t,os⟩:=s;refine o0 (E6 (o0 (o0 (ag3 he (o0 (ak7 (W.looks_clsIn X Y) ?_))))));rw[hh];refine S2 (am6 (decide ((!true)=true))) ?_;refine S2 (am6 (decide ((!true || !typeHasDict (J6 C))=true))) ?_;refine o0 (wpAny_alloc (o0 (wpAny_update (E7 _ he) ?_)));dsimp only;have m:a.get? a.objs.size=none:=S5 (F6 _);have B:a.objs.size≠x:=λz=>by rw[z]at m;dsimp only at he;rw[he]at m;cases m
 refine E6 ?_;have N:(a.push { cls:=N3 "dict",data:=an9 #[] }).get? x=some { cls:=.ref C,data:=.fields L,slots:=G }:=E7 _ he;have T:((a.push { cls:=N3 "dict",data:=an9 #[] }).update x λo=>{ cls:=o.cls,dict:=some a.objs.size,data:=o.data,slots:=o.slots }).get? x=some { cls:=.ref C,dict:=some a.objs.size,data:=.fields L,slots:=G } :=
  P3 _ N rfl
 have p:((a.push { cls:=N3 "dict",data:=an9 #[] }).update x λo=>{ cls:=o.cls,dict:=some a.objs.size,data:=o.data,slots:=o.slots }).get? a.objs.size=some { cls:=N3 "dict",data:=an9 #[] }:=by
  rw[L5 _ _ (U2 B)];exact K1 _ rfl
 have O:∀b o,b≠x->a.get? b=some o->((a.push { cls:=N3 "dict",data:=an9 #[] }).update x λo=>{ cls:=o.cls,dict:=some a.objs.size,data:=o.data,slots:=o.slots }).get? b=some o:=λb o M e=>by
  rw[L5 _ _ (U2 M)];exact E7 _ e
 generalize ((a.push { cls:=N3 "dict",data:=an9 #[] }).update x λo=>{ cls:=o.cls,dict:=some a.objs.size,data:=o.data,slots:=o.slots })=h1 at *
 refine o0 (E6 (o0 ?_));show J0 _ _ (R5 _ _) _ _ _;refine o0 (o0 (wpAny_askSetting (E6 ?_)));refine o0 (wpAny_mkText (o0 (ag3 p ?_)));dsimp only;refine S2 (show decide (aRefKeyMayBeTheName name #[]=true)=false from rfl) (wpAny_updatePart p ?_);dsimp only;have u:=P3 (Obj.putName name (if name.cps.isEmpty=true then 0 else ar5 ((L4 prog w).w.params.strHash name.cps)) (an8 name (t+1)) v) p rfl;refine o0 (o0 (ag3 u ?_));refine E6 (E6 ?_);refine h _ a.objs.size (λb o M e=>?_) (F6 _) ?_ ⟨_,u,?_⟩
 ·rw[L5 _ _ (λz=>by subst z;dsimp only at e;rw[m]at e;cases e)];exact O b o M e
 ·rw[L5 _ _ B];exact T
 ·exact(congrArg (W.lookIn name) (W.putName_dict name _ _ v [] 0)).trans (by rw[W.lookIn_dict];simp[W.putL,W.getL,u8.isStr])
def kq(f:Str)(dd:F4)(v:V)(h:K3):Prop:=∃o u,h.get? dd=some o/\an6 f o=some (some u)/\aM v u
theorem zx{P:K9}{w:P7}{H:Hp}{h:K3}{f:Str}{dd:F4}{v:V}(x:kq f dd v h):bT P w H h dd (.ext (kq f dd v)):=by
 obtain⟨o,u,g,l,r⟩:=x;exact⟨⟨o,u,g,l,r⟩,⟨_,g⟩,λa b ⟨o,u,q,l,r⟩ k=>⟨o,u,k _ q,l,r⟩⟩
def lh(x:Option F4)(C e:F4)(h:K3):Prop:=∃b a,h.get? e=some { cls:=.ref C,dict:=x,data:=.fields #[b,.none,.none,.none,.bool false,.none],slots:=a }
theorem yM{P:K9}{w:P7}{H:Hp}{h:K3}{y:Option F4}{C e:F4}(x:lh y C e h):bT P w H h e (.ext (lh y C e)):=by
 obtain⟨i,a,g⟩:=x;exact⟨⟨i,a,g⟩,⟨_,g⟩,λj l ⟨b,c,q⟩ k=>⟨b,c,k _ q⟩⟩
section
variable{X:Cx}{G xW B:Str}{C W fI:F4}
def tSF(B:Str)(C:F4)(i j:Nat):TS:=λD b H=>∃e v,b[i]?=some (some (.ref e))/\b[j]?=some (some v)/\H e=some (.ext (n8 C e))/\∀a,H a=none->D.nx b (upd (upd H e (.ext (lh (some a) C e))) a (.ext (kq B a v)))
theorem CT(Y:mJ X.K X.mg G xW B C W fI)(i j:Nat){x y:Str}{Z O pa pos:Pos}(hx:PE X (.Name x Z) (u0 i))(hy:PE X (.Name y O) (u0 j))
  (hs:ah5 (.Name y O) (some (.Attribute (.Name x Z) B pa)) pos.line X.env=af8 false:=by rfl):PS X (.Assign [.Attribute (.Name x Z) B pa] (.Name y O) pos) (tSF B C i j):=by
 intro aa s P H D I h;obtain⟨e,v,ei,ej,E,q⟩:=h;refine plainObj_wpAny_Assign_Attribute (thn (hy aa s P H (λJ T=>J=v/\T=H) I ⟨v,ej,rfl,rfl⟩) λu s1 M=>?_) hs;obtain⟨v0,_,I1,rv,ev,rfl⟩:=M;subst ev;refine thn (hx aa s1 P _ (λJ T=>J=.ref e/\T=_) I1 ⟨_,ei,rfl,rfl⟩) λu2 U Q=>?_;obtain⟨_,H2,t,S,rfl,rfl⟩:=Q;obtain rfl:u2=.ref e:=S;obtain⟨⟨a0,a1,g⟩,_⟩:=t.hok e _ E;obtain⟨nm,q',N,bs,sn,sub,ab,L,dd,k0,k1,k2,k3,k5,lC⟩:=Y.lC;refine oz t.kIn g rfl rfl rfl Y.sC (cd:={ name:=nm,bases:=bs,mro:=[.ref C,.ref W,.type "ValueError",.type "Exception",.type "BaseException",.type "object"],ns:=N,qualname:=q',hasDict:=true,slotNames:=sn,subclasses:=sub,abstract:=ab,collection:=L }) ?_ Y.mC (λw=>uv w C W) Y.tC rfl λh' n kp R ge gd=>?_
 ·unfold ap0;rw[lC]
 ·have I3:=t.write (t':=U.toks+2) (x:=e) (e:=e) (o:=.ext (lh (some n) C e)) (by rw[E];trivial) (.inl rfl) (λb u hb hu=>kp b u hb hu) ⟨_,ge⟩ (yM ⟨_,_,ge⟩);have A:H2 n=none:=t.hok.fresh R;have ne:n≠e:=λz=>by rw[z,E]at A;cases A
  obtain⟨o,go,lo⟩:=gd;have n0:U.heap.get? n=none:=S5 R;have l:∀{b o},U.heap.get? b=some o->b≠n:=λe z=>by rw[z,n0]at e;cases e
  refine⟨P,_,I3.track (a:=n) (φ:=kq B n v0) (by rw[aG ne];exact A) (zx ⟨o,_,go,lo,rv⟩) (S5 (O9 t.sz R)) ?_ (λx c e=>?_) (λp hp=>?_),q n A⟩
  ·obtain⟨m,⟨o,es,ep,g,_⟩,_⟩:=t.loc;exact(l g).symm
  ·obtain⟨v,o,g,_⟩:=t.cell x c e;exact l g
  ·exact l (t.pin p hp).1
end
def spF(fld:Str)(C:F4):Sp:=λb H Q _=>∃e v,b=[.ref e,v]/\H e=some (.ext (n8 C e))/\∀a,H a=none->Q .non (upd (upd H e (.ext (lh (some a) C e))) a (.ext (kq fld a v)))
section
variable{X:Cx}{B xW g:Str}{C W G:F4}{y:List (F4×Obj)}{σ:St}{H:Hp}{s:E9}
def rfQ(g:Str)(XW:F4->Hp->Prop):List V->Hp->Prop
 |[x],b=>∀a,b a=none->XW a (upd b a (.ext (kq g a x)))
 |_,_=>False
def tRF(g:Str)(XW:F4->Hp->Prop)(te:TE):TS:=λ_ σ H=>te σ H λx a=>rfQ g XW [x] a
theorem Ck{XW:F4->Hp->Prop}{k:Nat}{fd:K4}{ps:List Str}{e:N1}{te:TE}{p pos pc:Pos}(Y:mJ X.K X.mg B xW g C W G)(F:aP X.prog X.w X.K X.mg X.base CX0 k G fd ps (spF g C))(hb:cE X.K fd ps [])(hf:∃oI,X.K.lookup G=some oI/\oI.cls=N3 "function")
  (hr:cc (k+1) X.A) (hg:Gl X B) (hc:X.calm=true) (he:PE X e te)
  (hx:∀y σ H s a dd,Inv X y σ H s->XW dd H->H a=none->lh (some dd) C a s.heap->X.s₀.heap.get? a=none->X.xe (.ref a) s)
  (hdb:(B==("__debug__":Str))=false:=by decide) (w:F3 [e] X.env=(false,aa2 e X.env)::F3 [] X.env:=by rfl) :
  PS X (.Raise (some (.Call (.Name B p) [e] [] pc)) none pos) (tRF g XW te):=by
 intro y s σ H D I h;obtain⟨nm,q',N,bs,sn,sub,ab,A,dd,k0,k1,k2,k3,k5,lC⟩:=Y.lC;obtain⟨oI,lI,cI⟩:=hf;refine lK (C:=C) (bm:=[.ref W,.type "ValueError",.type "Exception",.type "BaseException",.type "object"]) (hdct:=true) (nm:=nm) (q:=q') (N:=N) (bs:=bs) (sn:=sn) (sub:=sub) (ab:=ab) (col:=A) (dd:=dd) (k0:=k0) (k1:=k1) (k2:=k2) (k3:=k3) (k5:=k5) (newId:="ValueError.__new__") rfl (I.ok.hd hc) (V5 (hV I hg Y.gC ?_ hdb));have ha:PA X [e] (pV te zi):=bA he de w;refine ah7 (h₀:=X.base) I.ok.mod.kin Y.kC (thn (ha pc y s σ H (rfQ g XW) I h) λl s1 hs=>⟨?_,?_⟩) w rfl
 ·obtain⟨vs,n,j,R,_⟩:=hs;exact j.kIn
 obtain⟨vs,n,j,R,q⟩:=hs;obtain⟨v,rfl⟩:∃v,vs=[v]:=by
  match vs,q with
  |[v],_=>exact⟨v,rfl⟩
 obtain⟨hp,gs,d,t,os⟩:=s1;have P:l.length=1:=by rw[<-R.length];rfl
 refine qU PySem.F.excBase_ValueError (Y.tail j.kIn) (j.kIn _ _ lC) j.kIn Y.iC (j.kIn _ _ lI) cI (λh' a m o=>?_) ?_
 ·obtain⟨kp,new,t',ge,_,_⟩:=o;have I2:Inv X y σ (upd n a (.ext (n8 C a))) { heap:=h',gens:=gs,drawn:=d,toks:=t,os:=os }:=j.laid (t':=t) kp m (tu ⟨_,_,ge⟩);have S:n a=none:=j.hok.fresh m;have r2:aw [V.ref a,v] (J6 a::l):=.cons rfl R;have L:spF g C [V.ref a,v] (upd n a (.ext (n8 C a))) (λu H2=>u=.non/\∃dd,n dd=none/\dd≠a/\H2=upd (upd n dd (.ext (kq g dd v))) a (.ext (lh (some dd) C a))) E0:=⟨a,v,rfl,aX,λdd M=>by
   have T:dd≠a:=λz=>by rw[z,aX]at M;cases M
   rw[aG T]at M;refine⟨rfl,dd,M,T,?_⟩;rw[yo];funext b;unfold upd
   by_cases z1:b=dd
   ·subst z1;simp[T]
   ·simp[z1]⟩
  have a1:(J6 a::l++[]).length=ps.length:=by
   rw[V4,<-r2.length];exact F.len _ _ _ _ L
  refine ad6 (ac5 (F.run _ X.stack _ _ ⟨J6 a::l,[]⟩ (J6 a::l) _ _ E0 (hr.make C l []) (I2.env0.make C l []) (by simpa using hb _ (J6 a::l) I2.kIn a1) r2 L) λr s' i=>?_);cases r with
  |error e=>exact i.elim
  |ok fl =>
   cases fl with
   |ret u =>
    obtain⟨v3,H3,Z,a2,rfl,O,U,Q,rfl⟩:=I2.after i;obtain rfl:u=J9:=a2;obtain⟨a0,J,g3⟩:=(Z.hok a _ aX).1;refine⟨rfl,a,_,a0,J,rfl,Z.kIn _ _ lC,g3,?_⟩;have E:upd n O (.ext (kq g O v)) a=none:=by rw[aG (U2 Q)];exact S
    refine hx y σ _ s' a O (Z.forget E) (q O U) E ⟨a0,J,g3⟩ ?_;exact S5 (O9 j.sz m)
   |next=>exact T9 i
   |brk=>exact T9 i
   |cont=>exact T9 i
 ·rw[N0,P];exact ae0 (jz (by decide))
end
def ExG(x:Option F4)(C:F4)(o:Obj):Prop:=ExF C o/\o.dict=x
theorem iQ{x:Option F4}{C:F4}:jG (ExG x C):=λo v ⟨a,b⟩=>⟨rE o v a,by
 obtain⟨c,d,e,g⟩:=o;cases e<;>exact b⟩
def CM(x:Option F4)(C a T:F4)(h0 h:K3):Prop:=∃b g e i,h.get? a=some b/\ExG x C b/\b.data=.fields g/\g[1]?=some (.ref T)/\h0.get? T=none/\T≠a/\h.get? T=some e/\e.data=.fields i/\i[3]?=some .none
def CX2(P:K9)(w:P7)(Cs:List F4):CXT:=λb H s E e h=>∃(i:Nat) (C:F4) (x:Option F4) (a T:F4) (g:Hp),Cs[i]?=some C/\e=.ref a/\h.os=s.os/\ak8 h.gens/\Un (frs b) [] H g s.heap h.heap/\HOk P w g h.heap/\s.heap.get? a=none/\g a=none/\g T=none/\CM x C a T s.heap h.heap/\E (.ref C) x g
section
variable{P:K9}{w:P7}{K:E5}{G:Str->Option u8}{base:K3}{N:List Str}{B:Str}{y:af7}{f:F4}{cd:u8}{A:M8}{p:List Env}{s:E9}{H:Hp}{E:XK}{Cs:List F4}
theorem we{aa:List (F4×Obj)}{σ:St}{M:Hp}{l:E9}{a C:F4}{x0:Option F4}{i:Nat}(I:Inv (ja (CX2 P w Cs) P w K G base N B y f cd A p s H E) aa σ M l)(hC:Cs[i]?=some C)(q:E (.ref C) x0 M)(hn:M a=none)(x:lh x0 C a l.heap)(h0:s.heap.get? a=none):
  (ja (CX2 P w Cs) P w K G base N B y f cd A p s H E).xe (.ref a) l:=by
 obtain⟨a0,a4,g⟩:=x;have U:=I.stack;have m:∀b∈frs (ac6 B y s.heap.objs.size f cd::p),∃o,l.heap.get? b=some o/\∀vs:Array u8,o.data≠ae2 vs:=λb j=>(U.mem j).2;have a3:a∉frs (ac6 B y s.heap.objs.size f cd::p):=λj=>by
  obtain⟨o,e,d⟩:=m a j;rw[g]at e;cases e;exact d _ rfl
 refine qf iQ (base:=am0 l.heap (a::frs (ac6 B y s.heap.objs.size f cd::p))) I.ok.frames ?_ (L:=s.heap.objs.size) rfl g ?_ ?_ rfl rfl ⟨⟨rfl,_,rfl,rfl⟩,rfl⟩ λh' lf=>?_
 ·exact PySem.W.funFrames_hide U λa2 he b j=>K6 _ (U5.mpr ⟨a2,he,j⟩)
 ·exact λb o e=>ah4 _ e
 ·exact Z1 _ Q0
 obtain⟨st,ff,⟨oe,vs,T,oT,ts,t1,t2,t3,t4,t5,t6,t7,t8,t9⟩,up⟩:=lf;have keep:∀b o,l.heap.get? b=some o->b≠a->b∉frs (ac6 B y s.heap.objs.size f cd::p)->h'.get? b=some o:=λb o e j t=>st b o (W4 _ e (λz=>(J3.mp z).elim j t));have hT:l.heap.get? T=none:=by
  cases e:l.heap.get? T with
  |none=>rfl
  |some o =>
   by_cases t:T∈frs (ac6 B y s.heap.objs.size f cd::p)
   ·obtain⟨o',Q,R⟩:=m T t;obtain⟨sl,S⟩:=up T o' Q R;rw[t7]at S;cases S;exact absurd t8 (R ts)
   ·rw[W4 _ e (λz=>(J3.mp z).elim t6 t)]at t5;cases t5
 have un:Un (frs p) [] H M s.heap l.heap:=I.base;have J:∀b∈frs (ac6 B y s.heap.objs.size f cd::p),M b=none:=I.stkFree;have a1:∀b o,s.heap.get? b=some o->b∈frs (ac6 B y s.heap.objs.size f cd::p)->b∈frs p:=λb o e j=>by
  rcases J3.mp j with z|z
  ·subst z;exact absurd (I0 e) (Z3 _)
  ·exact z
 refine⟨i,C,x0,a,T,M,hC,rfl,I.os,I.bare,⟨λb o e n X O=>?_,λb o e n X O=>?_,λb o e n O=>un.free b o e n O,λb o e O=>?_,un.tups,un.frzs,un.tbls⟩,λb o e=>?_,h0,hn,?_,⟨oe,vs,oT,ts,t1,t2,t3,t4,?_,t6,t7,t8,t9⟩,q⟩
 ·exact keep b o (un.keep b o e n X O) (λz=>by rw[z,h0]at e;cases e) λz=>X (a1 b o e z)
 ·obtain⟨sl,h⟩:=un.slot b o e n X O;obtain⟨o',Q,R⟩:=m b (K6 _ X);rw[h]at Q;cases Q;obtain⟨Y,S⟩:=up b _ h R;exact⟨Y,S⟩
 ·obtain⟨Z,h⟩:=un.there b o e O
  by_cases t:b∈frs (ac6 B y s.heap.objs.size f cd::p)
  ·obtain⟨o',Q,R⟩:=m b t;obtain⟨Y,S⟩:=up b _ Q R;exact⟨_,S⟩
  ·exact⟨Z,keep b Z h (λz=>by rw[z,h0]at e;cases e) t⟩
 ·refine(I.hok b o e).stay (λc v u r=>keep c v r ?_ ?_) (λc r=>r) λc xs r=>r
  ·rintro rfl;rcases u with rfl|u
   ·rw[hn]at e;cases e
   ·rw[hn]at u;cases u
  ·intro t;have:=J c t;rcases u with rfl|u
   ·rw[this]at e;cases e
   ·rw[this]at u;cases u
 ·cases e:M T with
  |none=>rfl
  |some o =>
   obtain⟨Z,h⟩:=(I.hok T o e).is;rw[hT]at h;cases h
 ·cases e:s.heap.get? T with
  |none=>rfl
  |some o =>
   obtain⟨Z,h⟩:=un.there T o e (by simp);rw[hT]at h;cases h
theorem DJ:iJ (CX2 P w Cs) (ja (CX2 P w Cs) P w K G base N B y f cd A p s H E) (λc x M=>E c x M):=by
 intro aa σ H1 s1 e u I h;obtain⟨i,C,dd,a,T,M,hC,rfl,os,a3,a9,a8,h0,O,U,fl,qx⟩:=h;have t:Inv (ja (CX2 P w Cs) P w K G base N B y f cd A p s H E) aa σ M u:=I.call' (ch:=[]) os a9 a8 a3 λb z=>absurd z (by simp);obtain⟨oe,vs,oT,ts,f1,f2,f3,f4,f5,f6,f7,f8,f9⟩:=fl;have a1:=t.stack;have R:∀b∈frs (ac6 B y s.heap.objs.size f cd::p),∃o,u.heap.get? b=some o/\∀vs:Array u8,o.data≠ae2 vs:=λb J=>(a1.mem J).2;have g0:s.heap.get? a=none:=by
  cases e:s.heap.get? a with
  |none=>rfl
  |some o =>
   obtain⟨X,g⟩:=I.base.there a o e (λz=>nomatch z);rw[h0]at g;cases g
 have gT:s.heap.get? T=none:=by
  cases e:s.heap.get? T with
  |none=>rfl
  |some o =>
   obtain⟨X,g⟩:=I.base.there T o e (λz=>nomatch z);rw[f5]at g;cases g
 refine rA iQ (base:=am0 u.heap (a::T::frs (ac6 B y s.heap.objs.size f cd::p))) t.ok.frames
  (PySem.W.funFrames_hide a1 λb3 he b J=>K6 _ (K6 _ (U5.mpr ⟨b3,he,J⟩))) (L:=s.heap.objs.size) rfl
  ⟨oe,vs,T,oT,ts,f1,f2,f3,f4,Z1 _ (by simp),f6,f7,f8,f9⟩ (λb o e=>ah4 _ e) (Z1 _ (by simp)) λh' b0=>?_
 obtain⟨st,ff,⟨b4,b2,l,b1,a2,t1,t2,t3,t4,t5,t6,t7,t8,t9⟩,up⟩:=b0;have keep:∀b o,u.heap.get? b=some o->b≠a->b≠T->b∉frs (ac6 B y s.heap.objs.size f cd::p)->h'.get? b=some o:=λb o e J a' q=>st b o (W4 _ e (λz=>by
  rcases J3.mp z with z|z
  ·exact J z
  rcases J3.mp z with z|z
  ·exact a' z
  ·exact q z))
 have a0:l=T∨u.heap.get? l=none:=by
  by_cases z:l=T
  ·exact .inl z
  ·right;cases e:u.heap.get? l with
   |none=>rfl
   |some o =>
    by_cases q:l∈frs (ac6 B y s.heap.objs.size f cd::p)
    ·obtain⟨o',Y,d'⟩:=R l q;obtain⟨sl,Z⟩:=up l o' Y d';rw[t7]at Z;cases Z;exact absurd t8 (d' a2)
    ·rw[W4 _ e (λm=>by
      rcases J3.mp m with m|m
      ·exact t6 m
      rcases J3.mp m with m|m
      ·exact z m
      ·exact q m)]at t5
     cases t5
 have un:Un (frs p) [] H M s.heap u.heap:=t.base;have Q:∀b∈frs (ac6 B y s.heap.objs.size f cd::p),M b=none:=t.stkFree;have a5:∀b o,s.heap.get? b=some o->b∈frs (ac6 B y s.heap.objs.size f cd::p)->b∈frs p:=λb o e J=>by
  rcases J3.mp J with z|z
  ·subst z;exact absurd (I0 e) (Z3 _)
  ·exact z
 have na:∀{b o},s.heap.get? b=some o->b≠a:=λe z=>by rw[z,g0]at e;cases e
 have nT:∀{b o},s.heap.get? b=some o->b≠T:=λe z=>by rw[z,gT]at e;cases e
 refine⟨i,C,dd,a,l,M,hC,rfl,t.os,t.bare,⟨λb o e n h1 S=>?_,λb o e n h1 S=>?_,λb o e n S=>un.free b o e n S,λb o e S=>?_,un.tups,un.frzs,un.tbls⟩,λb o e=>?_,g0,O,?_,⟨b4,b2,b1,a2,t1,t2,t3,t4,?_,t6,t7,t8,t9⟩,qx⟩
 ·exact keep b o (un.keep b o e n h1 S) (na e) (nT e) λz=>h1 (a5 b o e z)
 ·obtain⟨sl,g⟩:=un.slot b o e n h1 S;obtain⟨o',Y,d'⟩:=R b (K6 _ h1);rw[g]at Y;cases Y;obtain⟨a4,Z⟩:=up b _ g d';exact⟨a4,Z⟩
 ·obtain⟨X,g⟩:=un.there b o e S
  by_cases q:b∈frs (ac6 B y s.heap.objs.size f cd::p)
  ·obtain⟨o',Y,d'⟩:=R b q;obtain⟨a4,Z⟩:=up b _ Y d';exact⟨_,Z⟩
  ·exact⟨X,keep b X g (na e) (nT e) q⟩
 ·refine(t.hok b o e).stay (λc v j r=>keep c v r ?_ ?_ ?_) (λc r=>r) λc xs r=>r
  ·rintro rfl;rcases j with rfl|j
   ·rw[O]at e;cases e
   ·rw[O]at j;cases j
  ·rintro rfl;rcases j with rfl|j
   ·rw[U]at e;cases e
   ·rw[U]at j;cases j
  ·intro q;have:=Q c q;rcases j with rfl|j
   ·rw[this]at e;cases e
   ·rw[this]at j;cases j
 ·rcases a0 with rfl|z
  ·exact U
  ·cases e:M l with
   |none=>rfl
   |some o =>
    obtain⟨X,g⟩:=(t.hok l o e).is;rw[z]at g;cases g
 ·rcases a0 with rfl|z
  ·exact gT
  ·cases e:s.heap.get? l with
   |none=>rfl
   |some o =>
    obtain⟨X,g⟩:=un.there l o e (by simp);rw[z]at g;cases g
end
def xA(i:Nat)(x:Option F4):D:=.box (.dk [.inl (i:Int)]) (match x with|none=>[]|some d=>[.ref d,.ref d])
def isX:D->Option (Nat×Option F4)
 |.box (.dk [.inl i]) []=>some (i.toNat,none)
 |.box (.dk [.inl i]) [.ref d,.ref _]=>some (i.toNat,some d)
 |_=>none
theorem dg{i:Nat}{x:Option F4}:isX (xA i x)=some (i,x):=by cases x<;>simp[xA,isX]
theorem vV{d:D}{i:Nat}{x:Option F4}(h:isX d=some (i,x)):(∃j:Int,d=.box (.dk [.inl j]) [])∨∃(j:Int) (a b:F4),d=.box (.dk [.inl j]) [.ref a,.ref b]:=by
 unfold isX at h
 split at h
 ·exact .inl ⟨_,rfl⟩
 ·exact .inr ⟨_,_,_,rfl⟩
 ·cases h
theorem tY{K:E5}{M:DH}{H:Hp}{v:V}{d:D}(h:Rep K M H d v):isX d=none:=by
 cases e:isX d with
 |none=>rfl
 |some p =>
  rcases vV (i:=p.1) (x:=p.2) e with⟨j,rfl⟩|⟨j,a,b,rfl⟩
  ·obtain⟨a,l,_,⟨g,_⟩,r⟩:=h;simp only[ao]at r;subst r;cases g
  ·obtain⟨a,l,_,⟨g,_⟩,r⟩:=h;have:=r.length;simp at this g
   lia
def EG(f:Str)(dd:F4):List V->K3->Prop
 |[v]=>kq f dd v
 |_=>λ_=>False
def qQ(f:Str)(dd:F4)(d:D):HD:=.ext (EG f dd) [d]
def Ed(K:E5)(Cs:List F4)(XW:F4->Option F4->Hp->Prop)(t:TSd):TS:=λD b H=>∃(a:DE) (M:DH) (E:dH),SR K M H b a/\HR K M H/\t E a M/\UpE K E D M H/\∀(i:Nat) (x:Option F4) (C:F4) M' H',E.rt (xA i x) M'->Cs[i]?=some C->Ext M H M' H'->HR K M' H'->XW C x H'
def PSy(X:Cx)(Cs:List F4)(XW:F4->Option F4->Hp->Prop)(st:Z7)(t:TSd):Prop:=PS X st (Ed X.K Cs XW t)
def qg(X:Cx)(Cs:List F4)(XW:F4->Option F4->Hp->Prop)(st:List Z7)(t:TSd):Prop:=PSs X st (Ed X.K Cs XW t)
section
variable{X:Cx}{XW:F4->Option F4->Hp->Prop}{Cs:List F4}{a b c e:N1}{te:TEd}{pos:Pos}{st:Z7}{rest:List Z7}{t u:TSd}{B I y:Str}{C W G:F4}
theorem uW(h:QSd X st t):PSy X Cs XW st t:=by
 rw[QSd.eq]at h;exact PS.conv h λD g H ⟨e,M,E,b,a,q,k,_⟩=>⟨e,M,E,b,a,q,k⟩
theorem xm:qg X Cs XW [] v8:=sk.conv λD e H ⟨g,M,E,b,a,q,u,_⟩=>u.nx g M e H q (Ext.refl _ _) a b
theorem fF(s:PSy X Cs XW st t)(J:qg X Cs XW rest u):qg X Cs XW (st::rest) (yR t u) :=
 (lY s J).conv λD O H ⟨A,M,E,w,C,q,k,x⟩=>⟨A,M,{ E with nx:=u E },w,C,q,⟨λa j z L G i e h=>⟨a,j,E,h,e,G,k.ext i,λI n B b g l p m o=>x I n B b g l p (i.trans m) o⟩,k.bk,k.ct,k.rt⟩,x⟩
theorem gh(a:PSy X Cs XW st t):qg X Cs XW [st] t:=oW a
theorem DK{B A:List Z7}{tc:TTd}(C:QTd X c tc)(ha:qg X Cs XW B t)(I:qg X Cs XW A u):PSy X Cs XW (.If c B A pos) (B6 tc t u):=by
 rw[QTd.eq]at C;exact(zO C ha I).conv λD J H ⟨z,M,E,s,G,q,k,x⟩=>⟨z,M,_,s,G,q,λb M1 L i g h=>by
  cases b with
  |true=>simp only[if_true]at i ⊢;exact⟨z,M1,E,s.ext g,h,i,k.ext g,λw n j a e l p m o=>x w n j a e l p (g.trans m) o⟩
  |false=>simp only[F0,if_false]at i ⊢;exact⟨z,M1,E,s.ext g,h,i,k.ext g,λw n j a e l p m o=>x w n j a e l p (g.trans m) o⟩⟩
theorem DP{R iter:N1}{s:List Z7}{wi:TId}{g:GD}{Q:TSd}(hp:V2 (L4 X.prog X.w) X.A X.env X.xe)(hc:X.calm=true)(hi:QId X R iter wi)(hg:PGd X R g)(hb:qg X Cs XW s Q)
  (hs:∀x,W6 iter X.env x=af8 x:=by intro _;rfl):PSy X Cs XW (.For R iter s [] pos) (BA wi g Q):=by
 rw[QId.eq]at hi;obtain⟨gv,pg,kg⟩:=hg;refine(xj hp hc hi pg hb hs).conv λD σ H hh=>?_;obtain⟨Z,M,E,sr,hr,q,k,xx⟩:=hh;refine⟨Z,M,_,sr,hr,q,λo M1 J H1 q1 I T it=>?_⟩;refine⟨λi m e n=>∃ a b,m=o.length-i/\i<=o.length/\Ext M1 H1 b n/\HR X.K b n/\SR X.K b n e a/\cB g Q E (o.drop i) a b,⟨o.length,Z,M1,by simp,P1 _,Ext.refl _ _,T,sr.ext I,q1⟩,?_⟩;rintro i m B H2 ⟨P,M2,rfl,a1,w,L,N,C⟩;obtain⟨go,stop⟩:=it M2 H2 w L i
 by_cases p:i<o.length
 ·have hd:o[i]?=some o[i]:=by simp[p]
  obtain⟨g1,y1⟩:=go _ hd;rw[X0 p]at C;simp only[cB]at C;obtain⟨G,eg,f3⟩:=C;refine .inr ⟨g1,λe n=>∃m',m'<o.length-i/\∃ a b,m'=o.length-(i+1)/\i+1<=o.length/\Ext M1 H1 b n/\HR X.K b n/\SR X.K b n e a/\cB g Q E (o.drop (i+1)) a b,λe n z=>z,λx n hy=>?_⟩;obtain⟨A,O,rx⟩:=y1 x n hy;refine kg _ x B P G M2 n _ (N.ext A) O rx eg λa0 S=>?_;refine⟨G,M2,_,S,O,f3,⟨λa b e h t u j l=>?_,λa b e h t u j l=>?_,λa b e h t u j l=>?_,λd b v h t u j U=>?_⟩,λi0 x0 C0 Y h z1 z0 z2 z3=>xx i0 x0 C0 Y h z1 z0 (((I.trans w).trans A).trans z2) z3⟩
  ·exact⟨_,by lia,a,b,rfl,p,(w.trans A).trans u,j,l,t⟩
  ·exact k.nx a b e h t (((I.trans w).trans A).trans u) j l
  ·exact⟨_,by lia,a,b,rfl,p,(w.trans A).trans u,j,l,t⟩
  ·exact k.rt d b v h t (((I.trans w).trans A).trans u) j U
 ·rw[ad7 (by lia)]at C;exact .inl ⟨stop (by lia),k.nx P M2 B H2 C (I.trans w) L N⟩
def sE(y:Str)(i:Nat)(te:TEd):TSd:=λE b M=>te b M λd M1=>∀a,M1 a=none->∃M2,LeM M2 (aF M1 a (qQ y a d))/\E.rt (xA i (some a)) M2
theorem EA(i:Nat){k:Nat}{u:K4}{ps:List Str}{p T:Pos}(L:Cs[i]?=some C)(Y:mJ X.K X.mg B I y C W G)(F:aP X.prog X.w X.K X.mg X.base CX0 k G u ps (spF y C))(J:cE X.K u ps [])(U:∃t,X.K.lookup G=some t/\t.cls=N3 "function")
  (hr:cc (k+1) X.A) (hg:Gl X B) (O:X.calm=true) (he:QEd X e te)
  (S:∀l σ H s a x,Inv X l σ H s->XW C x H->H a=none->lh x C a s.heap->X.s₀.heap.get? a=none->X.xe (.ref a) s)
  (hdb:(B==("__debug__":Str))=false:=by decide) (j:F3 [e] X.env=(false,aa2 e X.env)::F3 [] X.env:=by rfl) :
  PSy X Cs XW (.Raise (some (.Call (.Name B p) [e] [] T)) none pos) (sE y i te):=by
 rw[QEd.eq]at he;refine(Ck (XW:=λb H=>XW C (some b) H) Y F J U hr hg O he (λl σ H s a b=>S l σ H s a (some b)) hdb j).conv λD σ H ⟨Q,M,E,N,hr,q,k,x⟩=>⟨Q,M,_,N,hr,q,λd M1 v n z A g P b w=>?_⟩;obtain⟨M2,h,R⟩:=z b (g.fresh w);have o:Ext M1 n (aF M1 b (qQ y b d)) (upd n b (.ext (kq y b v))):=Ext.own w;have m:HR X.K (aF M1 b (qQ y b d)) (upd n b (.ext (kq y b v))):=g.put o ⟨[v],aX,by simp only[ao];exact⟨_,_,rfl,P.ext o,rfl⟩⟩;exact x i (some b) C M2 _ R L ((A.trans o).trans (Ext.le h)) (m.le h)
end
section
variable{X:Cx}{XW:Hp->Prop}{g:Str}{C W:F4}
theorem Eg{e:N1}{te:TE}{p pos O:Pos}(Y:AS X.K X.mg g C W)(hg:Gl X g)(hc:X.calm=true)(he:PE X e te)
  (hx:∀u σ H s a,Inv X u σ H s->XW H->H a=none->lh none C a s.heap->X.s₀.heap.get? a=none->X.xe (.ref a) s)
  (hex:X.ex=[]:=by rfl) (hdb:(g==("__debug__":Str))=false:=by decide) (l:F3 [e] X.env=(false,aa2 e X.env)::F3 [] X.env:=by rfl) :
  PS X (.Raise (some (.Call (.Name g p) [e] [] O)) none pos) (tRs XW te):=by
 intro u s σ H D I h;obtain⟨E,q',N,bs,hd,Q,sub,ab,n,L,J,U,P,T,Z,cN,dN,es,ep,sN,S,lN,hN⟩:=Y.lC;obtain⟨c0,dW,a2,a3,a5,a4,a1,a0,a8,w1,w2,w3⟩:=Y.lW;refine lK (C:=C) (bm:=[.ref W,.type "ValueError",.type "Exception",.type "BaseException",.type "object"]) (hdct:=hd) (nm:=E) (q:=q') (N:=N) (bs:=bs) (sn:=Q) (sub:=sub) (ab:=ab) (col:=n) (dd:=L) (k0:=J) (k1:=U) (k2:=P) (k3:=T) (k5:=Z) (newId:="ValueError.__new__") rfl (I.ok.hd hc) (V5 (hV I hg Y.gC ?_ hdb));have ha:PA X [e] (pV te zi):=bA he de l;refine ah7 (h₀:=X.base) I.ok.mod.kin Y.kC (thn (ha O u s σ H (λB i=>B.length=1/\XW i) I h) λus s1 R=>⟨?_,?_⟩) l rfl
 ·obtain⟨B,i,b,G,_⟩:=R;exact b.kIn
 obtain⟨B,i,b,G,hl,q⟩:=R;obtain⟨hp,gs,d,t,os⟩:=s1;have w:us.length=1:=by rw[<-G.length];exact hl
 obtain⟨n1,n2⟩:=mY (b.kIn _ _ lN) hN;obtain⟨n3,n4⟩:=mY (b.kIn _ _ w2) w3;refine wpAny_call_exc_subU PySem.F.excBase_ValueError (by decide) PySem.F.excBase_ValueError (aq5.own (b.kIn _ _ w1) n3 n4 aq5.base) (b.kIn _ _ S) n1 n2 (λh' a j=>?_) ?_
 ·obtain⟨kp,new,t',M,_,_⟩:=j;have I2:Inv X u σ i { heap:=h',gens:=gs,drawn:=d,toks:=t,os:=os }:=b.kept (t':=t) kp;have A:i a=none:=by
   cases z:i a with
   |none=>rfl
   |some o =>
    obtain⟨o1,m⟩:=(b.hok a o z).is;rw[new]at m;cases m
  refine⟨a,_,_,_,rfl,I2.kIn _ _ S,M,hx u σ i _ a I2 q A ⟨_,_,M⟩ ?_⟩;cases z:X.s₀.heap.get? a with
  |none=>rfl
  |some o =>
   obtain⟨o1,m⟩:=b.base.there a o z (by rw[hex];simp);rw[new]at m;cases m
 ·rw[N0,w];exact ae0 (jz (by decide))
end
def tv(i:Nat)(te:TEd):TSd:=λE a M=>te a M λ_ M1=>∃M2,LeM M2 M1/\E.rt (xA i none) M2
section
variable{X:Cx}{XW:F4->Option F4->Hp->Prop}{Cs:List F4}{g:Str}{C W:F4}
theorem Ep(i:Nat){e:N1}{te:TEd}{p pos w:Pos}(n:Cs[i]?=some C)(Y:AS X.K X.mg g C W)(hg:Gl X g)(t:X.calm=true)(he:QEd X e te)
  (B:∀h σ H s a x,Inv X h σ H s->XW C x H->H a=none->lh x C a s.heap->X.s₀.heap.get? a=none->X.xe (.ref a) s)
  (hex:X.ex=[]:=by rfl) (hdb:(g==("__debug__":Str))=false:=by decide) (l:F3 [e] X.env=(false,aa2 e X.env)::F3 [] X.env:=by rfl) :
  PSy X Cs XW (.Raise (some (.Call (.Name g p) [e] [] w)) none pos) (tv i te):=by
 rw[QEd.eq]at he;exact(Eg (XW:=XW C none) Y hg t he (λh σ H s a=>B h σ H s a none) hex hdb l).conv λD σ H ⟨u,M,E,o,A,q,k,x⟩=>⟨u,M,_,o,A,q,λd M1 v G ⟨M2,b,m⟩ z j _=>⟨rfl,x i none C M2 G m n (z.trans (Ext.le b)) (j.le b)⟩⟩
end
def spY(K:E5)(n:Nat)(S:SpD)(Cs:List F4):Sp:=λg H Q E=>∃(e:List D) (M:DH) (R:D->DH->Prop),e.length=n/\ao K M H e g/\HR K M H/\S e M R/\(∀d a v b,R d a->Ext M H a b->HR K a b->Rep K a b d v->Q v b) /\
 ∀(i:Nat) (x:Option F4) (C:F4) a b,R (xA i x) a->Cs[i]?=some C->Ext M H a b->HR K a b->E (.ref C) x b
section
variable{P:K9}{w:P7}{K:E5}{p:Str->Option u8}{base:K3}{f:F4}{g:K4}
theorem Fun.okY{x b:Str}{st:Z7}{f:F4}{g:K4}{N ps:List Str}{k n:Nat}{S:SpD}{Cs:List F4}(F:Fun K x b st f g)(hn:ps.length=n)(Sc:av N ps (ai st))
  (l:∀ (e:u8) (A:M8) (a:List Env) (s:E9) (H:Hp) (E:XK),cc k (A.deeper (ac6 b (ai st) s.heap.objs.size f e)) →
   ∃t:TSd,qg (ja (CX2 P w Cs) P w K p base N b (ai st) f e A a s H E) Cs (λC x o=>E (.ref C) x o) (cm st) t/\∀ds M R,ds.length=n->S ds M R->t { nx:=λ_ m=>R .non m,rt:=R } (fu N ds) M):aP P w K p base (CX2 P w Cs) (k+1) f g ps (spY K n S Cs):=by
 obtain⟨oc,od,kV,a1,pm,an,e,ct,X,rfl,L,z⟩:=F.ex;refine zE L z Sc (λU H Q E h=>?_) λA a s H U Q E hr h=>?_
 ·obtain⟨ds,M,R,G,r,_⟩:=h;rw[hn,<-r.length];exact G
 obtain⟨t,J,Z⟩:=l e A a s H E hr;obtain⟨ds,M,R,G,r,u,q,I,O⟩:=h;exact⟨_,J,fu N ds,M,_,qt r,u,Z ds M R G q,⟨λY m a0 o i B j _=>I .non m .non o i B j (by simp[Rep]),λ_ _ _ _ i=>T9 i,λ_ _ _ _ i=>T9 i,λd m v o i B j T=>I d m v o i B j T⟩,O⟩
end
structure FnY(P:K9) (w:P7) (K:E5) (mg:Str->Option u8) (base:K3) (x:Str) (k n:Nat) (S:SpD) (Cs:List F4):Prop where
 ex:∃(f:F4) (fd:K4) (ps:List Str),aP P w K mg base (CX2 P w Cs) k f fd ps (spY K n S Cs)/\mg x=some (.ref f)/\U7 K (.ref f)=true/\cE K fd ps []
section
variable{X:Cx}{XW:F4->Option F4->Hp->Prop}{Cs:List F4}{e:N1}{g:List N1}{t:TAd}{S:SpD}{p:Str}
theorem wm{k n:Nat}{Y A pos:Pos}(R:FnY X.prog X.w X.K X.mg X.base p k n S Cs)(hr:cc k X.A)(m:Gl X p)(hx:iJ (CX2 X.prog X.w Cs) X λc x b=>∀C,c=.ref C->XW C x b)(ha:QAd X (e::g) t)
  (hdb:(p==("__debug__":Str))=false:=by decide) (he:F3 (e::g) X.env=(false,aa2 e X.env)::F3 g X.env:=by rfl) (hpl:(U6 A (F3 g X.env)).any (·.1)=false:=by rfl) :
  PSy X Cs XW (.Return (some (.Call (.Name p Y) (e::g) [] A)) pos) (BJ (nH n S t)):=by
 rw[QAd.eq]at ha;obtain⟨f,fd,ps,F,s,i,z⟩:=R.ex;exact(nM (oY F hr m s i z .nil hx ha hdb he hpl)).conv λD σ H ⟨P,M,E,N,j,q,Q,x⟩=>⟨P,M,_,N,j,q,λJ M1 vs H1 ⟨hl,I⟩ B o O=>by
  dsimp only;rw[V4];exact⟨J,M1,E.rt,hl,O,o,I,λd h v b l w a u=>Q.rt d h v b l (B.trans w) a u,λT G Z h b l L w a C1 U=>by cases U;exact x T G Z h b l L (B.trans w) a⟩⟩
end
theorem fgY{P:K9}{w:P7}{K:E5}{a:Str->Option u8}{base h:K3}{x:Str}{st:Z7}{f:F4}{Cs:List F4}{e:K4}{S:SpD}{k:Nat}{ps:List Str}{n:Nat}(X:K.In h)(G:h.Ns J8 a)(i:bx K x st f e)(o:aP P w K a base (CX2 P w Cs) k f e ps (spY K n S Cs))(b:cE K e ps []):FnY P w K a base x k n S Cs:=⟨_,_,_,o,P9 X G i.a,i.F.kp,b⟩
section
variable{M:ar7}{A:M8}{E:u8->E9->Prop}
variable{nm q H q2:Str}{C N W N2:F4}{bs bm I y:List u8}{hdct z:Bool}{sn Y:List Str}{sub B:List u8}{ab ab2:Bool}{col G:Option Bool}{dd dd2:Option F4}{k0 k1 k2 k3 k5 l0 l1 l2 l3 l5:Option u8}{newId p:String}
theorem yd{h:K3}{g:Array al3}{d:Drawn}{t:Nat}{os:OsState}{e:F4}{m:Obj}{Q:Bool->E9->Prop}
  (j:h.get? C=some (T6 nm q C N bs bm hdct sn sub ab col dd k0 k1 k2 k3 k5 newId)) (l:h.get? W=some (T6 H q2 W N2 I y z Y B ab2 G dd2 l0 l1 l2 l3 l5 p)) (he:h.get? e=some m) (a:m.cls=.ref C)
  (o:y.contains (.type "BaseException")=true) (i:(J6 C::bm).contains (.ref W)=true)
  (n:Q true ⟨h,g,d,t,os⟩):J0 M A (excMatches (.ref e) (.ref W)) Q E ⟨h,g,d,t,os⟩:=by
 have b:(J6 W::y).contains (.type "BaseException")=true:=by rw[List.contains_cons,o,Bool.or_true]
 have f:=tc_notTuple;unfold excMatches
 repeat (first|(with_reducible refine R6 he ?_;rw[a])|with_reducible refine R6 l ?_|with_reducible refine R6 j ?_|(with_reducible refine ag7 l ?_;rw[b])|(with_reducible refine ag7 j ?_;rw[i])|wp_step)
 exact n
end
def ExX(x:Option F4)(C a:F4)(h:K3):Prop:=∃o,h.get? a=some o/\ExG x C o
def ExY(Cs:List F4)(i:Nat)(x:Option F4)(a:F4)(h:K3):Prop:=∃C,Cs[i]?=some C/\ExX x C a h
theorem A0{P:K9}{w:P7}{H:Hp}{h:K3}{Cs:List F4}{i:Nat}{x:Option F4}{a:F4}(z:ExY Cs i x a h):bT P w H h a (.ext (ExY Cs i x a)):=by
 obtain⟨C,b,o,g,r⟩:=z;exact⟨⟨C,b,o,g,r⟩,⟨_,g⟩,λe j ⟨C,b,o,q,r⟩ k=>⟨C,b,o,k _ q,r⟩⟩
def exY(Cs:List F4)(i:Nat)(x:Option F4)(a:F4):HD:=.ext (λ_=>ExY Cs i x a) []
section
variable{X:Cx}{I:List (F4×Obj)}{σ:St}{Y B:Hp}{G s':E9}{C a T:F4}{y:Option F4}{Cs:List F4}{H:Nat}
theorem zA{xW n:Str}{W:F4}{p pos:Pos}{b0:Z7}{s:List Z7}{Q:Flow->E9->Prop}{E':u8->E9->Prop}(A:Inv X I σ Y G)(R:X.stack=X.env::X.outer)(b8:X.env.frame=some X.env.locals)(hg:Gl X xW)(hm:X.mg xW=some (.ref W))
  (lC:∃nm q N bs bm hd sn sub ab col dd k0 k1 k2 k3 k5 newId,X.K.lookup C=some (T6 nm q C N bs bm hd sn sub ab col dd k0 k1 k2 k3 k5 newId)/\(J6 C::bm).contains (.ref W)=true)
  (lW:∃nm q N bs bm hd sn sub ab col dd k0 k1 k2 k3 k5 newId,X.K.lookup W=some (T6 nm q W N bs bm hd sn sub ab col dd k0 k1 k2 k3 k5 newId)/\bm.contains (.type "BaseException")=true)
  (os:s'.os=G.os) (t:ak8 s'.gens) (un:Un (frs X.stack) [] Y B G.heap s'.heap) (u:HOk X.prog X.w B s'.heap) (ha:G.heap.get? a=none) (M:B a=none) (O:B T=none) (b4:Cs[H]?=some C) (fl:CM y C a T G.heap s'.heap) (hex:X.ex=[])
  (k:∀ h,Inv X I σ (upd B a (.ext (ExY Cs H y a))) { s' with heap:=h } → J0 (L4 X.prog X.w) (X.A.mark (some (.ref a))) (storeName X.env n (.ref a)) (λ_ s2 => J0 (L4 X.prog X.w) (X.A.mark (some (.ref a))) (execs (b0 :: s) X.env)
   (λf s3=>J0 (L4 X.prog X.w) X.A (do bindName X.env n .none;unbindBehindTheSuite X.env n pos) (λ_ s4=>Q f s4) E' s3) (λ_ _=>False) s2) (λ_ _=>False) { s' with heap:=h }) (hdb:(xW==("__debug__":Str))=false:=by decide) :
  J0 (L4 X.prog X.w) X.A (aq9 (.ref a) X.env) (λ_ s2=>J0 (L4 X.prog X.w) X.A (setFlight (.ref a) none) (λ_ s3=>J0 (L4 X.prog X.w) X.A (handleBy (.ref a) X.env [.ExceptHandler (some (.Name xW p)) (some n) (b0::s) pos]) Q E' s3) E' s2) E' s':=by
 obtain⟨oe,vs,oT,ts,f1,f2,f3,f4,f5,f6,f7,f8,f9⟩:=fl;have I':Inv X I σ B s':=A.call' (ch:=[]) os un u t λb z=>absurd z (by simp);have S:=I'.stack;have a2:∀b∈frs X.stack,∃o,s'.heap.get? b=some o/\∀vs:Array u8,o.data≠ae2 vs:=λb i=>(S.mem i).2;have hA:X.A.frames=some (X.env::X.outer):=by rw[<-R];exact A.ok.frames
 refine zZ iQ (base:=am0 s'.heap (a::T::frs X.stack)) hA (by rw[<-R];exact PySem.W.funFrames_hide S λb9 he b i=>K6 _ (K6 _ (U5.mpr ⟨b9,he,i⟩))) b8
  ⟨oe,vs,T,oT,ts,f1,f2,f3,f4,Z1 _ (by simp),f6,f7,f8,f9⟩ (λb o e=>ah4 _ e) (Z1 _ (by simp)) λh1 g=>oE g.1 g.2.1 g.2.2.1 λh2 U=>?_
 have up1:=g.2.2.2;obtain⟨b',c',⟨c0,d4,l,d3,b2,t1,t2,t3,t4,t5,t6,t7,t8,t9⟩,a9⟩:=U;have a1:∀b o,s'.heap.get? b=some o->b∉[a,T]->b∉frs X.stack->h2.get? b=some o:=λb o e hz hf=>b' b o (W4 _ e λz=>by
  rcases J3.mp z with z|z
  ·exact hz (by simp[z])
  rcases J3.mp z with z|z
  ·exact hz (by simp[z])
  ·exact hf z)
 have L:∀b o,b∈frs X.stack->s'.heap.get? b=some o->∃sl,h2.get? b=some { o with slots:=sl }:=λb o i e=>by
  obtain⟨o',e',d'⟩:=a2 b i;rw[e]at e';cases e';obtain⟨sl,q1⟩:=up1 b o e d';obtain⟨c1,q2⟩:=a9 b _ q1 d';exact⟨c1,q2⟩
 have b5:∀b∈[a,T],G.heap.get? b=none/\B b=none:=λb i=>by
  rcases J3.mp i with rfl|i
  ·exact⟨ha,M⟩
  ·obtain rfl:=L6.mp i;exact⟨f5,O⟩
 have P:=pk A os t un u a1 L b5;obtain⟨nm,q,N,bs,bm,hd,sn,sub,ab,col,dd,k0,k1,k2,k3,k5,newId,lC,a'⟩:=lC;obtain⟨c4,q',N',e0,c5,d7,d1,c3,d9,c2,d2,d6,d0,d5,d8,c6,a3,lW,a0⟩:=lW;refine wpAny_handleBy_cons (codeAny_handlers_test (Calls.Name_function_global P.ok.kind hg (Calls.loadGlobal_global (by rw[P.ok.glob];exact P.mod.glob.keeps P.bk) hm ?_) hdb)) (by intro z;cases z);refine yd (P.kIn _ _ lC) (P.kIn _ _ lW) t1 t2.1.1 a0 a' ?_;refine codeAny_handlers_suite_as ?_;have b1:3<b2.size:=(P0.mp t9).1;refine wpAny_setFlight_none t1 t3 t4 t7 t8 b1 ?_;have J:l∉frs X.stack:=λi=>by
  obtain⟨o',e',d'⟩:=a2 l i;obtain⟨sl,q2⟩:=L l o' i e';rw[t7]at q2;cases q2;exact d' _ t8
 have a8:l=T∨s'.heap.get? l=none:=by
  by_cases z:l=T
  ·exact .inl z
  ·right;cases e:s'.heap.get? l with
   |none=>rfl
   |some o =>
    rw[W4 _ e λw=>by
     rcases J3.mp w with w|w
     ·exact t6 w
     rcases J3.mp w with w|w
     ·exact z w
     ·exact J w]at t5
    cases t5
 have a4:∀b∈[a,T,l],G.heap.get? b=none/\B b=none:=λb i=>by
  rcases J3.mp i with rfl|i
  ·exact⟨ha,M⟩
  rcases J3.mp i with rfl|i
  ·exact⟨f5,O⟩
  obtain rfl:=L6.mp i;rcases a8 with rfl|z
  ·exact⟨f5,O⟩
  ·constructor
   ·cases e:G.heap.get? b with
    |none=>rfl
    |some o =>
     obtain⟨o1,E⟩:=un.there b o e (by simp);rw[z]at E;cases E
   ·cases e:B b with
    |none=>rfl
    |some o =>
     obtain⟨o1,E⟩:=(u b o e).is;rw[z]at E;cases E
 have I3:=pk (h:=h2.update l (X1 λx=>x.setIfInBounds 3 J9)) A os t un u (Z:=[a,T,l]) (λb o e hz hf=>by
   rw[L5 _ _ (λz=>hz (by simp[z]))];exact a1 b o e (λz=>hz (by
    rcases J3.mp z with z|z
    ·simp[z]
    ·simp[L6.mp z])) hf)
  (λb o i e => by
   rw[L5 _ _ (λz=>J (by rw[z];exact i))];exact L b o i e) a4
 have j:∀{b o},G.heap.get? b=some o->b≠a:=λe z=>by rw[z,ha]at e;cases e
 have b3:ExY Cs H y a (h2.update l (X1 λx=>x.setIfInBounds 3 J9)):=⟨C,b4,c0,by rw[L5 _ _ t6];exact t1,t2⟩;have I4:=I3.track (a:=a) (φ:=ExY Cs H y a) M (A0 b3) (by
   cases e:X.s₀.heap.get? a with
   |none=>rfl
   |some o =>
    obtain⟨o1,E⟩:=A.base.there a o e (by rw[hex];simp);rw[ha]at E;cases E) (by
   obtain⟨m,⟨o,es,ep,g,_⟩,_⟩:=A.loc;exact(j g).symm) (λx c e=>by
   obtain⟨v,o,g,_⟩:=A.cell x c e;exact j g) (λp hp=>j (A.pin p hp).1)
 exact P5 (k _ I4) (λ_ s2 z=>P5 z (λf s3 z=>z) λ_ _ z=>z.elim) λ_ _ z=>z.elim
end
abbrev TXd:=DE->DH->(D->DH->Prop)->(Nat->Option F4->DH->Prop)->Prop
abbrev TYd:=dH->(Nat->Option F4->DH->Prop)->DE->DH->Prop
def uR(X:Cx)(Cs:List F4)(j:List (F4×Obj))(σ:St)(M:DH)(H:Hp)(l:Nat->Option F4->DH->Prop)(e:u8)(s':E9):Prop :=
 ∃b g,Inv X j σ g b/\CX2 X.prog X.w Cs X.stack g b (λc x h=>∃(i:Nat) (C:F4) (a:DH),c=.ref C/\Cs[i]?=some C/\l i x a/\Ext M H a h/\HR X.K a h) e s'
def PXe(X:Cx)(Cs:List F4)(e:N1)(t:TXd):Prop:=∀(h:List (F4×Obj)) (s:E9) (g:St) (H:Hp) (l:VK) (j:DE) (M:DH) (Q:D->DH->Prop) (i:Nat->Option F4->DH->Prop),Inv X h g H s->SR X.K M H g j->HR X.K M H->t j M Q i ->
 (∀d a v b,Q d a->Ext M H a b->HR X.K a b->Rep X.K a b d v->l v b)->J0 (L4 X.prog X.w) X.A (aa2 e X.env) (EP X h g l) (uR X Cs h g M H i) s
def PTy(X:Cx)(Cs:List F4)(st:Z7)(t:TYd):Prop:=∀(a:List (F4×Obj)) (s:E9) (b:St) (H:Hp) (D:mF) (g:DE) (M:DH) (E:dH) (e:Nat->Option F4->DH->Prop),Inv X a b H s->SR X.K M H b g->HR X.K M H->t E e g M->UpE X.K E D M H ->
 J0 (L4 X.prog X.w) X.A (exec st X.env) (SP X a D) (uR X Cs a b M H e) s
theorem uR.ext{X:Cx}{Cs:List F4}{g:List (F4×Obj)}{σ:St}{M M1:DH}{H m:Hp}{l:Nat->Option F4->DH->Prop}{e:u8}{s':E9}(x:Ext M H M1 m)(h:uR X Cs g σ M1 m l e s'):uR X Cs g σ M H l e s':=by
 obtain⟨L,s,I,i,C,y,a,T,p,w,P,A,n,z,G,E,u,q,b,j,Q,o,t,N,J,O,B⟩:=h;exact⟨L,s,I,i,C,y,a,T,p,w,P,A,n,z,G,E,u,q,b,j,Q,o,t,N,J,x.trans O,B⟩
def dXC(n:Nat)(S:SpD)(t:TAd):TXd:=λe M Q b=>t e M λa M1=>a.length=n/\S a M1 λd M2=>(isX d=none->Q d M2)/\∀i x,isX d=some (i,x)->b i x M2
section
variable{X:Cx}{Cs:List F4}{e c:N1}{B:List N1}{t:TAd}{S:SpD}{Y xW nm:Str}{W:F4}{p:F4->TSd}{te:TXd}{st sa sb:Z7}{G g:TYd}{tc:TTd}{pos:Pos}
theorem sv{k n:Nat}{p2 p3:Pos}(FX:FnY X.prog X.w X.K X.mg X.base Y k n S Cs)(hr:cc k X.A)(N:Gl X Y)(a0:∀e s,¬ X.xe e s)(ha:QAd X (e::B) t)
  (U:(Y==("__debug__":Str))=false:=by decide) (he:F3 (e::B) X.env=(false,aa2 e X.env)::F3 B X.env:=by rfl) (hpl:(U6 p3 (F3 B X.env)).any (·.1)=false:=by rfl) :
  PXe X Cs (.Call (.Name Y p2) (e::B) [] p3) (dXC n S t):=by
 rw[QAd.eq]at ha;intro aa s σ H QV Δ M Q XH I sr T q kk;obtain⟨f,fd,ps,F,O,L,Z⟩:=FX.ex;refine V5 (hV I N O ?_ U);refine ah7 (h₀:=X.base) I.ok.mod.kin L (P5 (ha p3 aa s σ H (λl a=>∃h M1,h.length=n/\S h M1 (λd M2=>(isX d=none->Q d M2)/\∀i x,isX d=some (i,x)->XH i x M2)/\Ext M H M1 a/\HR X.K M1 a/\ao X.K M1 a h l) I
  ⟨Δ,M,_,sr,T,q,λh M1 l a ⟨hl,P⟩ G g rl=>⟨h,M1,hl,P,G,g,rl⟩⟩) (λJ s1 hs=>⟨?_,?_⟩) λe s' z=>(a0 e s' z).elim) he hpl
 ·obtain⟨l,a,m,_⟩:=hs;exact m.kIn
 obtain⟨l,a,m,rv,h,M1,hl,P,G,g,rl⟩:=hs;have w:spY X.K n S Cs l a QV (λc x o=>∃(i:Nat) (C:F4) (b:DH),c=.ref C/\Cs[i]?=some C/\XH i x b/\Ext M H b o/\HR X.K b o) :=
  ⟨h,M1,_,hl,rl,g,P,λd b v o q' R j p=>kk d b v o (q'.1 (tY p)) (G.trans R) j p,λi x C b o q' hC R j=>⟨i,C,b,rfl,hC,q'.2 i x dg,G.trans R,j⟩⟩
 have E:(J++[]).length=ps.length:=by
  rw[V4,<-rv.length];exact F.len _ _ _ _ w
 refine ad6 (ac5 (F.run X.A X.stack s1 a ⟨J,[]⟩ J l _ _ hr m.env0 (by simpa using Z s1 J m.kIn E) rv w) λr s' A=>?_);cases r with
 |error e=>exact⟨s1,a,m,A⟩
 |ok fl =>
  cases fl with
  |ret u=>exact m.after A
  |next=>exact T9 A
  |brk=>exact T9 A
  |cont=>exact T9 A
def dYA(i:Nat)(te:TXd):TYd:=λE b a M=>te a M (λd M2=>E.nx (a.set i (some d)) M2) b
theorem vv(i:Nat){x:Str}{m h:Pos}(t:X.N.Nodup)(hi:X.N[i]?=some x)(O:Loc X.env.scope x)(he:PXe X Cs e te)
  (hs:ah5 e (some (.Name x m)) h.line X.env=af8 false:=by rfl) (R:X.fn x=true∨X.env.scope.names.lookup x=some .local:=by first|exact .inl rfl|exact .inr rfl|assumption) :
  PTy X Cs (.Assign [.Name x m] e h) (dYA i te):=by
 intro w s n H D B M E C I l G q L;refine wpAny_Assign_Name (thn (he w s n H (λv a=>D.nx (n.set i (some v)) a) B M _ C I l G q λd o v p Q j g b=>L.nx _ o _ p Q j g ((l.ext j).set i b)) λu S z=>?_) hs;obtain⟨v,a,P,A,N⟩:=z;exact gM P t hi O A (λT J=>⟨_,a,J,N⟩) R
def Dz(tc:TTd)(G p:TYd):TYd:=λE e a M=>tc a M λb M1=>if b then G E e a M1 else p E e a M1
theorem CH(w:∀e s,¬ X.xe e s)(A:QTd X c tc)(ha:PTy X Cs sa G)(N:PTy X Cs sb g):PTy X Cs (.If c [sa] [sb] pos) (Dz tc G g):=by
 rw[QTd.eq]at A;intro j s t H D m M E n I u O q B;refine wpAny_If (P5 (A j s t H (λb l=>∃M1,(if b then G E n m M1 else g E n m M1)/\Ext M H M1 l/\HR X.K M1 l) I ⟨m,M,_,u,O,q,λb M1 l p h a=>⟨M1,p,h,a⟩⟩) (λd C ⟨l,J,M1,p,h,a⟩=>?_) λe L z=>(w e L z).elim);have o:∀{f:Flow} {i:E9},SP X j D f i->(match f with|.next=>J0 (L4 X.prog X.w) X.A (execs [] X.env) (SP X j D) (uR X Cs j t M H n) i|f=>SP X j D f i):=λ{f i} z=>by
  cases f with
  |next=>exact ab9 z
  |ret v=>exact z
  |brk=>exact z
  |cont=>exact z
 cases d with
 |true=>exact ag4 (P5 (ha j C t l D m M1 E n J (u.ext h) a p (B.ext h)) (λf i z=>o z) λe i z=>z.ext h)
 |false=>exact ag4 (P5 (N j C t l D m M1 E n J (u.ext h) a p (B.ext h)) (λf i z=>o z) λe i z=>z.ext h)
def Cq(Cs:List F4)(j:Nat)(g:TYd)(p:F4->TSd):TSd:=λE b M=>g E (λi x M2=>∀a,M2 a=none->p a (A1 j E) (b.set j (some (.ref a))) (aF M2 a (exY Cs i x a))) b M
theorem BN{j:Nat}{p5 p9 b5:Pos}{b0:Z7}{L:List Z7}(b9:∀e s,¬ X.xe e s)(a4:X.stack=X.env::X.outer)(b2:X.env.frame=some X.env.locals)(hex:X.ex=[])
  (hg:Gl X xW) (hm:X.mg xW=some (.ref W))
  (lC:∀C∈Cs,∃nm q N bs bm hd sn sub ab col dd k0 k1 k2 k3 k5 newId,X.K.lookup C=some (T6 nm q C N bs bm hd sn sub ab col dd k0 k1 k2 k3 k5 newId)/\(J6 C::bm).contains (.ref W)=true)
  (lW:∃nm q N bs bm hd sn sub ab col dd k0 k1 k2 k3 k5 newId,X.K.lookup W=some (T6 nm q W N bs bm hd sn sub ab col dd k0 k1 k2 k3 k5 newId)/\bm.contains (.type "BaseException")=true)
  (hN:X.N.Nodup) (hj:X.N[j]?=some nm) (hy:X.env.scope.names.lookup nm=some .local) (ha:PTy X Cs st g) (hb:∀a,QSs (X.caught a) (b0::L) (p a)) (hdb:(xW==("__debug__":Str))=false:=by decide) :
  QSd X (.Try [st] [.ExceptHandler (some (.Name xW p5)) (some nm) (b0::L) p9] [] [] b5) (Cq Cs j g p):=by
 simp only[QSd.eq,QSs.eq]at *
 intro aa s σ H D I hh;obtain⟨Δ,M,E,sr,a',q,kk⟩:=hh;refine wpAny_Try_except (ag4 (P5 (ha aa s σ H D Δ M E _ I sr a' q kk) (λf s1 z=>?_) λev s' z=>?_))
 ·cases f with
  |next=>exact ab9 (ab9 z)
  |ret v=>exact z
  |brk=>exact z
  |cont=>exact z
 ·obtain⟨s1,H1,I1,i,C,y,a,T,B,b1,rfl,os,a0,un,a3,h0,Z,b8,fl,P,C',M2,eC,a5,qx,e2,a1⟩:=z;cases eC;refine zA I1 a4 b2 hg hm (lC C (K7 b1)) lW os a0 un a3 h0 Z b8 a5 fl hex (λh I3=>?_) hdb;refine gM I3 hN hj (.inl hy) (v:=.ref a) rfl (λs2 l=>?_) (.inr hy);have J:Inv (X.caught a) aa (σ.set j (some (.ref a))) (upd B a (.ext (ExY Cs P y a))) s2:=⟨⟨l.ok.mod,l.ok.kind,l.ok.glob,l.ok.blt,l.ok.above,l.ok.inj,l.ok.has,l.ok.cab,λz=>(by cases z),l.ok.frames,l.ok.stk,l.ok.exf,l.ok.bs,l.ok.bsz,l.ok.noex,l.ok.exfs,l.ok.funs,l.ok.frf⟩,l.os,l.bare,l.base,l.loc,l.cell,l.free,l.freeC,l.pin,l.hok,l.len⟩;have e3:Ext M2 B (aF M2 a (exY Cs P y a)) (upd B a (.ext (ExY Cs P y a))):=Ext.own Z;have b4:HR X.K (aF M2 a (exY Cs P y a)) (upd B a (.ext (ExY Cs P y a))):=a1.put e3 ⟨[],aX,by simp[ao]⟩;have e4:=e2.trans e3;have a9:SR X.K (aF M2 a (exY Cs P y a)) (upd B a (.ext (ExY Cs P y a))) (σ.set j (some (.ref a))) (Δ.set j (some (.ref a))):=(sr.ext e4).set j (by simp[Rep])
  let D2:mF:={ nx:=λn B=>D.nx (n.set j none) B,bk:=λn B=>D.bk (n.set j none) B,ct:=λn B=>D.ct (n.set j none) B,rt:=D.rt }
  have a8:UpE X.K (A1 j E) D2 (aF M2 a (exY Cs P y a)) (upd B a (.ext (ExY Cs P y a))) :=
   ⟨λa2 M' n o ⟨R,b,S⟩ U t G=>kk.nx _ R _ o S ((e4.trans U).trans (Ext.le b)) (t.le b) ((G.ext (Ext.le b)).setN j),λa2 M' n o ⟨R,b,S⟩ U t G=>kk.bk _ R _ o S ((e4.trans U).trans (Ext.le b)) (t.le b) ((G.ext (Ext.le b)).setN j),
    λa2 M' n o ⟨R,b,S⟩ U t G=>kk.ct _ R _ o S ((e4.trans U).trans (Ext.le b)) (t.le b) ((G.ext (Ext.le b)).setN j),λd M' v o ⟨R,b,S⟩ U t b3=>kk.rt d R v o S ((e4.trans U).trans (Ext.le b)) (t.le b) (b3.ext (Ext.le b))⟩
  refine P5 (hb a aa s2 _ _ D2 J ⟨_,_,_,a9,b4,qx a (a1.fresh Z),a8⟩) (λfl s3 z=>?_) λ_ _ z=>z;have w:∀{A O},Inv (X.caught a) aa A O s3->Inv X aa A O s3:=λm=>⟨I.ok,m.os,m.bare,m.base,m.loc,m.cell,m.free,m.freeC,m.pin,m.hok,m.len⟩;cases fl with
  |next=>obtain⟨A,O,m,Y⟩:=z;exact kI (w m) hN hj hy λs4 Q=>⟨_,O,Q,Y⟩
  |brk=>obtain⟨A,O,m,Y⟩:=z;exact kI (w m) hN hj hy λs4 Q=>⟨_,O,Q,Y⟩
  |cont=>obtain⟨A,O,m,Y⟩:=z;exact kI (w m) hN hj hy λs4 Q=>⟨_,O,Q,Y⟩
  |ret u=>obtain⟨v2,A,O,m,r2,Y⟩:=z;exact kI (w m) hN hj hy λs4 Q=>⟨v2,_,O,Q,r2,Y⟩
end
theorem ExY.c{Cs:List F4}{i:Nat}{y:Option F4}{a:F4}{h:K3}(z:ExY Cs i y a h):∃C,Cs[i]?=some C/\ig C a h:=by
 obtain⟨C,b,o,g,r,_⟩:=z;exact⟨C,b,o,g,r⟩
def zp(Cs:List F4)(bs:List Bool)(b:TEd):TEd:=λe M Q=>b e M λd M1=>∃a i y,d=.ref a/\M1 a=some (exY Cs i y a)/\Q (.bl (bs.getD i false)) M1
section
variable{X:Cx}{a:N1}{Y:TEd}{pos p B:Pos}{Cs:List F4}{bs:List Bool}{T:Str}
theorem qK{c:u8}{vc:V}(Z:∀C∈Cs,uU X.K C)(e:∀(i:Nat) C,Cs[i]?=some C->O6 X.K (.ref C) c=some (bs.getD i false))(j:∀u,aM vc u->u=c):cy X (.builtin "isinstance") (λxs H Q=>∃x i y,xs=[.ref x,vc]/\H x=some (.ext (ExY Cs i y x))/\Q (.bl (bs.getD i false)) H):=by
 intro B s w H xs t Q I p h;obtain⟨x,i,y,rfl,l,q⟩:=h;obtain⟨g,A,rfl,o,m⟩:=aw.two p;cases(show g=J6 x from o);cases j _ m;obtain⟨C,a,n⟩:=(I.hok x _ l).1.c;have z:=Z C (K7 a);exact PySem.W.kia_one (wM z.ga z.gk z.mb z.cl z.ha z.hn z.tk z.mo) I.kIn n (e i C a) (λz=>nomatch z) λb=>⟨.bl (bs.getD i false),H,I.tok b,rfl,q⟩
theorem D0{g:F4}(Z:∀C∈Cs,uU X.K C)(hg:Gl X "isinstance")(A:X.mg "isinstance"=none)(n:Gl X T)(m:X.mg T=some (.ref g))(e:∀(i:Nat) C,Cs[i]?=some C->O6 X.K (.ref C) (.ref g)=some (bs.getD i false))(ha:QEd X a Y)(j:(T==("__debug__":Str))=false:=by decide)
  (hs:F3 [a,.Name T B] X.env=(false,aa2 a X.env)::F3 [.Name T B] X.env:=by rfl) (l:F3 [.Name T B] X.env=(false,aa2 (.Name T B) X.env)::F3 [] X.env:=by rfl) (hpl:(U6 pos (F3 [.Name T B] X.env)).any (·.1)=false:=by rfl) :
  QEd X (.Call (.Name "isinstance" p) [a,.Name T B] [] pos) (zp Cs bs Y):=by
 rw[QEd.eq]at *
 refine(gF (qK (vc:=.ref g) Z e λu h=>h) hg A (by kernel_rfl) (bA ha (bA (oN (v:=.ref g) n m rfl j) de l) hs) (by decide) (by decide) hs hpl).conv λO H Q E=>?_;obtain⟨I,M,R,t,J,q,k⟩:=E;refine⟨I,M,_,t,J,q,λd M1 v N ⟨x,i,y,w,z,o⟩ s b G=>?_⟩;subst w;obtain rfl:v=.ref x:=by simpa only[Rep]using G
 obtain⟨P,L,_⟩:=b x _ z;exact⟨x,i,y,rfl,L,k _ M1 _ N o s b (by simp[Rep])⟩
theorem lL(Z:∀C∈Cs,uU X.K C)(hg:Gl X "isinstance")(n:X.mg "isinstance"=none)(e:Gl X T)(h:∃j,X.mg T=some (.ref j)/\∀(i:Nat) C,Cs[i]?=some C->O6 X.K (.ref C) (.ref j)=some (bs.getD i false))(ha:QEd X a Y)(b:(T==("__debug__":Str))=false:=by decide)
  (hs:F3 [a,.Name T B] X.env=(false,aa2 a X.env)::F3 [.Name T B] X.env:=by rfl) (g:F3 [.Name T B] X.env=(false,aa2 (.Name T B) X.env)::F3 [] X.env:=by rfl) (hpl:(U6 pos (F3 [.Name T B] X.env)).any (·.1)=false:=by rfl) :
  QEd X (.Call (.Name "isinstance" p) [a,.Name T B] [] pos) (zp Cs bs Y):=by
 obtain⟨j,l,m⟩:=h;exact D0 Z hg n e l m ha b hs g hpl
theorem Cb{Tn:String}(Z:∀C∈Cs,uU X.K C)(hg:Gl X "isinstance")(E:X.mg "isinstance"=none)(o:Gl X T)(n:X.mg T=none)(g:aa5 T=some (.type Tn))(e:∀(i:Nat) C,Cs[i]?=some C->O6 X.K (.ref C) (.type Tn)=some (bs.getD i false))(ha:QEd X a Y)(l:T≠"__name__":=by decide)(j:(T==("__debug__":Str))=false:=by decide)
  (hs:F3 [a,.Name T B] X.env=(false,aa2 a X.env)::F3 [.Name T B] X.env:=by rfl) (m:F3 [.Name T B] X.env=(false,aa2 (.Name T B) X.env)::F3 [] X.env:=by rfl) (hpl:(U6 pos (F3 [.Name T B] X.env)).any (·.1)=false:=by rfl) :
  QEd X (.Call (.Name "isinstance" p) [a,.Name T B] [] pos) (zp Cs bs Y):=by
 rw[QEd.eq]at *
 refine(gF (qK (vc:=.ty Tn) Z e λu h=>h) hg E (by kernel_rfl) (bA ha (bA (tq (v:=.ty Tn) o n g rfl l j) de m) hs) (by decide) (by decide) hs hpl).conv λP H Q G=>?_;obtain⟨J,M,R,w,L,q,k⟩:=G;refine⟨J,M,_,w,L,q,λd M1 v O ⟨x,i,y,z,A,s⟩ t b I=>?_⟩;subst z;obtain rfl:v=.ref x:=by simpa only[Rep]using I
 obtain⟨S,N,_⟩:=b x _ A;exact⟨x,i,y,rfl,N,k _ M1 _ O s t b (by simp[Rep])⟩
structure D5(K:E5) (C:F4) (f:Str):Prop where
 hd:PySem.W.hasDictIn K C=true
 fn:O5 K (.ref C) f=some none
def Cd(Cs:List F4)(i:Nat)(f:Str)(Y:TEd):TEd:=λe M Q=>Y e M λd M1=>∃a b z,d=.ref a/\M1 a=some (exY Cs i (some b) a)/\M1 b=some (qQ f b z)/\Q z M1
theorem CV(i:Nat){C:F4}{f:Str}(U:Cs[i]?=some C)(Z:uU X.K C)(G:D5 X.K C f)(he:QEd X a Y)(T:V3 a f X.env (aa2 a X.env)=aa2 a X.env:=by rfl):QEd X (.Attribute a f pos) (Cd Cs i f Y):=by
 rw[QEd.eq]at *
 intro S s σ H Q I hh;obtain⟨Δ,M,R,sr,hr,q,k⟩:=hh;refine xT T (thn (he S s σ H (λv e=>∃x h z w M1,v=.ref x/\e x=some (.ext (ExY Cs i (some h) x))/\e h=some (.ext (kq f h w))/\Ext M H M1 e/\HR X.K M1 e/\Rep X.K M1 e z w/\R z M1) I ⟨Δ,M,_,sr,hr,q,λd M1 v e ⟨x,h,z,ed,em,ef,p⟩ B b t=>?_⟩) λu s1 ⟨v,e,n,t,x,h,z,w,M1,ev,L,E,B,b,rz,p⟩=>?_)
 ·subst ed;obtain rfl:v=.ref x:=by simpa only[Rep]using t
  obtain⟨P,L,_⟩:=b x _ em;obtain⟨ws,hw,l⟩:=b h _ ef;simp only[ao]at l;obtain⟨w,a0,rfl,r1,rfl⟩:=l;exact⟨x,h,z,w,M1,rfl,L,hw,B,b,r1,p⟩
 ·subst ev;obtain rfl:u=J6 x:=t;obtain⟨C',j,o,g,r⟩:=(n.hok x _ L).1;rw[U]at j;cases j;obtain⟨o2,u2,g2,l2,N⟩:=(n.hok h _ E).1;obtain⟨⟨O,P,m,_⟩,A⟩:=r;have J:PySem.W.InstAt s1.heap x o C (some o2):=⟨g,O,by unfold PySem.W.notCls;rw[m],by rw[A];exact g2⟩;exact Az n.kIn J Z.ga Z.gk Z.mb ⟨o,g,O,P,m,by assumption⟩ (PySem.W.findObj_own G.hd G.fn rfl l2) (ud N) ⟨w,e,n.tok _,N,k z M1 w e p B b rz⟩
end
section
variable{P:K9}{w:P7}{K:E5}{z:Str->Option u8}{base:K3}{N:List Str}{y:Str}{g:af7}{f:F4}{cd:u8}{A:M8}{p:List Env}{s:E9}{H:Hp}{E:XK}{Cs:List F4}
theorem sJ:iJ (CX2 P w Cs) (ja (CX2 P w Cs) P w K z base N y g f cd A p s H E) (λc x b=>∀C,c=.ref C->E (.ref C) x b):=λt J Q O e n I h =>
 DJ t J Q O e n I (let⟨i,C,x,a,T,b,u,R,G,l,B,M,L,o,m,j,q⟩:=h;⟨i,C,x,a,T,b,u,R,G,l,B,M,L,o,m,j,q C rfl⟩)
end
theorem ix2{p:Nat->F4->Prop}{a b:F4}(h0:p 0 a)(g:p 1 b):∀(i:Nat) C,[a,b][i]?=some C->p i C
 |0,_,e=>by cases e;exact h0
 |1,_,e=>by cases e;exact g
 |_+2,_,e=>by simp at e
theorem al2{p:F4->Prop}{a b:F4}(h0:p a)(e:p b):∀C∈[a,b],p C:=λC h=>by
 rcases J3.mp h with rfl|h
 ·exact h0
 ·cases L6.mp h;exact e
section
variable{X:Cx}{XW:F4->Option F4->Hp->Prop}{Cs:List F4}{e:N1}{g:List N1}{t:TAd}{S:SpD}{p:Str}
def z6(n:Nat)(S:SpD)(t:TAd):TSd:=λE b M=>t b M λa M1=>a.length=n/\S a M1 λd M2=>(isX d=none->E.nx b M2)/\∀i x,isX d=some (i,x)->E.rt (xA i x) M2
theorem wW{k n:Nat}{N o pos:Pos}(Y:FnY X.prog X.w X.K X.mg X.base p k n S Cs)(hr:cc k X.A)(s:Gl X p)(hx:iJ (CX2 X.prog X.w Cs) X λc x b=>∀C,c=.ref C->XW C x b)(ha:QAd X (e::g) t)
  (hdb:(p==("__debug__":Str))=false:=by decide) (he:F3 (e::g) X.env=(false,aa2 e X.env)::F3 g X.env:=by rfl) (hpl:(U6 o (F3 g X.env)).any (·.1)=false:=by rfl)
  (hs:ah5 (.Call (.Name p N) (e::g) [] o) none pos.line X.env=af8 false:=by rfl) :
  PSy X Cs XW (.Expr (.Call (.Name p N) (e::g) [] o) pos) (z6 n S t):=by
 rw[QAd.eq]at ha;obtain⟨f,fd,ps,F,w,j,B⟩:=Y.ex;exact(nU (oY F hr s w j B .nil hx ha hdb he hpl) hs).conv λD T H ⟨J,M,E,I,l,q,U,x⟩=>⟨J,M,_,I,l,q,λP M1 vs H1 ⟨hl,O⟩ A u R=>by
  dsimp only;rw[V4];exact⟨P,M1,_,hl,R,u,O,λd i v b m h a z=>U.nx J i T b (m.1 (tY z)) (A.trans h) a (I.ext (A.trans h)),λL G C0 i b m Q h a C1 Z=>by cases Z;exact x L G C0 i b (m.2 L G dg) Q (A.trans h) a⟩⟩
end
def wD(Cs:List F4)(a:F4)(te:TEd):TEd:=λe M Q=>te e M λd M1=>∃i y,M1 a=some (exY Cs i y a)/\∃b,d=.lst b/\b.all uf=true/\Q (.bl (b.any ou)) M1
section
variable{X:Cx}{Cs:List F4}{a:F4}{p pos:Pos}{x:N1}{te:TEd}
theorem uz(R:X.A.in1.handled=some (.ref a)):cy X (.builtin "any") (λxs H Q=>∃v ds M i y,xs=[v]/\HR X.K M H/\Rep X.K M H (.lst ds) v/\M a=some (exY Cs i y a)/\ds.all uf=true/\Q (.bl (ds.any ou)) H):=by
 intro N s Y H xs us Q I m h;obtain⟨v,ds,M,i0,y0,rfl,U,r,P,O,T⟩:=h;obtain⟨u,rfl,S⟩:=aw.one m;obtain⟨l,vs,rfl,sq,E⟩:=r;cases(show u=J6 l from S);obtain⟨g,m,B,hz⟩:=I.list (SqL.of sq.1);obtain⟨ws,j,_⟩:=U a _ P;obtain⟨C,_,J⟩:=(I.hok a _ j).1.c;have n:l≠s.heap.objs.size:=K8 (I.hok.lt sq.1);have p:a≠s.heap.objs.size:=K8 (I.hok.lt j);refine call_any_walk (af2 B.isList ⟨s.heap.objs.size,[s.heap.objs.size,l,a],[s.heap.objs.size],g.toArray.size,_,_,λi=>(ds[i]?.map ou).getD false,rfl,C6 (C:=C) (A:=X.A.in1) (e:=a) R s.heap.objs.size l n p g.toArray,⟨⟨_,K1 _ rfl,rfl,rfl⟩,?_,?_⟩,λi v s' Q' E' L q=>?_,λG w Z=>?_⟩)
 ·obtain⟨o,e,c⟩:=B.isList;exact⟨o,E7 _ e,c⟩
 ·exact J.kept λo q=>E7 _ q
 ·obtain⟨d,t,rfl⟩:=qy E m O (i:=i) (u:=v) (by simpa using L);dsimp only at q;rw[t]at q;exact U9 q
 ·have I1:Inv X N Y H { s with heap:=G,toks:=w }:=I.kept (t':=w) λb o e=>Z b o (by simpa using K8 (I0 e)) (E7 _ e);refine⟨.bl _,H,I1,rfl,?_⟩;rw[F1,<-m.length,<-E.length,uI (q:=ou) (λi d t=>by simp[t])];exact T
theorem Aw(e:X.A.in1.handled=some (.ref a))(hg:Gl X "any")(w:X.mg "any"=none)(ha:PEd X x te)
  (hs:F3 [x] X.env=(false,aa2 x X.env)::F3 [] X.env:=by rfl) (hpl:(U6 pos (F3 [] X.env)).any (·.1)=false:=by rfl) :
  PEd X (.Call (.Name "any" p) [x] [] pos) (wD Cs a te):=by
 refine(gF (uz (Cs:=Cs) e) hg w (by kernel_rfl) (bA ha de hs) (by decide) (by decide) hs hpl).conv λB H Q e=>?_;obtain⟨A,M,R,o,g,q,k⟩:=e;refine⟨A,M,_,o,g,q,λd M1 v n ⟨s,h,u,j,t,m,i⟩ l b z=>?_⟩;subst t;exact⟨v,j,M1,s,h,rfl,b,z,u,m,k _ M1 _ n i l b (by simp[Rep])⟩
theorem BX(b:X.A.in1.handled=some (.ref a))(hg:Gl X "any")(e:X.mg "any"=none)(ha:QEd X x te)
  (hs:F3 [x] X.env=(false,aa2 x X.env)::F3 [] X.env:=by rfl) (hpl:(U6 pos (F3 [] X.env)).any (·.1)=false:=by rfl) :
  QEd X (.Call (.Name "any" p) [x] [] pos) (wD Cs a te):=by
 rw[QEd.eq]at *
 exact Aw b hg e ha hs hpl
end
end L2
namespace L2
open PySem PySem.Spec PySem.Calls PyProof.Rows PySem.SeqAt
section
variable{prog:K9}{w:P7}{A:M8}{s:E9}{E:u8->E9->Prop}
theorem p8{b:Str}{u:Tok}{l:F4}{dd:Option F4}{a:Array ag2}{n:Nat}{g:Array (Option u8)}{Q:u8->E9->Prop}(e:s.heap.get? l=some { cls:=.type "dict",dict:=dd,data:=.dict a n,slots:=g })(h:Q .notImplemented s):
  J0 (L4 prog w) A (ar9 (.builtin "str.__eq__") [.str b u,.ref l]) Q E s:=by
 refine aa4 PySem.F.slot_str_eq (ap6 _ _ _) PySem.F.entry_str_eq ?_ (PySem.F.args_str_eq_2 _ _);unfold M7.«str.__eq__» M7.Str.strCompare
 repeat (first|(with_reducible refine R6 e ?_)|wp_step)
 exact⟨_,rfl,h⟩
theorem pW{b:Str}{u:Tok}{l:F4}{dd:Option F4}{a:Array ag2}{n:Nat}{g:Array (Option u8)}{Q:u8->E9->Prop}(e:s.heap.get? l=some { cls:=.type "dict",dict:=dd,data:=.dict a n,slots:=g })(h:Q .notImplemented s):
  J0 (L4 prog w) A (ar9 (.builtin "dict.__eq__") [.ref l,.str b u]) Q E s:=by
 refine aa4 PySem.F.slot_dict_eq ⟨_,e,rfl⟩ PySem.F.entry_dict_eq ?_ (PySem.F.args_dict_eq_2 _ _);unfold M7.«dict.__eq__»
 repeat (first|(with_reducible refine R6 e ?_)|wp_step)
 refine ao5 (show isSubtype (N3 "str") (N3 "dict")=af8 false from rfl) ?_
 repeat wp_step
 exact⟨_,rfl,h⟩
theorem ka{b:Str}{u:Tok}{l:F4}{dd:Option F4}{g:Array ag2}{n:Nat}{j:Array (Option u8)}(e:s.heap.get? l=some { cls:=.type "dict",dict:=dd,data:=.dict g n,slots:=j })(i:A.units<af9):RcAt A s (.str b u) (.ref l) false:=λprog w E Q q =>
 rc_eq_decline_or (Ta:="str") (Tb:="dict") (ida:="str.__eq__") (idb:="dict.__eq__") (ap6 _ _ _) ⟨_,e,rfl⟩ (by decide) rfl PySem.F.slot_str_eq PySem.F.slot_dict_eq_refl (λa h=>p8 e h) (λa h=>pW e h) (λa h=>by
  unfold isSame
  repeat wp_step
  exact h) (.inr i) q
theorem qD{b:Str}{u:Tok}{l:F4}{dd:Option F4}{g:Array ag2}{n:Nat}{i:Array (Option u8)}(e:s.heap.get? l=some { cls:=.type "dict",dict:=dd,data:=.dict g n,slots:=i })(h:A.units<af9):EqAt A s (.str b u) (.ref l) false:=λprog w E Q q=>by
 have a:∀Q:u8->E9->Prop,Q (.bool false) s->J0 (L4 prog w) A (richCompare .Eq (.str b u) (.ref l)) Q E s:=λQ q=>ka e h prog w E Q q;unfold eqBool
 repeat (first|(with_reducible refine o0 (a _ ?_))|(with_reducible refine a _ ?_)|wp_step)
 exact q
end
section
variable{X:Cx}{t u:D}
theorem tI{p:List (F4×Obj)}{σ:St}{H:Hp}{s:E9}{M:DH}{v:V}{y:u8}(I:Inv X p σ H s)(r:Rep X.K M H .emp v)(q:aM v y):∃l dd e n t,y=.ref l/\s.heap.get? l=some { cls:=.type "dict",dict:=dd,data:=.dict e n,slots:=t }:=by
 simp only[Rep]at r;obtain⟨a,rfl,h,_⟩:=r;cases q;obtain⟨_,_,A,_,o,e,w,m,⟨i,_,_⟩,j,_⟩:=I.hok a _ h;obtain⟨z,u,g,b⟩:=o;simp only at i j;subst i j;exact⟨a,u,e,w,b,rfl,m⟩
def eqE(x y:D):Option D:=match y with
 |.emp=>match x with
  |.str _=>some (.bl false)
  |_=>none
 |y=>eqF x y
theorem D1{x:Str}:eqE (.str x) .emp=some (.bl false):=rfl
theorem Dq{x y:D}(h:dLe y 60=true):eqE x y=eqF x y:=by cases y<;>first|rfl|(simp[dLe]at h)
theorem CI(g:X.A.units+64<af9):bP X (P2 .Eq) eqE:=by
 intro b s h H M x y v u dx dy dz Q I hr rx ry r1 r2 e k;cases dy with
 |emp =>
  cases dx with
  |str z =>
   cases e;obtain⟨l,m,j,n,i,rfl,a⟩:=tI I r2 ry;obtain⟨t,rfl⟩:=r1.at rx;exact ka a (by lia) X.prog X.w X.xe _ ⟨.bl false,H,I,rfl,k _ H (Ext.refl _ _) hr (by simp[Rep])⟩
  |_=>cases e
 |_=>exact gJ g b s h H M x y v u _ _ dz Q I hr rx ry r1 r2 e k
def lO(x y:D):Option D:=match x with
 |.emp=>match y with
  |.lst a=>if a.all (λd=>match d with|.str _=>true|_=>false)then some (.bl true)else none
  |_=>none
 |x=>iK x y
theorem wt{xs:List Str}:lO .emp (.lst (xs.map D.str))=some (.bl true):=if_pos (by rw[S6,J7];intro _ _;rfl)
theorem vj{x y:D}(h:dLe x 59=true):lO x y=iK x y:=by cases x<;>first|rfl|(simp[dLe]at h)
open Classical in
theorem xu(G:X.A.units+64<af9):bP X (P2 .NotIn) lO:=by
 intro B s J H M x y v u dx dy dz Q I hr rx ry r1 r2 e k;cases dx with
 |emp =>
  cases dy with
  |lst b =>
   simp only[lO]at e
   by_cases g:(b.all λd=>match d with|.str _=>true|_=>false)=true
   ·rw[if_pos g]at e;cases e;obtain⟨lx,Z,Y,n,U,rfl,q⟩:=tI I r1 rx;obtain⟨l,vs,rfl,sq,m⟩:=r2;cases ry;obtain⟨a,r,E,S⟩:=I.list (SqL.of sq);have hl:b.length=a.length:=m.length.trans r.length;refine SeqAt.notIn_listAt (λ_=>false) E.isList (λw P=>?_) ⟨.bl _,H,I,rfl,?_⟩
    ·obtain⟨i,L,rfl⟩:=S7.mp (show w∈a by simpa using P);have O:i<b.length:=by lia
     obtain⟨T,p,j⟩:=m.get (i:=i) (d:=b[i]) (by simp[O]);obtain⟨N,C,R⟩:=r.get p;have A:a[i]=N:=by simpa[E4 L]using C
     have h:=J7.mp g b[i] (L8 _);cases o:b[i]with
     |str z =>
      rw[o]at j;obtain⟨t,rfl⟩:=j.r.at R;rw[A];exact qD q (by show X.A.units+1<af9;lia)
     |_=>rw[o]at h;cases h
    ·rw[show a.toArray.any (λ_=>false)=false by simp];exact k _ H (Ext.refl _ _) hr (by simp[Rep])
   ·rw[if_neg g]at e;cases e
  |_=>cases e
 |_=>exact qp G B s J H M x y v u _ _ dz Q I hr rx ry r1 r2 e k
end
end L2
namespace My
open PySem PySem.Spec PyProof.Rows L2
noncomputable def top(i:Nat):Z7:=PySem.Challenge.pw_wordwishes_k52_words_put_in_and_taken_ou.main.body.getD i (.Pass ⟨0,0,0,0⟩)
abbrev fm:Z7:=top 3
abbrev df:Z7:=top 4
abbrev bU:Z7:=top 5
abbrev gn:Z7:=top 8
abbrev gP:Z7:=top 9
abbrev dq:Z7:=top 10
abbrev gp:Z7:=top 13
abbrev fZ:Z7:=top 14
abbrev fG:Z7:=top 15
abbrev dP:Z7:=top 26
abbrev gy:Z7:=top 27
abbrev cW:Z7:=top 28
abbrev fA:Z7:=top 29
abbrev bK:Z7:=top 30
abbrev dJ:Z7:=top 31
abbrev dw:Z7:=top 32
abbrev fE:Z7:=top 33
abbrev fw:Z7:=top 34
abbrev bG:Z7:=top 35
abbrev cR:Z7:=top 37
abbrev iT:Z7:=top 38
abbrev cU:Z7:=top 39
abbrev jX:Z7:=top 41
abbrev eh:Z7:=top 42
abbrev lZ:Z7:=top 43
abbrev gK:Z7:=top 44
abbrev eS:Z7:=top 45
abbrev oZ:Z7:=top 46
abbrev gV:Z7:=top 47
abbrev cG:Z7:=top 48
abbrev kF:Z7:=top 49
abbrev eA:Z7:=top 50
abbrev gq:Z7:=top 51
abbrev cV:Z7:=top 52
abbrev kG:Z7:=top 53
abbrev jo:Z7:=top 54
abbrev kU:Z7:=top 55
abbrev cj:Z7:=top 56
abbrev pL:Z7:=top 57
abbrev nS:List Str:=["thing"]
theorem iF:av nS ["thing"] (ai fm):=fsc
abbrev ku:List Str:=["thing","many"]
theorem eQ:av ku ["thing","many"] (ai df):=fsc
abbrev cC:List Str:=["thing"]
theorem dY:av cC ["thing"] (ai bU):=fsc
abbrev pM:List Str:=["thing"]
theorem i8:av pM ["thing"] (ai gn):=fsc
abbrev qi:List Str:=["thing"]
theorem jn:av qi ["thing"] (ai gP):=fsc
abbrev fi:List Str:=["thing"]
theorem iA:av fi ["thing"] (ai dq):=fsc
abbrev qq:List Str:=["thing"]
theorem je:av qq ["thing"] (ai gp):=fsc
abbrev pj:List Str:=["thing"]
theorem jh:av pj ["thing"] (ai fZ):=fsc
abbrev iS:List Str:=["thing"]
theorem j3:av iS ["thing"] (ai fG):=fsc
abbrev lw:List Str:=["things"]
theorem fJ:av lw ["things"] (ai dP):=fsc
abbrev qI:List Str:=["thing"]
theorem iY:av qI ["thing"] (ai gy):=fsc
abbrev eK:List Str:=["thing"]
theorem gx:av eK ["thing"] (ai cW):=fsc
abbrev o3:List Str:=["thing"]
theorem ik:av o3 ["thing"] (ai fA):=fsc
abbrev bq:List Str:=["thing"]
theorem eT:av bq ["thing"] (ai bK):=fsc
abbrev l8:List Str:=["thing"]
theorem fM:av l8 ["thing"] (ai dJ):=fsc
abbrev dn:List Str:=["lexicon"]
theorem iG:av dn ["lexicon"] (ai dw):=fsc
abbrev oC:List Str:=["lexicon","thing"]
theorem ip:av oC ["lexicon","thing"] (ai fE):=fsc
abbrev oX:List Str:=["lexicon","word"]
theorem iq:av oX ["lexicon","word"] (ai fw):=fsc
abbrev fe:List Str:=["lexicon","words","word"]
theorem cw:av fe ["lexicon","words"] (ai bG):=fsc
abbrev jA:List Str:=["lexicon","entries","changed"]
theorem eE:av jA ["lexicon","entries"] (ai cR):=fsc
abbrev r8:List Str:=["lexicon","word","kinds","entry","entries","at"]
theorem ki:av r8 ["lexicon","word","kinds"] (ai iT):=fsc
abbrev eO:List Str:=["lexicon","word"]
theorem gb:av eO ["lexicon","word"] (ai cU):=fsc
abbrev uo:List Str:=["_law_cell","_law_sizes","_law_found","_law_size","_law_seed"]
theorem lu:av uo ["_law_cell","_law_sizes"] (ai jX):=fsc
abbrev gA:List Str:=["_law_xs","_law_amount","_law_alphabet","_law_found","_law_k","_law_rest"]
theorem jg:av gA ["_law_xs","_law_amount"] (ai eh):=fsc
abbrev vf:List Str:=["_law_order","_law_one","_law_other","_law_found","_law_at","_law_low","_law_high"]
theorem nh:av vf ["_law_order","_law_one","_law_other"] (ai lZ):=fsc
abbrev pb:List Str:=["_law_xs","_law_amount","_law_held","_law_found","_law_left","_law_place"]
theorem jb:av pb ["_law_xs","_law_amount"] (ai gK):=fsc
abbrev eY:List Str:=["_law_xs","_law_arcs","_law_marks","_law_order","_law_goal","_law_near","_law_one","_law_other","_law_found","_law_k","_law_turn","_law_below"]
theorem lg:av eY ["_law_xs","_law_arcs","_law_marks","_law_order","_law_goal"] (ai eS):=fsc
abbrev yW:List Str:=["_law_xs","_law_signs_here","_law_found","_law_left","_law_size"]
theorem pR:av yW ["_law_xs","_law_signs_here"] (ai oZ):=fsc
abbrev jN:List Str:=["_law_kind","_law_xs","_law_marks","_law_kinds_here","_law_more"]
theorem lJ:av jN ["_law_kind","_law_xs","_law_marks"] (ai gV):=fsc
abbrev cK:List Str:=["_law_cell","_law_xs","_law_marks","_law_words","_law_k","_law_pairs","_law_order","_law_goal","_law_arcs","_law_signs_here","_law_cuts","_law_entries","_law_choice","_law_kinds_here"]
theorem ix:av cK ["_law_cell"] (ai cG):=fsc
abbrev nN:List Str:=["_law_xs","_law_marks","_law_most_here"]
theorem pe:av nN ["_law_xs","_law_marks","_law_most_here"] (ai kF):=fsc
abbrev gz:List Str:=["_law_thing"]
theorem jy:av gz ["_law_thing"] (ai eA):=fsc
abbrev qk:List Str:=["_law_thing","_law_sign"]
theorem iZ:av qk ["_law_thing"] (ai gq):=fsc
abbrev eN:List Str:=["_law_thing"]
theorem gL:av eN ["_law_thing"] (ai cV):=fsc
abbrev kL:List Str:=["_law_lexicon","_law_word","_law_kinds_here","_law_entries","_law_other","_law_old"]
theorem qM:av kL ["_law_lexicon","_law_word","_law_kinds_here"] (ai kG):=fsc
abbrev g5:List Str:=["_law_lexicon","_law_word"]
theorem p6:av g5 ["_law_lexicon","_law_word"] (ai jo):=fsc
abbrev wR:List Str:=["_law_how","_law_lexicon","_law_word","_law_kinds_here","_law_seen_here","e","_law_others"]
theorem mX:av wR ["_law_how","_law_lexicon","_law_word","_law_kinds_here"] (ai kU):=fsc
abbrev c9:List Str:=["_law_xs","_law_marks","_law_found","_law_odd"]
theorem eP:av c9 ["_law_xs","_law_marks"] (ai cj):=fsc
abbrev lX:List Str:=["_law_script","_law_cell","_law_lexicon","_law_xs","_law_k","_law_name","_law_words","_law_marks","_law_odd","_law_word","_law_kinds_here"]
theorem vA:av lX ["_law_script"] (ai pL):=fsc
abbrev g7:Z7:=Dp (top 18) 0
theorem wB:av ["self","word"] ["self","word"] (ai g7):=fsc
theorem vd{P:K9}{w:P7}{K:E5}{g:Str->Option u8}{base:K3}{C W j f:F4}{i:K4}(F:Fun K "__init__" "NoWord.__init__" g7 f i)(Y:mJ K g "NoWord" "WishError" "word" C W j):aP P w K g base CX0 1 f i ["self","word"] (spF "word" C):=by
 refine F.ok wB (λl H Q E h=>?_) (λm A a s H l Q E n h=>⟨_,lY (nU (C8 Y 0 rfl (pv 0) wN)) (oW (CT Y 0 1 (pv 0) (pv 1))),?_⟩)
 ·obtain⟨e,v,rfl,_⟩:=h;rfl
 ·obtain⟨e,v,rfl,b,q⟩:=h;exact⟨e,rfl,b,e,v,rfl,rfl,b,q⟩
structure rQ(K:E5) (mg:Str->Option u8) (C0 C1 W fI0:F4):Prop where
 p0:mJ K mg "NoWord" "WishError" "word" C0 W fI0
 g0:D5 K C0 "word"
 p1:AS K mg "NoLexicon" C1 W
 gH:mg "WishError"=some (.ref W)
 lC:∀C∈[C0,C1],∃nm q N bs bm hd sn sub ab col dd k0 k1 k2 k3 k5 newId,K.lookup C=some (T6 nm q C N bs bm hd sn sub ab col dd k0 k1 k2 k3 k5 newId)/\(J6 C::bm).contains (.ref W)=true
 lW:∃nm q N bs bm hd sn sub ab col dd k0 k1 k2 k3 k5 newId,K.lookup W=some (T6 nm q W N bs bm hd sn sub ab col dd k0 k1 k2 k3 k5 newId)/\bm.contains (.type "BaseException")=true
 z:∀C∈[C0,C1],uU K C
 k_ValueError:∀(i:Nat) C,[C0,C1][i]?=some C->O6 K (.ref C) (.type "ValueError")=some ([true,true].getD i false)
 k_NoWord:∃C2,mg "NoWord"=some (.ref C2)/\∀(i:Nat) C,[C0,C1][i]?=some C->O6 K (.ref C) (.ref C2)=some ([true,false].getD i false)
 k_NoLexicon:∃C2,mg "NoLexicon"=some (.ref C2)/\∀(i:Nat) C,[C0,C1][i]?=some C->O6 K (.ref C) (.ref C2)=some ([false,true].getD i false)
 k_NoDrawing:∃C2,mg "NoDrawing"=some (.ref C2)/\∀(i:Nat) C,[C0,C1][i]?=some C->O6 K (.ref C) (.ref C2)=some ([false,false].getD i false)
 k_NoWorld:∃C2,mg "NoWorld"=some (.ref C2)/\∀(i:Nat) C,[C0,C1][i]?=some C->O6 K (.ref C) (.ref C2)=some ([false,false].getD i false)
structure Txt(mg:Str->Option u8):Prop where
 b_isinstance:mg "isinstance"=none
 b_int:mg "int"=none
 b_bool:mg "bool"=none
 b_tuple:mg "tuple"=none
 b_len:mg "len"=none
 b_str:mg "str"=none
 b_all:mg "all"=none
 b_set:mg "set"=none
 b_range:mg "range"=none
 b_sorted:mg "sorted"=none
 b_list:mg "list"=none
 b_max:mg "max"=none
 b_ValueError:mg "ValueError"=none
 b_any:mg "any"=none
 b_abs:mg "abs"=none
 g_SMALL_LETTERS:∃t,mg "SMALL_LETTERS"=some (.str "abcdefghijklmnopqrstuvwxyz" t)
 g_MOST_LETTERS:∃t,mg "MOST_LETTERS"=some (.int 8 t)
 g_MOST_PAIRS:∃t,mg "MOST_PAIRS"=some (.int 8 t)
 g_MOST_TURN:∃t,mg "MOST_TURN"=some (.int 99 t)
 g_MOST_ENTRIES:∃t,mg "MOST_ENTRIES"=some (.int 10 t)
 g_MOST_KINDS:∃t,mg "MOST_KINDS"=some (.int 4 t)
 g_MOST_SIGNS:∃t,mg "MOST_SIGNS"=some (.int 5 t)
set_option hygiene false in
local macro_rules|`(tactic| walk_at"")=>`(tactic| simp only[Cq,dYA,Dz,dXC,zp,Cd,wD,z6,sE,tv,dLS,A1,yP,BG,yR,yu,DC,dC,B6,v8,BJ,zY,zF,dOp,dUn,vH,CK,zJ,zT,dCB,z8,C3,Cw,zK,Cv,Dj,D3,zR,CF,Co,dIf,nH,BA,wH,Aa,wI,Da,Dc,z4,z7,zL,Ay,yV,vn,rM,Dt,B2,Cn,DL,HD.dKr.injEq,xP,HD.dT.injEq,HD.dK.injEq,CB,D6,nQ,vX,dLc,v9,Ea,
 za,AB,yr,y9,yf,zv,yg,yl,BS,yt,sH,tU,y8,DA,Ds,Dw,DR,Cz,DU,vp,AX,BI,BY,Ag,AO,A3,BL,Ao,Ae,rV,BR,DG,C5,CZ,Do,A7,BD,DT,CS,Dy,wC,xM,xc,vQ,D4,Dr,CQ,DQ,Ee,CA,Cp,v7,CU,yF,uZ,Bo,bb,eX,
 fu,K0,ah1,List.cons_append,N0,O0,ae7,F5,List.set_cons_zero,List.set_cons_succ,V8,S1,ac3,exists_eq_left',exists_eq_left,D.int.injEq,D.bl.injEq,D.str.injEq,D.ref.injEq,D.tup.injEq,D.lst.injEq,true_and,and_true,if_true,decide_eq_true_eq,exists_and_left,Nat.zero_add,Nat.reduceAdd,Nat.reduceSub,Eb,Ct,xO,CW,HD.lst.injEq,X4,or_true,true_or,and_self,↓reduceIte,Int.reduceLT,Int.reduceLE,Int.reducePow,Int.reduceNeg,Int.reduceToNat,Nat.reducePow,Nat.reduceLT,Nat.reduceLeDiff,Int.reduceAdd,Int.reduceMul,Int.reduceSub,F0,Bool.true_eq_false,if_false])
section
variable{P:K9}{w:P7}{K:E5}{g:Str->Option u8}{base:K3}{f:F4}{z:K4}
theorem iP{xs:List D}{n:Nat}:L2.cP xs none (some (n:Int))=xs.take n:=by
 unfold L2.cP;rw[HT.sIx_none,HT.sIx_nat,List.drop_zero,Nat.sub_zero]
 by_cases h:n<=xs.length
 ·rw[an0 h]
 ·rw[Nat.min_eq_right (by lia),ag5,S8 (by lia)]
theorem gj{xs:List D}{n:Nat}:L2.cP xs (some (n:Int)) none=xs.drop n:=by
 unfold L2.cP;rw[HT.sIx_none,HT.sIx_nat]
 by_cases h:n<=xs.length
 ·rw[an0 h,S8 (by simp)]
 ·rw[Nat.min_eq_right (by lia),an5,List.take_zero,List.drop_of_length_le (by lia)]
theorem bW{lo:Int}{n:Nat}:(rJ lo n).length=n:=by simp[rJ]
def bL(x:Str×Str):D:=.tup [.str x.1,.str x.2]
theorem dB{M:DH}{p q:F4}{a b:HD}(h:p≠q):aF (aF M p a) q b=aF (aF M q b) p a:=by
 funext c;unfold aF
 by_cases g:c=q
 ·subst g;simp[U2 h]
 ·by_cases e:c=p
  ·subst e;simp[h]
  ·simp[g,e]
mutual
def ak:D->Bool
 |.tup a=>bO a
 |.lst a=>bO a
 |.str x=>decide (x.length<=1000000)
 |.scr _=>false
 |.ref _=>false
 |.box _ _=>false
 |_=>true
def bO:List D->Bool
 |[]=>true
 |d::a=>ak d&&bO a
end
theorem bw:∀{ds:List D},bO ds=true↔∀d∈ds,ak d=true
 |[]=>by simp[bO]
 |d::ds=>by simp[bO,bw (ds:=ds)]
theorem bj{M:DH}{d:D}(h:ak d=true):rdM M d=d:=by
 cases d<;>first|rfl|(simp[ak]at h)
def nF:D->Int->Bool
 |.tup a,n=>(a.length:Int)==n
 |_,_=>false
def aC(x:Str):Bool:=decide (1<=x.length)&&decide (x.length<=8)&&x.cps.toList.all λc=>decide (c∈cH)
def aH:D->Bool
 |.str x=>aC x
 |_=>false
def bt:SpD:=λa M R=>∃d n,a=[d,.int n]/\ak d=true/\R (.bl (nF d n)) M
theorem bV{d:D}{n:Int}{M:DH}{R:D->DH->Prop}:bt [d,.int n] M R↔ak d=true/\R (.bl (nF d n)) M :=
 ⟨λ⟨a,b,e,h⟩=>by simp only[X4,D.int.injEq,and_true]at e;rw[e.1,e.2];exact h,λh=>⟨d,n,rfl,h⟩⟩
theorem jL(F:Fun K "is_tuple_of" "is_tuple_of" df f z)(T:Txt g):aP P w K g base CX0 1 f z ["thing","many"] (spD K 2 bt):=by
 have l:=eQ.nd;refine F.okR rfl eQ (λj A b s H E i=>⟨_,(aq (aZ (bH (dD (Tn:="tuple") (by decide) rfl T.b_isinstance rfl T.b_tuple (by kernel_rfl) (af 0)) (eB (jf (gJ i.units) (au aT rfl T.b_len (by kernel_rfl) (ae (af 0) ah)) (af 1) nbh))))),λh M R _ e bk=>?_⟩);obtain⟨d,n,rfl,a,k⟩:=e;refine bk ?_;clear bk;walk_at"";simp only[bj a];cases d with
 |tup h =>
  refine⟨true,rfl,?_⟩;walk_at"";exact k
 |scr _=>simp[ak]at a
 |ref _=>simp[ak]at a
 |box _ _=>simp[ak]at a
 |_=>exact⟨false,rfl,by simp only[F0,if_false];exact k⟩
def bf:SpD:=λa M R=>∃d,a=[d]/\ak d=true/\R (.bl (aH d)) M
theorem bB{d:D}{M:DH}{R:D->DH->Prop}:bf [d] M R↔ak d=true/\R (.bl (aH d)) M :=
 ⟨λ⟨a,e,h⟩=>by simp only[X4,and_true]at e;rw[e];exact h,λh=>⟨d,rfl,h⟩⟩
def cX:SpD:=bf
theorem cT{d:D}{M:DH}{R:D->DH->Prop}:cX [d] M R↔ak d=true/\R (.bl (aH d)) M:=bB
theorem oS:abc.cps.toList=cH:=by rw[rh,fq]
theorem dI{bs:List Bool}:wY (.lst (bs.map D.bl))=some (.bl (bs.all id)):=by
 have a:(bs.map D.bl).all uf=true:=by rw[S6,J7];intro _ _;rfl
 have b:(bs.map D.bl).all ou=bs.all id:=by rw[S6];rfl
 simp only[wY,a,b,if_true]
theorem iM(F:Fun K "is_short_word" "is_short_word" bU f z)(T:Txt g):aP P w K g base CX0 1 f z ["thing"] (spD K 1 bf):=by
 have I:=dY.nd;refine F.okR rfl dY (λu A h s H E G=>⟨_,(aq (aZ (bH (dD (Tn:="str") (by decide) rfl T.b_isinstance rfl T.b_str (by kernel_rfl) (af 0)) (bH (kJ ib ib ag (au aT rfl T.b_len (by kernel_rfl) (ae (af 0) ah)) (dF rfl T.g_MOST_LETTERS)) (eB (au (k9 rfl) rfl T.b_all (by kernel_rfl) (ae (ic (ms:=[false]) (ar:=["letter"]) (aD (n0:=0) rfl (show aO (ai bU) cC _ _=true from by decide +kernel)) rfl (aQ (af 0)) (aJ (i:=1) (show(cC++_).Nodup from by decide +kernel) rfl rfl) (λ_ _ _ _=>bR) (λ_ _ _ _=>(jf tQ (af 1) (xn rfl T.g_SMALL_LETTERS) rfl))) ah))))))),λB M R _ m bk=>?_⟩);obtain⟨d,rfl,a,k⟩:=m;refine bk ?_;clear bk;walk_at"";simp only[bj a];cases d with
 |str x =>
  have J:x.length<=1000000:=by simpa[ak]using a
  refine⟨true,rfl,?_⟩;walk_at"";refine⟨_,if_pos (szB _ (by lia)),?_⟩;walk_at"";have p:x.length=x.cps.toList.length:=by show x.cps.size=_;simp
  refine a7 (λo=>a7 (λt=>?_) (λt=>?_)) (λo=>?_)
  ·refine⟨_,if_pos (szB _ (by lia)),λn=>⟨n,?_⟩⟩;refine dQ (λ_=>true) (λd=>match d with|.str y=>.bl (y.cps.toList.all λc=>decide (c∈cH))|_=>.non) (λl=>∃x,l=[none,x]) _ _ _ (λd a l j=>?_) ⟨none,rfl⟩ ?_
   ·obtain⟨L,rfl⟩:=j;obtain⟨c,_,rfl⟩:=K5.mp (show d∈x.cps.toList.map λc=>D.str (tx [c])from a);refine⟨_,rfl,⟨_,rfl⟩,λN q=>q,λ_ C q=>?_⟩;walk_at"";simp only[v7,ac3,exists_eq_left',an7];rw[show(J5 "abcdefghijklmnopqrstuvwxyz").cps.toList=cH from oS];simpa[fq]using q
   ·rw[N0,O8.mpr (λ_ _=>rfl)];have e:(L2.dM x).map (λd=>match d with|.str y=>D.bl (y.cps.toList.all λc=>decide (c∈cH))|_=>.non)=(x.cps.toList.map λc=>decide (c∈cH)).map D.bl:=by
     unfold L2.dM;rw[Q9,Q9];apply W7;intro c _;simp
    rw[e];refine⟨_,dI,?_⟩;have b:(x.cps.toList.map λc=>decide (c∈cH)).all id=aC x:=by
     unfold aC;rw[S6,decide_eq_true (by lia:1<=x.length),decide_eq_true (by lia:x.length<=8)];rfl
    rw[b];exact k
  ·have b:aH (.str x)=false:=by simp only[aH,aC,decide_eq_false (by lia:¬ x.length<=8),R8,K2]
   rw[b]at k;exact k
  ·have b:aH (.str x)=false:=by simp only[aH,aC,decide_eq_false (by lia:¬ 1<=x.length),K2]
   rw[b]at k;exact k
 |scr _=>simp[ak]at a
 |ref _=>simp[ak]at a
 |box _ _=>simp[ak]at a
 |_=>exact⟨false,rfl,by simp only[F0,if_false];exact k⟩
theorem oq(F:Fun K "is_mark" "is_mark" gn f z)(T:Txt g)(e:FnD P w K g base "is_short_word" 1 1 bf):aP P w K g base CX0 2 f z ["thing"] (spD K 1 cX):=by
 have m:=i8.nd;refine F.okR rfl i8 (λj A a s H E h=>⟨_,(aq (aZ (qd e h (ae (af 0) ah)))),λl M R _ b bk=>?_⟩);obtain⟨d,rfl,i,k⟩:=b;refine bk ?_;clear bk;walk_at"";exact bB.mpr ⟨i,k⟩
end
section
variable{P:K9}{w:P7}{K:E5}{B:Str->Option u8}{base:K3}{f:F4}{G:K4}
theorem sP{b:Type}{f:b->D}(e:∀x y,f x=f y->x=y):∀{xs a:List b},xs.map f=a.map f->xs=a
 |[],[],_=>rfl
 |[],_::_,h=>by simp at h
 |_::_,[],h=>by simp at h
 |x::xs,y::a,h=>by
  simp only[K0,X4]at h;rw[e _ _ h.1,sP e h.2]
def aR(x:Str×Int):D:=.tup [.str x.1,.int x.2]
theorem uG:∀x y,aR x=aR y->x=y:=λ⟨a,b⟩ ⟨c,d⟩ h=>by simpa[aR]using h
def rS:D->Bool
 |.int _=>true
 |_=>false
def iW:D->Bool
 |.int t=>decide (-99<=t)&&decide (t<=99)
 |_=>false
def bX:D->Bool
 |.tup [a,b]=>aH a&&iW b
 |_=>false
def uH:D->Bool
 |.tup a=>a.all bX
 |_=>false
def iE(f:D->Bool):SpD:=λa M R=>∃d,a=[d]/\ak d=true/\R (.bl (f d)) M
theorem bM{f:D->Bool}{d:D}{M:DH}{R:D->DH->Prop}:iE f [d] M R↔ak d=true/\R (.bl (f d)) M :=
 ⟨λ⟨a,e,h⟩=>by simp only[X4,and_true]at e;rw[e];exact h,λh=>⟨d,rfl,h⟩⟩
def iV:SpD:=iE rS
def ke:SpD:=iE iW
def j5:SpD:=iE bX
def lb:SpD:=iE uH
theorem mG(F:Fun K "is_whole" "is_whole" fm f G)(T:Txt B):aP P w K B base CX0 1 f G ["thing"] (spD K 1 iV):=by
 have m:=iF.nd;refine F.okR rfl iF (λh A e s H E l=>⟨_,(aq (aZ (bH (dD (Tn:="int") (by decide) rfl T.b_isinstance rfl T.b_int (by kernel_rfl) (af 0)) (eB (Cg (dD (Tn:="bool") (by decide) rfl T.b_isinstance rfl T.b_bool (by kernel_rfl) (af 0))))))),λj M R _ g bk=>?_⟩);obtain⟨d,rfl,a,k⟩:=g;refine bk ?_;clear bk;walk_at"";simp only[bj a];cases d with
 |int i=>exact⟨true,rfl,by simp only[if_true];exact⟨false,rfl,k⟩⟩
 |bl b=>exact⟨true,rfl,by simp only[if_true];exact⟨true,rfl,k⟩⟩
 |scr _=>simp[ak]at a
 |ref _=>simp[ak]at a
 |box _ _=>simp[ak]at a
 |_=>exact⟨false,rfl,by simp only[F0,if_false];exact k⟩
theorem oA(F:Fun K "is_turn" "is_turn" gp f G)(T:Txt B)(e:FnD P w K B base "is_whole" 1 1 iV):aP P w K B base CX0 2 f G ["thing"] (spD K 1 ke):=by
 have m:=je.nd;refine F.okR rfl je (λj A b s H E i=>⟨_,(aq (aZ (bH (qd e i (ae (af 0) ah)) (eB (kJ ib ib (Bg Bj (dF rfl T.g_MOST_TURN)) (af 0) (dF rfl T.g_MOST_TURN)))))),λl M R _ g bk=>?_⟩);obtain⟨d,rfl,a,k⟩:=g;refine bk ?_;clear bk;walk_at"";refine bM.mpr ⟨a,?_⟩;walk_at"";simp only[bj a];cases d with
 |int t =>
  simp only[rS,if_true];walk_at"";simp only[iW]at k;refine a7 (λh=>?_) (λh=>?_)
  ·rw[decide_eq_true h,O3]at k;exact k
  ·rw[decide_eq_false h,K2]at k;exact k
 |scr _=>simp[ak]at a
 |ref _=>simp[ak]at a
 |box _ _=>simp[ak]at a
 |_=>simp only[rS,F0,if_false];exact k
theorem mU{ds:List D}(h:¬ ds.length=2):bX (.tup ds)=false:=by
 match ds,h with
 |[],_=>rfl
 |[_],_=>rfl
 |[_,_],h=>exact absurd rfl h
 |_::_::_::_,_=>rfl
theorem nL(F:Fun K "is_sign" "is_sign" fZ f G)(T:Txt B)(o:FnD P w K B base "is_tuple_of" 1 2 bt)(q:FnD P w K B base "is_mark" 2 1 cX)(m:FnD P w K B base "is_turn" 2 1 ke):aP P w K B base CX0 3 f G ["thing"] (spD K 1 j5):=by
 have u:=jh.nd;refine F.okR rfl jh (λt A i s H E j=>⟨_,(aq (aZ (bH (qd o j (ae (af 0) (ae ag ah))) (bH (qd q j (ae (ay az (af 0) ag (λ_ _=>rfl)) ah)) (eB (qd m j (ae (ay az (af 0) ag (λ_ _=>rfl)) ah))))))),λl M R _ p bk=>?_⟩);obtain⟨d,rfl,e,k⟩:=p;refine bk ?_;clear bk;walk_at"";refine bV.mpr ⟨e,?_⟩;walk_at"";cases d with
 |tup l =>
  by_cases n:l.length=2
  ·match l,n,e,k with
   |[a,b],_,e,k =>
    have g:ak a=true/\ak b=true:=by simpa[ak,bO]using e
    rw[if_pos (by rfl)];walk_at"";refine cT.mpr ⟨g.1,?_⟩;walk_at"";simp only[bX]at k;refine a7 (λh=>bM.mpr ⟨g.2,?_⟩) (λh=>?_)
    ·rw[h,O3]at k;exact k
    ·rw[show aH a=false by simpa using h,K2]at k;exact k
  ·rw[if_neg (by simp only[nF];simp;lia)];rw[mU n]at k;exact k
 |scr _=>simp[ak]at e
 |ref _=>simp[ak]at e
 |box _ _=>simp[ak]at e
 |_=>rw[if_neg (by simp[nF])];exact k
theorem n9{f:D->Bool}{M:DH}{Q:List D->DH->Prop}{ds:List D}{te:TEd}{Δ0:DE}{n:Nat}(e:∀d∈ds,∀x,∀a:D->DH->Prop,a (.bl (f d)) M->te ((Δ0++[x]).set Δ0.length (some d)) M a)
  (h:Q ((ds.map f).map D.bl) M):cz (fo Δ0.length) xV te ds (Δ0++[none]) M [] Q:=by
 refine dQ (λ_=>true) (λd=>.bl (f d)) (λg=>∃x,g=Δ0++[x]) _ _ _ (λd i g b=>?_) ⟨none,rfl⟩ ?_
 ·obtain⟨x,rfl⟩:=b;refine⟨_,rfl,⟨some d,by simp⟩,λj q=>q,λ_ a q=>e d i x a q⟩
 ·rw[N0,O8.mpr (λ_ _=>rfl)];rw[Q9]at h;exact h
theorem pK(F:Fun K "is_row" "is_row" fG f G)(T:Txt B)(l:FnD P w K B base "is_sign" 3 1 j5):aP P w K B base CX0 4 f G ["thing"] (spD K 1 lb):=by
 have z:=j3.nd;refine F.okR rfl j3 (λt A h s H E p=>⟨_,(aq (aZ (bH (dD (Tn:="tuple") (by decide) rfl T.b_isinstance rfl T.b_tuple (by kernel_rfl) (af 0)) (eB (au (k9 rfl) rfl T.b_all (by kernel_rfl) (ae (ic (ms:=[false]) (ar:=["sign"]) (aD (n0:=0) rfl (show aO (ai fG) iS _ _=true from by decide +kernel)) rfl (aQ (af 0)) (aJ (i:=1) (show(iS++_).Nodup from by decide +kernel) rfl rfl) (λ_ _ _ _=>bR) (λ_ _ _ _=>(qd l p (ae (af 1) ah)))) ah)))))),λb M R _ m bk=>?_⟩);obtain⟨d,rfl,a,k⟩:=m;refine bk ?_;clear bk;walk_at"";simp only[bj a];cases d with
 |tup b =>
  refine⟨true,rfl,?_⟩;walk_at"";have j:∀d∈b,ak d=true:=bw.mp (by simpa[ak]using a);intro o;refine⟨o,n9 (f:=bX) (Δ0:=[none]) (n:=1) (λd g x u q=>?_) ?_⟩
  ·walk_at"";exact bM.mpr ⟨j d g,q⟩
  ·refine⟨_,dI,?_⟩;have e:(b.map bX).all id=uH (.tup b):=by
    simp only[uH,S6];rfl
   rw[e];exact k
 |scr _=>simp[ak]at a
 |ref _=>simp[ak]at a
 |box _ _=>simp[ak]at a
 |_=>exact⟨false,rfl,by simp only[F0,if_false];exact k⟩
def iH:D->Bool
 |.tup [a,b]=>aH a&&aH b
 |_=>false
def ky:D->Bool
 |.tup a=>decide (a.length<=8)&&a.all iH
 |_=>false
def fU:SpD:=λa M R=>∃d,a=[d]/\ak d=true/\R (.bl (iH d)) M
def fC:SpD:=λa M R=>∃d,a=[d]/\ak d=true/\R (.bl (ky d)) M
theorem mv{d:D}{M:DH}{R:D->DH->Prop}:fU [d] M R↔ak d=true/\R (.bl (iH d)) M :=
 ⟨λ⟨a,e,h⟩=>by simp only[X4,and_true]at e;rw[e];exact h,λh=>⟨d,rfl,h⟩⟩
theorem lT{d:D}{M:DH}{R:D->DH->Prop}:fC [d] M R↔ak d=true/\R (.bl (ky d)) M :=
 ⟨λ⟨a,e,h⟩=>by simp only[X4,and_true]at e;rw[e];exact h,λh=>⟨d,rfl,h⟩⟩
theorem uA{ds:List D}(h:¬ ds.length=2):iH (.tup ds)=false:=by
 match ds,h with
 |[],_=>rfl
 |[_],_=>rfl
 |[_,_],h=>exact absurd rfl h
 |_::_::_::_,_=>rfl
theorem oU(F:Fun K "is_pair" "is_pair" gP f G)(T:Txt B)(p:FnD P w K B base "is_tuple_of" 1 2 bt)(n:FnD P w K B base "is_mark" 2 1 cX):aP P w K B base CX0 3 f G ["thing"] (spD K 1 fU):=by
 have t:=jn.nd;refine F.okR rfl jn (λq A j s H E l=>⟨_,(aq (aZ (bH (qd p l (ae (af 0) (ae ag ah))) (bH (qd n l (ae (ay az (af 0) ag (λ_ _=>rfl)) ah)) (eB (qd n l (ae (ay az (af 0) ag (λ_ _=>rfl)) ah))))))),λi M R _ o bk=>?_⟩);obtain⟨d,rfl,e,k⟩:=o;refine bk ?_;clear bk;walk_at"";refine bV.mpr ⟨e,?_⟩;walk_at"";cases d with
 |tup i =>
  by_cases m:i.length=2
  ·match i,m,e,k with
   |[a,b],_,e,k =>
    have g:ak a=true/\ak b=true:=by simpa[ak,bO]using e
    rw[if_pos (by rfl)];walk_at"";refine cT.mpr ⟨g.1,?_⟩;walk_at"";simp only[iH]at k;refine a7 (λh=>cT.mpr ⟨g.2,?_⟩) (λh=>?_)
    ·rw[h,O3]at k;exact k
    ·rw[show aH a=false by simpa using h,K2]at k;exact k
  ·rw[if_neg (by simp only[nF];simp;lia)];rw[uA m]at k;exact k
 |scr _=>simp[ak]at e
 |ref _=>simp[ak]at e
 |box _ _=>simp[ak]at e
 |_=>rw[if_neg (by simp[nF])];exact k
theorem ml(F:Fun K "is_order" "is_order" dq f G)(T:Txt B)(l:FnD P w K B base "is_pair" 3 1 fU):aP P w K B base CX0 4 f G ["thing"] (spD K 1 fC):=by
 have C:=iA.nd;refine F.okR rfl iA (λu A h s H E t=>⟨_,(aq (aZ (bH (dD (Tn:="tuple") (by decide) rfl T.b_isinstance rfl T.b_tuple (by kernel_rfl) (af 0)) (bH (jf ib (au aT rfl T.b_len (by kernel_rfl) (ae (af 0) ah)) (dF rfl T.g_MOST_PAIRS) nbh) (eB (au (k9 rfl) rfl T.b_all (by kernel_rfl) (ae (ic (ms:=[false]) (ar:=["pair"]) (aD (n0:=0) rfl (show aO (ai dq) fi _ _=true from by decide +kernel)) rfl (aQ (af 0)) (aJ (i:=1) (show(fi++_).Nodup from by decide +kernel) rfl rfl) (λ_ _ _ _=>bR) (λ_ _ _ _=>(qd l t (ae (af 1) ah)))) ah))))))),λa M R _ m bk=>?_⟩);obtain⟨d,rfl,b,k⟩:=m;refine bk ?_;clear bk;walk_at"";simp only[bj b];cases d with
 |tup a =>
  refine⟨true,rfl,?_⟩;walk_at"";have j:∀d∈a,ak d=true:=bw.mp (by simpa[ak]using b);refine a7 (λp=>λo=>⟨o,?_⟩) (λp=>?_)
  ·refine n9 (f:=iH) (Δ0:=[none]) (n:=1) (λd g x z q=>?_) ?_
   ·walk_at"";exact mv.mpr ⟨j d g,q⟩
   ·refine⟨_,dI,?_⟩;have e:(a.map iH).all id=ky (.tup a):=by
     simp only[ky,S6,decide_eq_true (by lia:a.length<=8),O3];rfl
    rw[e];exact k
  ·have e:ky (.tup a)=false:=by simp only[ky,decide_eq_false (by lia:¬ a.length<=8),K2]
   rw[e]at k;exact k
 |scr _=>simp[ak]at b
 |ref _=>simp[ak]at b
 |box _ _=>simp[ak]at b
 |_=>exact⟨false,rfl,by simp only[F0,if_false];exact k⟩
theorem aY{o:Type}{g:GD}{tc:TTd}{te:TEd}{M:DH}{Q:List D->DH->Prop}(l:o->D)(b:o->Bool)(y:o->D)(Ok:DE->Prop):∀(xs:List o) (j:DE) (i:List D),
  (∀x∈xs,∀ j,Ok j->∃ a,g (l x) j=some a/\Ok a/\(∀u:Bool->DH->Prop,u (b x) M->tc a M u)/\(b x=true->∀t:D->DH->Prop,t (y x) M->te a M t))->Ok j ->
  Q (i++(xs.filter b).map y) M->cz g tc te (xs.map l) j M i Q
 |[],j,i,_,_,q=>by simpa[cz]using q
 |x::xs,j,i,h,s,q=>by
  rw[K0];simp only[cz];obtain⟨a,e,m,A,C⟩:=h x (.head _) j s;refine⟨a,e,A _ ?_⟩;have ih:=λn B=>aY (Q:=Q) l b y Ok xs a n (λz w=>h z (.tail _ w)) m B;cases p:b x with
  |true =>
   simp only[if_true];refine C p _ (ih _ ?_);rw[List.filter_cons_of_pos p]at q;simpa using q
  |false =>
   simp only[F0,if_false];refine ih _ ?_;rw[List.filter_cons_of_neg (by simp[p])]at q;exact q
theorem kH{e:Type}[DecidableEq e](f:e->D)(g:∀x y,eqD (f x) (f y)=decide (x=y)):∀{a b:List e},cZ (a.map f) (b.map f)=decide (a=b)
 |[],[]=>by simp[cZ]
 |[],_::_=>by simp[cZ]
 |_::_,[]=>by simp[cZ]
 |x::a,y::b=>by
  rw[K0,K0,cZ,kH f g (a:=a) (b:=b),g];simp
theorem c7{b:Type}(f:b->D)(g:∀x,dLe (f x) 59=true){a:List b}:bJ (a.map f) 59=true:=by
 rw[dG];intro d e;obtain⟨x,_,rfl⟩:=K5.mp e;exact g x
theorem bI{a:Type}{p:a->Prop}{xs:List a}{y:a}(h:∀x∈xs,p x)(b:p y):∀x∈xs++[y],p x:=λx e=>by
 rcases Q3.mp e with z|z
 ·exact h x z
 ·obtain rfl:=L6.mp z;exact b
open Classical in
def ju{a:Type}(l:List a):Bool:=decide l.Nodup
theorem cY{a:Type}{l:List a}:ju l=true↔l.Nodup:=by simp[ju]
theorem fV{a b:Type}{f:a->b}(g:∀x y,f x=f y->x=y){l:List a}:ju (l.map f)=ju l:=by
 rw[O2,cY,cY,List.nodup_iff_pairwise_ne,List.nodup_iff_pairwise_ne,List.pairwise_map];exact⟨λh=>h.imp λq e=>q (by rw[e]),λh=>h.imp λq e=>q (g _ _ e)⟩
theorem jK{o:Type}:∀(xs g:List o),(xs.foldl e9 g).length<=g.length+xs.length/\((xs.foldl e9 g).length=g.length+xs.length->g.Nodup->(g++xs).Nodup)
 |[],g=>by simp
 |x::xs,g=>by
  rw[X3]
  by_cases h:x∈g
  ·rw[show e9 g x=g from if_pos h];have:=(jK xs g).1;exact⟨by simp;lia,λe=>by simp at e;lia⟩
  ·rw[show e9 g x=g++[x]from if_neg h];obtain⟨i,m⟩:=jK xs (g++[x]);refine⟨by simp at i ⊢;lia,λe l=>?_⟩;have:=m (by simp at e ⊢;lia) (by
    rw[V1];refine⟨l,by simp,λa n b j=>?_⟩;obtain rfl:=L6.mp j;rintro rfl;exact h n)
   simpa using this
theorem kO{e:Type}:∀(xs a:List e),(a++xs).Nodup->xs.foldl e9 a=a++xs
 |[],a,_=>by simp
 |x::xs,a,h=>by
  have b:x∉a:=λz=>by
   rw[V1]at h;exact h.2.2 x z x (.head _) rfl
  rw[X3,show e9 a x=a++[x]from if_neg b,kO xs _ (by simpa using h)];simp
theorem sI{a:Type}{xs:List a}:(((gG xs).length:Int)==(xs.length:Int))=ju xs:=by
 rw[O2,cY,beq_iff_eq];constructor
 ·intro e;have:=(jK xs []).2 (by simp;exact_mod_cast e) ak3;simpa using this
 ·intro h;have:gG xs=xs:=by have:=kO xs [] (by simpa using h);simpa[gG]using this
  rw[this]
theorem jO:∀(xs g:List Str),(xs.foldl fH g).length<=g.length+xs.length/\((xs.foldl fH g).length=g.length+xs.length->g.Nodup->(g++xs).Nodup)
 |[],g=>by simp
 |x::xs,g=>by
  rw[X3]
  by_cases h:x∈g
  ·rw[show fH g x=g from if_pos h];have:=(jO xs g).1;exact⟨by simp;lia,λe=>by simp at e;lia⟩
  ·rw[show fH g x=g++[x]from if_neg h];obtain⟨i,m⟩:=jO xs (g++[x]);refine⟨by simp at i ⊢;lia,λe l=>?_⟩;have:=m (by simp at e ⊢;lia) (by
    rw[V1];refine⟨l,by simp,λa n b j=>?_⟩;obtain rfl:=L6.mp j;rintro rfl;exact h n)
   simpa using this
theorem lP:∀(xs a:List Str),(a++xs).Nodup->xs.foldl fH a=a++xs
 |[],a,_=>by simp
 |x::xs,a,h=>by
  have b:x∉a:=λz=>by
   rw[V1]at h;exact h.2.2 x z x (.head _) rfl
  rw[X3,show fH a x=a++[x]from if_neg b,lP xs _ (by simpa using h)];simp
theorem zk{xs:List Str}:(((fc xs).length:Int)==(xs.length:Int))=ju xs:=by
 rw[O2,cY,beq_iff_eq];constructor
 ·intro e;have:=(jO xs []).2 (by simp;exact_mod_cast e) ak3;simpa using this
 ·intro h;have:fc xs=xs:=by have:=lP xs [] (by simpa using h);simpa[fc]using this
  rw[this]
def cS:D->Bool
 |.tup a=>a.all bX&&decide (a.length<=5)
 |_=>false
def ie:D->Bool
 |.tup a=>decide (1<=a.length)&&decide (a.length<=4)&&a.all cS&&ju a
 |_=>false
def eD(p:D×D):D:=.tup [p.1,p.2]
def enB(p:D×D):Bool:=aH p.1&&ie p.2
def fR(a:List (D×D)):Bool:=decide (1<=a.length)&&decide (a.length<=10)&&a.all enB&&ju (a.map (·.1))
def lxD(o g:D)(a:List (D×D)):D:=.tup [o,g,.tup (a.map eD)]
theorem cO{d:D}(h:aH d=true):∃x,d=.str x/\aC x=true:=by
 cases d with
 |str x=>exact⟨x,rfl,h⟩
 |_=>cases h
theorem yH{d:D}(h:bX d=true):∃k,d=kd (.tup k)/\∀z∈k,dpK 6 z:=by
 match d,h with
 |.tup [a,b],h =>
  simp only[bX,F8]at h;obtain⟨x,rfl,_⟩:=cO h.1;cases b with
  |int t =>
   refine⟨[.str x,.int t],rfl,λz e=>?_⟩;simp only[J3,T7,or_false]at e;rcases e with rfl|rfl<;>simp[dpK]
  |_=>cases h.2
theorem vD:∀{ds:List D},ds.all bX=true->∃r:List KD,.tup ds=nJ r/\∀z∈r,dpK 7 z
 |[],_=>⟨[],rfl,λ_ h=>by cases h⟩
 |d::ds,h=>by
  simp only[V6,F8]at h;obtain⟨k,rfl,b⟩:=yH h.1;obtain⟨r,e,g⟩:=vD h.2;refine⟨.tup k::r,?_,λz a=>?_⟩
  ·simp only[nJ,D.tup.injEq]at e ⊢;rw[e];rfl
  ·rcases J3.mp a with rfl|a
   ·exact b
   ·exact g z a
theorem oF:∀{a:List D},a.all cS=true->∃rs:List (List KD),a=rs.map nJ/\∀k∈rs,dpK 8 (.tup k)
 |[],_=>⟨[],rfl,λ_ h=>by cases h⟩
 |d::a,h=>by
  simp only[V6,F8]at h;obtain⟨rs,rfl,b⟩:=oF h.2;cases d with
  |tup l =>
   have i:=h.1;simp only[cS,F8]at i;obtain⟨r,e,j⟩:=vD i.1;exact⟨r::rs,by rw[K0,<-e],λk g=>by
    rcases J3.mp g with rfl|g
    ·exact j
    ·exact b k g⟩
  |_=>cases h.1
theorem ub:∀{l:List D},l.all aH=true->∃xs:List Str,l=xs.map D.str
 |[],_=>⟨[],rfl⟩
 |d::l,h=>by
  simp only[V6,F8]at h;obtain⟨x,rfl,_⟩:=cO h.1;obtain⟨xs,rfl⟩:=ub h.2;exact⟨x::xs,rfl⟩
theorem sO:∀x y:Str,D.str x=D.str y->x=y:=λ_ _ h=>by cases h;rfl
theorem cv{a:List (D×D)}(h:a.all enB=true):∃xs:List Str,a.map (·.1)=xs.map D.str:=by
 refine ub ?_;rw[S6,J7];intro p b;have:=(J7.mp h) p b;simp only[enB,F8]at this;exact this.1
def dU:SpD:=λe M R=>(∃a:List D,e=[.tup a]/\a.all cS=true/\a.length<=4/\R (.bl (ju a)) M)∨∃b:List Str,e=[.lst (b.map .str)]/\b.length<=10/\R (.bl (ju b)) M
theorem ko(F:Fun K "are_unlike" "are_unlike" dP f G)(T:Txt B):aP P w K B base CX0 1 f G ["things"] (spD K 1 dU):=by
 have o:=fJ.nd;refine F.okR rfl fJ (λl A b s H E e=>⟨_,(aq (aZ (jf (gJ e.units) (Df rfl e.units rfl T.b_len rfl T.b_set (af 0)) (au aT rfl T.b_len (by kernel_rfl) (ae (af 0) ah)) nbh))),λm M R _ i bk=>?_⟩);refine bk ?_;clear bk;rcases i with⟨n,rfl,j,g,k⟩|⟨ws,rfl,g,k⟩
 ·walk_at"";obtain⟨rs,rfl,a⟩:=oF j;refine .inl ⟨rs,rfl,a,by rw[E8]at g;lia,?_⟩;rw[E8,sI,<-fV (λ_ _ h=>pT h)];exact k
 ·walk_at"";refine .inr ⟨ws,rfl,by lia,?_⟩;rw[E8,zk];exact k
def j7:SpD:=iE cS
theorem oG(F:Fun K "is_kind" "is_kind" gy f G)(T:Txt B)(h:FnD P w K B base "is_row" 4 1 lb):aP P w K B base CX0 5 f G ["thing"] (spD K 1 j7):=by
 have n:=iY.nd;refine F.okR rfl iY (λm A g s H E l=>⟨_,(aq (aZ (bH (qd h l (ae (af 0) ah)) (eB (jf ib (au aT rfl T.b_len (by kernel_rfl) (ae (af 0) ah)) (dF rfl T.g_MOST_SIGNS) nbh))))),λa M R _ j bk=>?_⟩);obtain⟨d,rfl,b,k⟩:=j;refine bk ?_;clear bk;walk_at"";refine bM.mpr ⟨b,?_⟩;cases d with
 |tup a =>
  walk_at"";have e:cS (.tup a)=(uH (.tup a)&&decide ((a.length:Int)<=5)):=by
   simp only[cS,uH];congr 1;rw[O2,decide_eq_true_eq,decide_eq_true_eq];lia
  cases i:uH (.tup a)with
  |true =>
   rw[e,i,O3]at k;exact k
  |false =>
   rw[e,i,K2]at k;exact k
 |scr _=>simp[ak]at b
 |ref _=>simp[ak]at b
 |box _ _=>simp[ak]at b
 |_=>exact⟨false,rfl,by simp only[F0,if_false];exact k⟩
def il:SpD:=iE ie
theorem md(F:Fun K "are_kinds" "are_kinds" cW f G)(T:Txt B)(z:FnD P w K B base "are_unlike" 1 1 dU)(l:FnD P w K B base "is_kind" 5 1 j7):aP P w K B base CX0 6 f G ["thing"] (spD K 1 il):=by
 have O:=gx.nd;refine F.okR rfl gx (λJ A j s H E o=>⟨_,(aq (aZ (bH (dD (Tn:="tuple") (by decide) rfl T.b_isinstance rfl T.b_tuple (by kernel_rfl) (af 0)) (bH (kJ ib ib ag (au aT rfl T.b_len (by kernel_rfl) (ae (af 0) ah)) (dF rfl T.g_MOST_KINDS)) (bH (au (k9 rfl) rfl T.b_all (by kernel_rfl) (ae (ic (ms:=[false]) (ar:=["kind"]) (aD (n0:=0) rfl (show aO (ai cW) eK _ _=true from by decide +kernel)) rfl (aQ (af 0)) (aJ (i:=1) (show(eK++_).Nodup from by decide +kernel) rfl rfl) (λ_ _ _ _=>bR) (λ_ _ _ _=>(qd l o (ae (af 1) ah)))) ah)) (eB (qd z o (ae (af 0) ah)))))))),λL M R _ p bk=>?_⟩);obtain⟨d,rfl,b,k⟩:=p;refine bk ?_;clear bk;walk_at"";simp only[bj b];cases d with
 |tup a =>
  refine⟨true,rfl,?_⟩;walk_at"";have m:∀d∈a,ak d=true:=bw.mp (by simpa[ak]using b);have e:ie (.tup a)=(decide (1<=a.length)&&decide (a.length<=4)&&a.all cS&&ju a):=rfl;refine a7 (λu=>a7 (λI t=>⟨t,?_⟩) (λI=>?_)) (λu=>?_)
  ·refine n9 (f:=cS) (Δ0:=[none]) (n:=1) (λd g x N q=>?_) ?_
   ·walk_at"";exact bM.mpr ⟨m d g,q⟩
   ·refine⟨_,dI,_,rfl,?_⟩;have C:(a.map cS).all id=a.all cS:=by rw[S6];rfl
    rw[C];rw[e,decide_eq_true (by lia:1<=a.length),decide_eq_true (by lia:a.length<=4),O3,O3]at k;refine a7 (λh=>.inl ⟨a,rfl,h,by lia,?_⟩) (λh=>?_)
    ·rw[h,O3]at k;exact k
    ·rw[show a.all cS=false by simpa using h,K2]at k;exact k
  ·rw[e,decide_eq_false (by lia:¬ a.length<=4),R8,K2,K2]at k;exact k
  ·rw[e,decide_eq_false (by lia:¬ 1<=a.length),K2,K2,K2]at k;exact k
 |scr _=>simp[ak]at b
 |ref _=>simp[ak]at b
 |box _ _=>simp[ak]at b
 |_=>exact⟨false,rfl,by simp only[F0,if_false];exact k⟩
def js:SpD:=λa M R=>∃p:D×D,a=[eD p]/\ak p.1=true/\ak p.2=true/\R (.bl (enB p)) M
theorem mq(F:Fun K "is_entry" "is_entry" fA f G)(T:Txt B)(i:FnD P w K B base "is_tuple_of" 1 2 bt)(j:FnD P w K B base "is_short_word" 1 1 bf)(m:FnD P w K B base "are_kinds" 6 1 il):aP P w K B base CX0 7 f G ["thing"] (spD K 1 js):=by
 have o:=ik.nd;refine F.okR rfl ik (λn A a s H E b=>⟨_,(aq (aZ (bH (qd i b (ae (af 0) (ae ag ah))) (bH (qd j b (ae (ay az (af 0) ag (λ_ _=>rfl)) ah)) (eB (qd m b (ae (ay az (af 0) ag (λ_ _=>rfl)) ah))))))),λp M R _ l bk=>?_⟩);obtain⟨⟨w,q⟩,rfl,g,e,k⟩:=l;refine bk ?_;clear bk;simp only[eD];walk_at"";refine bV.mpr ⟨by simp[ak,bO,g,e],?_⟩;refine⟨_,rfl,?_⟩;rw[if_pos (by rfl)];refine bB.mpr ⟨g,_,rfl,?_⟩;simp only[enB]at k;refine a7 (λh=>bM.mpr ⟨e,?_⟩) (λh=>?_)
 ·rw[h,O3]at k;exact k
 ·rw[show aH w=false by simpa using h,K2]at k;exact k
def fK:SpD:=λb M R=>∃a:List (D×D),b=[.tup (a.map eD)]/\(∀p∈a,ak p.1=true/\ak p.2=true)/\a.length<=11/\R (.bl (fR a)) M
theorem jS(F:Fun K "are_entries" "are_entries" bK f G)(T:Txt B)(N:FnD P w K B base "are_unlike" 1 1 dU)(C:FnD P w K B base "is_entry" 7 1 js):aP P w K B base CX0 8 f G ["thing"] (spD K 1 fK):=by
 have nd:=eT.nd;refine F.okR rfl eT (λX A l s H E t=>⟨_,(aq (aZ (bH (dD (Tn:="tuple") (by decide) rfl T.b_isinstance rfl T.b_tuple (by kernel_rfl) (af 0)) (bH (kJ ib ib ag (au aT rfl T.b_len (by kernel_rfl) (ae (af 0) ah)) (dF rfl T.g_MOST_ENTRIES)) (bH (au (k9 rfl) rfl T.b_all (by kernel_rfl) (ae (ic (ms:=[false]) (ar:=["entry"]) (aD (n0:=0) rfl (show aO (ai bK) bq _ _=true from by decide +kernel)) rfl (aQ (af 0)) (aJ (i:=1) (show(bq++_).Nodup from by decide +kernel) rfl rfl) (λ_ _ _ _=>bR) (λ_ _ _ _=>(qd C t (ae (af 1) ah)))) ah)) (eB (qd N t (ae (ic (ms:=[false]) (ar:=["word","kinds"]) (aD (n0:=0) rfl (show aO (ai bK) bq _ _=true from by decide +kernel)) rfl (aQ (af 0)) (jT (n:=2) rfl (cn (aJ (i:=1) (show(bq++_).Nodup from by decide +kernel) rfl rfl) (cn (aJ (i:=2) (show(bq++_).Nodup from by decide +kernel) rfl rfl) jU))) (λ_ _ _ _=>bR) (λ_ _ _ _=>(af 1))) ah)))))))),λZ M R _ I bk=>?_⟩);obtain⟨a,rfl,u,hl,k⟩:=I;refine bk ?_;clear bk;walk_at"";refine⟨true,rfl,?_⟩;rw[if_pos rfl,E8];have e:fR a=(decide (1<=a.length)&&decide (a.length<=10)&&a.all enB&&ju (a.map (·.1))):=rfl;refine a7 (λL=>a7 (λS J=>⟨J,?_⟩) (λS=>?_)) (λL=>?_)
 ·refine aY eD (λ_=>true) (λp=>D.bl (enB p)) (λg=>∃x,g=[none,x]) a _ _ (λp j g b=>?_) ⟨none,rfl⟩ ?_
  ·obtain⟨x,rfl⟩:=b;refine⟨_,rfl,⟨_,rfl⟩,λU q=>q,λ_ O q=>?_⟩;walk_at"";exact⟨p,rfl,(u p j).1,(u p j).2,q⟩
  rw[N0,O8.mpr (λ_ _=>rfl)];have Q:wY (.lst (a.map λp=>D.bl (enB p)))=some (.bl (a.all enB)):=by
   have:=dI (bs:=a.map enB);rw[Q9,S6]at this;exact this
  refine⟨_,Q,_,rfl,?_⟩;rw[e,decide_eq_true (by lia:1<=a.length),decide_eq_true (by lia:a.length<=10),O3,O3]at k;refine a7 (λh=>?_) (λh=>?_)
  ·intro m;refine⟨m,?_⟩;refine aY eD (λ_=>true) (λp=>p.1) (λg=>∃x y,g=[none,x,y]) a _ _ (λp j g b=>?_) ⟨none,none,rfl⟩ ?_
   ·obtain⟨x,y,rfl⟩:=b;refine⟨_,rfl,⟨_,_,rfl⟩,λU q=>q,λ_ O q=>?_⟩;walk_at"";exact q
   rw[N0,O8.mpr (λ_ _=>rfl)];obtain⟨z,o⟩:=cv h;have Y:z.length=a.length:=by have:=congrArg X9 o;simpa using this.symm
   rw[h,O3,o,fV sO]at k;exact .inr ⟨z,by rw[<-o],by lia,k⟩
  ·rw[show a.all enB=false by simpa using h,K2]at k;exact k
 ·rw[e,decide_eq_false (by lia:¬ a.length<=10),R8,K2,K2]at k;exact k
 ·rw[e,decide_eq_false (by lia:¬ 1<=a.length),K2,K2,K2]at k;exact k
def fY:SpD:=λb M R=>∃(o g:D) (a:List (D×D)),b=[lxD o g a]/\(ak o=true/\ky o=true)/\(ak g=true/\aH g=true)/\(∀p∈a,ak p.1=true/\ak p.2=true)/\a.length<=11/\R (.bl (fR a)) M
theorem kr(F:Fun K "is_lexicon" "is_lexicon" dJ f G)(T:Txt B)(q:FnD P w K B base "is_tuple_of" 1 2 bt)(z:FnD P w K B base "is_order" 4 1 fC)(I:FnD P w K B base "is_mark" 2 1 cX)(n:FnD P w K B base "are_entries" 8 1 fK):aP P w K B base CX0 9 f G ["thing"] (spD K 1 fY):=by
 have L:=fM.nd;refine F.okR rfl fM (λJ A b s H E a=>⟨_,(aq (aZ (bH (qd q a (ae (af 0) (ae ag ah))) (bH (qd z a (ae (ay az (af 0) ag (λ_ _=>rfl)) ah)) (bH (qd I a (ae (ay az (af 0) ag (λ_ _=>rfl)) ah)) (eB (qd n a (ae (ay az (af 0) ag (λ_ _=>rfl)) ah)))))))),λN M R _ t bk=>?_⟩);obtain⟨o,g,l,rfl,h,i,e,u,k⟩:=t;refine bk ?_;clear bk;simp only[lxD];walk_at"";have j:ak (.tup (l.map eD))=true:=by
  show bO _=true;rw[bw];intro d C;obtain⟨p,m,rfl⟩:=K5.mp C;simp[eD,ak,bO,(e p m).1,(e p m).2]
 refine bV.mpr ⟨by simp only[ak,bO,h.1,i.1,O3,ai2];exact j,true,rfl,?_⟩;rw[if_pos rfl];refine lT.mpr ⟨h.1,true,by rw[h.2],?_⟩;rw[if_pos rfl];refine cT.mpr ⟨i.1,true,by rw[i.2],?_⟩;rw[if_pos rfl];exact⟨l,rfl,e,u,k⟩
def du:SpD:=λb M R=>∃(o g:D) (a:List (D×D)),b=[lxD o g a]/\a.length<=11/\R (.lst (a.map (·.1))) M
theorem mn(F:Fun K "words_of" "words_of" dw f G)(T:Txt B):aP P w K B base CX0 1 f G ["lexicon"] (spD K 1 du):=by
 have I:=iG.nd;refine F.okR rfl iG (λm A a s H E C=>⟨_,(aq (aZ (ic (ms:=[false]) (ar:=["word","kinds"]) (aD (n0:=0) rfl (show aO (ai dw) dn _ _=true from by decide +kernel)) rfl (aQ (ay az (af 0) ag (λ_ _=>rfl))) (jT (n:=2) rfl (cn (aJ (i:=1) (show(dn++_).Nodup from by decide +kernel) rfl rfl) (cn (aJ (i:=2) (show(dn++_).Nodup from by decide +kernel) rfl rfl) jU))) (λ_ _ _ _=>bR) (λ_ _ _ _=>(af 1))))),λu M R _ h bk=>?_⟩);obtain⟨o,g,l,rfl,J,k⟩:=h;refine bk ?_;clear bk;simp only[lxD];walk_at"";refine λj=>⟨j,?_⟩;refine aY eD (λ_=>true) (λp=>p.1) (λe=>∃x y,e=[none,x,y]) l _ _ (λp t e b=>?_) ⟨none,none,rfl⟩ ?_
 ·obtain⟨x,y,rfl⟩:=b;refine⟨_,rfl,⟨_,_,rfl⟩,λL q=>q,λ_ z q=>?_⟩;walk_at"";exact q
 rw[N0,O8.mpr (λ_ _=>rfl)];exact k
theorem aV{a:List (D×D)}:fR a=true↔(1<=a.length/\a.length<=10)/\a.all enB=true/\(a.map (·.1)).Nodup:=by
 unfold fR;rw[F8,F8,F8,decide_eq_true_eq,decide_eq_true_eq,cY];exact⟨λh=>⟨h.1.1,h.1.2,h.2⟩,λh=>⟨⟨h.1,h.2.1⟩,h.2.2⟩⟩
theorem e7{a:List (D×D)}{w:D}(h:a.all enB=true)(e:w∈a.map (·.1)):aH w=true:=by
 obtain⟨p,b,rfl⟩:=K5.mp e;have:=J7.mp h p b;simp only[enB,F8]at this;exact this.1
open Classical in
def eF(a:List (D×D))(w:D):Bool:=decide (w∈a.map (·.1))
theorem cg{a:List (D×D)}{w:D}:eF a w=true↔w∈a.map (·.1):=by simp[eF]
def ft:SpD:=λb M R=>∃(o g:D) (a:List (D×D)) (w:D),b=[lxD o g a,w]/\ak w=true/\fR a=true/\R (.bl (eF a w)) M
theorem mw(F:Fun K "has_word" "has_word" fE f G)(T:Txt B)(n:FnD P w K B base "is_short_word" 1 1 bf)(p:FnD P w K B base "words_of" 1 1 du):aP P w K B base CX0 2 f G ["lexicon","thing"] (spD K 2 ft):=by
 have Q:=ip.nd;refine F.okR rfl ip (λJ A a s H E j=>⟨_,(aq (aZ (bH (qd n j (ae (af 1) ah)) (eB (jf tQ (af 1) (qd p j (ae (af 0) ah)) rfl))))),λL M R _ m bk=>?_⟩);obtain⟨o,g,b,w,rfl,I,z,k⟩:=m;refine bk ?_;clear bk;walk_at"";refine bB.mpr ⟨I,_,rfl,?_⟩;obtain⟨⟨O,u⟩,i,N⟩:=aV.mp z;obtain⟨C,l⟩:=cv i;refine a7 (λh=>?_) (λh=>?_)
 ·obtain⟨x,rfl,_⟩:=cO h;refine⟨o,g,b,rfl,by lia,?_⟩;rw[l];walk_at"";refine⟨_,if_pos ⟨rfl,i9⟩,?_⟩;rw[gc,an7];have:eF b (.str x)=decide (x∈C):=by
   rw[O2,cg,l,decide_eq_true_eq,K5];exact⟨λ⟨y,t,e⟩=>by cases e;exact t,λh=>⟨x,h,rfl⟩⟩
  rw[this]at k;exact k
 ·have:eF b w=false:=by
   rw[Z9];intro q;exact h (e7 i (cg.mp q))
  rw[this]at k;exact k
structure gB(o g:D) (es:List (D×D)):Prop where
 o1:ak o=true
 o2:ky o=true
 g1:ak g=true
 g2:aH g=true
 gd:∀p∈es,ak p.1=true/\ak p.2=true
 ok:fR es=true
theorem gB.le{o g:D}{a:List (D×D)}(h:gB o g a):a.length<=10:=(aV.mp h.ok).1.2
theorem wF{xs:List Str}{x:Str}(b:xs.length<=10)(h:x∈xs):∃j,lV (xs.map D.str) (.str x)=some j/\xs[j]?=some x:=by
 have a:bJ (xs.map D.str) 59=true:=c7 D.str λ_=>rfl;unfold lV;rw[if_pos ⟨rfl,a,by rw[E8];exact Nat.lt_of_le_of_lt b (by decide)⟩];clear a b
 induction xs with
 |nil=>cases h
 |cons k l ih =>
  rw[K0,List.findIdx?_cons]
  by_cases e:k=x
  ·subst e;exact⟨0,by simp[eqD],rfl⟩
  ·have i:x∈l:=by
    rcases J3.mp h with q|q
    ·exact absurd q.symm e
    ·exact q
   obtain⟨j,m,g⟩:=ih i;refine⟨j+1,?_,by rw[S1];exact g⟩;rw[show eqD (.str k) (.str x)=false by simp[eqD,e],m];rfl
theorem w6{d:D}(h:ak d=true):isX d=none:=by
 cases d with
 |box _ _=>simp[ak]at h
 |_=>rfl
def ji:SpD:=λe M R=>∃(o g:D) (a:List (D×D)) (w:D),e=[lxD o g a,w]/\ak w=true/\gB o g a/\(eF a w=true->∀d,isX d=none->R d M)/\(eF a w=false->∀b,M b=none->R (xA 0 (some b)) (aF M b (qQ "word" b w)))
theorem my(F:Fun K "kinds_of" "kinds_of" fw f G)(T:Txt B){z L W l:F4}(Y:rQ K B z L W l){b:K4}(J:aP P w K B base CX0 1 l b ["self","word"] (spF "word" z))(t:cE K b ["self","word"] [])(n:∃Z,K.lookup l=some Z/\Z.cls=N3 "function")(G7:FnD P w K B base "has_word" 2 2 ft)(G3:FnD P w K B base "words_of" 1 1 du):aP P w K B base (CX2 P w [z,L]) 3 f G ["lexicon","word"] (spY K 2 ji [z,L]):=by
 have nd:=iq.nd;refine F.okY rfl iq (λa1 A N s H E C=>⟨_,(fF (DK (cq (bN (qd G7 C (ae (af 0) (ae (af 1) ah))))) (gh (EA 0 rfl Y.p0 J t n (C.mono (by decide)) rfl rfl (af 1) λaa σ H s a x I q h1 h2 h3=>we (i:=0) I rfl q h1 h2 h3)) xm)
   (gh (uW (aZ (ay az (ay az (ay az (af 0) ag (λ_ _=>rfl)) (v6 C.units (qd G3 C (ae (af 0) ah)) (af 1)) (λ_ _=>rfl)) ag (λ_ _=>rfl)))))),λds M R hl hS=>?_⟩)
 obtain⟨o,g,u,w,rfl,hw,O,k1,k2⟩:=hS;walk_at"";refine⟨o,g,u,w,rfl,hw,O.ok,_,rfl,?_⟩;refine a7 (λh dd hd=>⟨_,λ_ _ e=>e,k2 (by simpa using h) dd hd⟩) (λh=>?_);have X:eF u w=true:=by simpa using h
 obtain⟨⟨_,a0⟩,ha,hn⟩:=aV.mp O.ok;obtain⟨xs,S⟩:=cv ha;have a2:xs.length=u.length:=by have:=congrArg X9 S;simpa using this.symm
 have m:=cg.mp X;rw[S]at m;obtain⟨x,Q,rfl⟩:=K5.mp m;obtain⟨j,ij,hj⟩:=wF (by lia) Q;obtain⟨p,U⟩:∃p,u[j]?=some p:=⟨_,E4 (by have:=(J4.mp hj).1;lia)⟩;simp only[lxD];walk_at"";refine⟨o,g,u,rfl,by lia,⟨_,rfl⟩,_,rfl,j,by rw[S];exact ij,?_⟩;refine⟨_,aI (by rw[F7,U];rfl),p.2,rfl,k1 X _ (w6 (O.gd p (K7 U)).2)⟩
def cJ:SpD:=λe M R=>∃(o g:D) (b:List (D×D)) (w:D),e=[lxD o g b,.tup [w]]/\ak w=true/\gB o g b/\(eF b w=true->R .non M)/\(eF b w=false->∀a,M a=none->R (xA 0 (some a)) (aF M a (qQ "word" a w)))
theorem eW(F:Fun K "refuse_other_words" "refuse_other_words" bG f G)(T:Txt B){b a W m:F4}(Y:rQ K B b a W m)(l:FnY P w K B base "kinds_of" 3 2 ji [b,a]):aP P w K B base (CX2 P w [b,a]) 4 f G ["lexicon","words"] (spY K 2 cJ [b,a]):=by
 have O:=cw.nd;refine F.okY rfl cw (λI A j s H E J=>⟨_,(gh (DP V2.leaving rfl (aQ (af 1)) (bv (i:=2) O rfl (N8 rfl)) (gh (wW l (J.mono (by decide)) rfl sJ (ae (af 0) (ae (af 2) ah)))))),λQ M R S p=>?_⟩);obtain⟨o,g,q,w,rfl,C,t,L,N⟩:=p;walk_at"";intro _;simp only[cB,fo];refine⟨_,rfl,?_⟩;walk_at"";exact⟨o,g,q,w,rfl,C,t,λh d z=>⟨λ_=>L h,λi x e=>(by rw[z]at e;cases e)⟩,λh u n=>⟨λe=>(by rw[dg]at e;cases e),λi x e=>(by rw[dg]at e;cases e;exact N h u n)⟩⟩
def b7:SpD:=λe M R=>∃(o g:D) (b a:List (D×D)) (x:D),e=[lxD o g b,x]/\(x=.tup (a.map eD)∨x=.lst (a.map eD))/\gB o g b/\(∀p∈a,ak p.1=true/\ak p.2=true)/\a.length<=11/\(fR a=true->R (lxD o g a) M)/\(fR a=false->R (xA 1 none) M)
theorem i6(F:Fun K "lexicon_with" "lexicon_with" cR f G)(T:Txt B){n l W m:F4}(Y:rQ K B n l W m)(O:FnD P w K B base "is_lexicon" 9 1 fY):aP P w K B base (CX2 P w [n,l]) 10 f G ["lexicon","entries"] (spY K 2 b7 [n,l]):=by
 have Z:=eE.nd;refine F.okY rfl eE (λN A j s H E S=>⟨_,(fF (uW (aE (i:=2) Z rfl (N8 rfl) (aL (ae (ay az (af 0) ag (λ_ _=>rfl)) (ae (ay az (af 0) ag (λ_ _=>rfl)) (ae (bh ck rfl T.b_tuple (by kernel_rfl) (ae (af 1) ah)) ah))))))
   (fF (DK (cq (bN (qd O S (ae (af 2) ah)))) (gh (Ep 1 rfl Y.p1 rfl rfl bp λaa σ H s a x I q Q L J=>we (i:=1) I rfl q Q L J)) xm)
   (gh (uW (aZ (af 2)))))),λds M R t z=>?_⟩)
 obtain⟨o,g,C,p,x,rfl,hx,b,hg,t,U,X⟩:=z;walk_at"";simp only[lxD];walk_at"";have u:yy (rdM M x)=some (.tup (p.map eD)):=by rcases hx with h|h<;>rw[h]<;>rfl
 refine⟨_,u,sz3 3,o,g,p,rfl,⟨b.o1,b.o2⟩,⟨b.g1,b.g2⟩,hg,t,_,rfl,?_⟩;exact a7 (λh=>⟨M,λ_ _ e=>e,X (by simpa using h)⟩) (λh=>U (by simpa using h))
open Classical in
def cL(a:List (D×D))(w k:D):List (D×D):=if eF a w=true then a.map (λp=>if p.1=w then(w,k)else p)else a++[(w,k)]
theorem oy{w k:D}:∀{a:List (D×D)}{j:Nat},(a.map (·.1)).Nodup->(a.map (·.1))[j]?=some w->a.set j (w,k)=a.map (λp=>open Classical in if p.1=w then(w,k)else p)
 |[],j,_,h=>by simp at h
 |p::a,0,b,h=>by
  simp only[K0,T4,V8,ac3]at b h;subst h;simp only[List.set_cons_zero,K0,if_true];congr 1;refine(List.map_id' a).symm.trans (W7 λq g=>?_);have:¬ q.1=p.1:=λe=>b.1 (by rw[<-e];exact K5.mpr ⟨q,g,rfl⟩);rw[if_neg this]
 |p::a,j+1,b,h=>by
  simp only[K0,T4,S1]at b h;simp only[List.set_cons_succ,K0];have:¬ p.1=w:=λe=>b.1 (by rw[e];exact K7 h);rw[oy b.2 h,if_neg this]
theorem xl{a:List (D×D)}{w k:D}:(cL a w k).length<=a.length+1:=by
 unfold cL
 split<;>simp
theorem uP{a:List (D×D)}{w k:D}(h:∀p∈a,ak p.1=true/\ak p.2=true)(g:ak w=true)(b:ak k=true):∀p∈cL a w k,ak p.1=true/\ak p.2=true:=by
 unfold cL
 split
 ·intro p i;obtain⟨q,j,rfl⟩:=K5.mp i
  by_cases e:q.1=w
  ·rw[if_pos e];exact⟨g,b⟩
  ·rw[if_neg e];exact h q j
 ·exact bI h ⟨g,b⟩
def kS:SpD:=λb M R=>∃(o g:D) (a:List (D×D)) (w k:D),b=[lxD o g a,w,k]/\ak w=true/\ak k=true/\gB o g a/\(fR (cL a w k)=true->R (lxD o g (cL a w k)) M)/\(fR (cL a w k)=false->R (xA 1 none) M)
theorem pU(F:Fun K "put_in" "put_in" iT f G)(T:Txt B){p m W u:F4}(Y:rQ K B p m W u)(G4:FnY P w K B base "lexicon_with" 10 2 b7 [p,m])(G7:FnD P w K B base "has_word" 2 2 ft)(U:FnD P w K B base "words_of" 1 1 du):aP P w K B base (CX2 P w [p,m]) 11 f G ["lexicon","word","kinds"] (spY K 3 kS [p,m]):=by
 have C:=ki.nd;refine F.okY rfl ki (λa0 A z s H E q=>⟨_,(fF (uW (aE (i:=3) C rfl (N8 rfl) (aL (ae (af 1) (ae (af 2) ah)))))
   (fF (uW (aE (i:=4) C rfl (N8 rfl) (ay az (af 0) ag (λ_ _=>rfl))))
   (fF (uW (aE (i:=5) C rfl (N8 rfl) (EZ (bN (qd G7 q (ae (af 0) (ae (af 1) ah)))) (v6 q.units (qd U q (ae (af 0) ah)) (af 1)) (au aT rfl T.b_len (by kernel_rfl) (ae (af 4) ah)))))
   (gh (wm G4 (q.mono (by decide)) rfl sJ (ae (af 0) (ae (aA bz (aA bz (aU (af 4) bF (a6 (af 5))) (aL (ae (af 3) ah))) (aU (af 4) (a6 (aA bz (af 5) ag)) bF)) ah))))))),λds M R hl S=>?_⟩)
 obtain⟨o,g,a,w,k,rfl,O,hk,h,k1,k2⟩:=S;simp only[lxD];walk_at"";have Q:=h.le;refine⟨sz3 2,o,g,a,w,rfl,O,h.ok,_,rfl,?_⟩;have l:∀L,L=(cL a w k).map eD->b7 [D.tup [o,g,D.tup (List.map eD a)],.tup L] M R:=λL e=>⟨o,g,a,cL a w k,.tup L,rfl,.inl (by rw[e]),h,uP h.gd O hk,O9 xl (by lia),k1,k2⟩;refine a7 (λn=>?_) (λn=>?_)
 ·obtain⟨_,Z,hn⟩:=aV.mp h.ok;obtain⟨xs,t⟩:=cv Z;have a1:xs.length=a.length:=by have:=congrArg X9 t;simpa using this.symm
  have b:=cg.mp n;rw[t]at b;obtain⟨x,I,rfl⟩:=K5.mp b;obtain⟨j,X,N⟩:=wF (by lia) I;have J:j<a.length:=by have:=(J4.mp N).1;lia
  refine⟨o,g,a,rfl,by lia,⟨_,rfl⟩,_,rfl,j,by rw[t];exact X,sz3 1,?_⟩;rw[show((j:Int)+1)=((j+1:Nat):Int)by lia,iP,gj];refine⟨_,if_pos (by simp;exact sz3 _ (by lia)),?_⟩;walk_at"";refine⟨_,if_pos (by simp;exact sz3 _ (by lia)),l _ ?_⟩;unfold cL;rw[if_pos n,<-oy (k:=k) (j:=j) hn (by rw[t,F7,N];rfl),List.map_set,List.set_eq_take_append_cons_drop,if_pos (by rw[E8];exact J)];simp[eD]
 ·refine⟨sz3 1,?_⟩;rw[show(((a.map eD).length:Int)+1)=(((a.map eD).length+1:Nat):Int)by lia,iP,gj];refine⟨_,if_pos (by simp;exact sz3 _ (by lia)),?_⟩;walk_at"";refine⟨_,if_pos (by simp;exact sz3 _ (by lia)),l _ ?_⟩;unfold cL;rw[if_neg n,S8 (F6 _),List.drop_of_length_le (by lia)];simp[eD]
open Classical in
def kj(a:List (D×D))(x:Str):List (D×D):=a.filter λp=>!decide (p.1=.str x)
def ir:SpD:=λe M R=>∃(o g:D) (a:List (D×D)) (x:Str),e=[lxD o g a,.str x]/\ak (.str x)=true/\gB o g a/\(eF a (.str x)=false->∀b,M b=none->R (xA 0 (some b)) (aF M b (qQ "word" b (.str x)))) /\
 (eF a (.str x)=true->(fR (kj a x)=true->R (lxD o g (kj a x)) M)/\(fR (kj a x)=false->R (xA 1 none) M))
theorem k7(F:Fun K "taken_out" "taken_out" cU f G)(T:Txt B){b a W n:F4}(Y:rQ K B b a W n)(S:FnY P w K B base "refuse_other_words" 4 2 cJ [b,a])(G4:FnY P w K B base "lexicon_with" 10 2 b7 [b,a]):aP P w K B base (CX2 P w [b,a]) 11 f G ["lexicon","word"] (spY K 2 ir [b,a]):=by
 have nd:=gb.nd;refine F.okY rfl gb (λa0 A t s H E u=>⟨_,(fF (wW S (u.mono (by decide)) rfl sJ (ae (af 0) (ae (aL (ae (af 1) ah)) ah)))
   (gh (wm G4 (u.mono (by decide)) rfl sJ (ae (af 0) (ae (ic (ms:=[false,true]) (ar:=["entry"]) (aD rfl (show aO (ai cU) eO _ _=true from by decide +kernel)) rfl (aQ (ay az (af 0) ag (λ_ _=>rfl))) (aJ (i:=2) (show(eO++_).Nodup from by decide +kernel) rfl rfl) (λ_ _ _ _=>(me (aK (nR u.units) (ay az (af 2) ag (λ_ _=>rfl)) (af 1) nbh))) (λ_ _ _ _=>(af 2))) ah))))),λds M R hl N=>?_⟩)
 obtain⟨o,g,l,x,rfl,Z,h,U,J⟩:=N;simp only[lxD];walk_at"";have L:=h.le;refine⟨sz3 1,o,g,l,.str x,rfl,Z,h,λj=>⟨λ_ Q=>⟨Q,?_⟩,λi y e=>(by cases e)⟩,λj X hd=>⟨λe=>(by rw[dg]at e;cases e),λi y e=>(by rw[dg]at e;cases e;exact U j X hd)⟩⟩;refine aY eD (λp=>open Classical in !decide (p.1=.str x)) eD (λI=>∃z,I=[none,some (.str x),z]) l _ _ (λp m I C=>?_) ⟨none,rfl⟩ ?_
 ·obtain⟨z,rfl⟩:=C;refine⟨_,rfl,⟨_,rfl⟩,λQ1 q=>?_,λ_ Q2 q=>?_⟩
  ·simp only[eD];walk_at"";obtain⟨y,O,_⟩:=cO (e7 (aV.mp h.ok).2.1 (K5.mpr ⟨p,m,rfl⟩));rw[O]at q ⊢;have e:neF (rdM M (.str y)) (.str x)=some (.bl (open Classical in !decide (D.str y=D.str x))):=by
    show neF (.str y) (.str x)=_;rw[rV];congr 2;rw[O2];simp
   exact⟨_,e,_,rfl,q⟩
  ·walk_at"";exact q
 rw[N0];exact⟨o,g,l,kj l x,_,rfl,.inr rfl,h,λp m=>h.gd p ((ab8.mp m).1),O9 (List.length_filter_le _ _) (by lia),(J j).1,(J j).2⟩
theorem lA{a b:TSd}{E:dH}{h:DE}{M:DH}(C:DE->DH->Prop)(i:∀nx,(∀ e g,C e g->nx e g)->a { E with nx:=nx } h M)(j:∀ e g,C e g->b E e g):yR a b E h M:=i _ j
theorem eI{b:Type}{l:List b}(h:0<l.length)(x:Int):∃v:Nat,v<l.length/\x % (l.length:Int)=(v:Int):=by
 have a:0<=x % (l.length:Int):=ai0 _ (by lia);have e:x % (l.length:Int)<(l.length:Int):=ad9 _ (by lia);exact⟨(x % (l.length:Int)).toNat,by lia,(ag9 a).symm⟩
def gO:SpD:=iE aH
theorem nO(F:Fun K "_law_is_word" "_law_is_word" eA f G)(T:Txt B):aP P w K B base CX0 1 f G ["_law_thing"] (spD K 1 gO):=by
 have I:=jy.nd;refine F.okR rfl jy (λt A h s H E C=>⟨_,(aj (bC (jw (fP (cq (bN (dD (Tn:="str") (by decide) rfl T.b_isinstance rfl T.b_str (by kernel_rfl) (af 0)))) (fS (cq (lS ib ib ag (au aT rfl T.b_len (by kernel_rfl) (ae (af 0) ah)) ag))))) (aq (aZ lB)) bg)
   (aq (aZ (au (k9 rfl) rfl T.b_all (by kernel_rfl) (ae (ic (ms:=[false]) (ar:=["_law_sign"]) (aD (n0:=0) rfl (show aO (ai eA) gz _ _=true from by decide +kernel)) rfl (aQ (af 0)) (aJ (i:=1) (show(gz++_).Nodup from by decide +kernel) rfl rfl) (λ_ _ _ _=>bR) (λ_ _ _ _=>(jf tQ (af 1) bp rfl))) ah))))),λu M R _ m bk=>?_⟩)
 obtain⟨d,rfl,a,k⟩:=m;refine bk ?_;clear bk;walk_at"";simp only[bj a];cases d with
 |str x =>
  have J:x.length<=1000000:=by simpa[ak]using a
  refine⟨true,rfl,?_⟩;rw[if_neg (by simp)];walk_at"";refine⟨_,if_pos (szB _ (by lia)),?_⟩;walk_at"";have p:x.length=x.cps.toList.length:=by show x.cps.size=_;simp
  refine a7 (λo=>a7 (λb=>?_) (λb=>?_)) (λo=>?_)
  ·have b:¬ x.length<=8:=by
    have:¬ (x.length:Int)<=8:=by simpa using b
    lia
   have g:aH (.str x)=false:=by simp only[aH,aC,decide_eq_false b,R8,K2]
   rw[g]at k;exact k
  ·have b:x.length<=8:=by
    have:(x.length:Int)<=8:=by simpa using b
    lia
   refine⟨_,if_pos (szB _ (by lia)),λn=>⟨n,?_⟩⟩;refine dQ (λ_=>true) (λd=>match d with|.str y=>.bl (y.cps.toList.all λc=>decide (c∈cH))|_=>.non) (λl=>∃x,l=[none,x]) _ _ _ (λd a l j=>?_) ⟨none,rfl⟩ ?_
   ·obtain⟨L,rfl⟩:=j;obtain⟨c,_,rfl⟩:=K5.mp (show d∈x.cps.toList.map λc=>D.str (tx [c])from a);refine⟨_,rfl,⟨_,rfl⟩,λN q=>q,λ_ z q=>?_⟩;walk_at"";simp only[v7,ac3,exists_eq_left',an7];rw[show(J5 "abcdefghijklmnopqrstuvwxyz").cps.toList=cH from oS];simpa[fq]using q
   ·rw[N0,O8.mpr (λ_ _=>rfl)];have e:(L2.dM x).map (λd=>match d with|.str y=>D.bl (y.cps.toList.all λc=>decide (c∈cH))|_=>.non)=(x.cps.toList.map λc=>decide (c∈cH)).map D.bl:=by
     unfold L2.dM;rw[Q9,Q9];apply W7;intro c _;simp
    rw[e];refine⟨_,dI,?_⟩;have g:(x.cps.toList.map λc=>decide (c∈cH)).all id=aC x:=by
     unfold aC;rw[S6,decide_eq_true (by lia:1<=x.length),decide_eq_true b];rfl
    rw[g];exact k
  ·have g:aH (.str x)=false:=by simp only[aH,aC,decide_eq_false (by lia:¬ 1<=x.length),K2]
   rw[g]at k;rw[if_pos (show(!false)=true from rfl)];exact k
 |scr _=>simp[ak]at a
 |ref _=>simp[ak]at a
 |box _ _=>simp[ak]at a
 |_=>exact⟨false,rfl,by rw[if_pos (show(!false)=true from rfl)];exact k⟩
def j4:SpD:=iE cS
theorem oP(F:Fun K "_law_is_kind" "_law_is_kind" gq f G)(T:Txt B)(G8:FnD P w K B base "_law_is_word" 1 1 gO):aP P w K B base CX0 2 f G ["_law_thing"] (spD K 1 j4):=by
 have nd:=iZ.nd;refine F.okR rfl iZ (λa0 A I s H E Q=>⟨_,(aj (bC (jw (fP (cq (bN (dD (Tn:="tuple") (by decide) rfl T.b_isinstance rfl T.b_tuple (by kernel_rfl) (af 0)))) (fS (aK Bz (au aT rfl T.b_len (by kernel_rfl) (ae (af 0) ah)) ag nbh)))) (aq (aZ lB)) bg)
   (aj (fQ R7 rfl (aQ (af 0)) (bv (i:=1) nd rfl (N8 rfl)) (aj (bC (jw (fP (cq (bN (dD (Tn:="tuple") (by decide) rfl T.b_isinstance rfl T.b_tuple (by kernel_rfl) (af 1)))) (fP (aK (nR Q.units) (au aT rfl T.b_len (by kernel_rfl) (ae (af 1) ah)) ag nbh) (fS (cq (bN (qd G8 Q (ae (ay az (af 1) ag (λ_ _=>rfl)) ah)))))))) (aq (aZ lB)) bg)
   (aq (bC (jw (fP (cq (bN (dD (Tn:="int") (by decide) rfl T.b_isinstance rfl T.b_int (by kernel_rfl) (ay az (af 1) ag (λ_ _=>rfl))))) (fP (bN (dD (Tn:="bool") (by decide) rfl T.b_isinstance rfl T.b_bool (by kernel_rfl) (ay az (af 1) ag (λ_ _=>rfl)))) (fS (cq (lS ib ib (aA kc ag ag) (ay az (af 1) ag (λ_ _=>rfl)) ag)))))) (aq (aZ lB)) bg))))
   (aq (aZ lB)))),λl M R _ U bk=>?_⟩)
 obtain⟨d,rfl,q,k⟩:=U;refine bk ?_;clear bk;walk_at"";simp only[bj q];cases d with
 |tup l =>
  refine⟨true,rfl,?_⟩;rw[if_neg (by simp)];walk_at"";have J:∀d∈l,ak d=true:=bw.mp (by simpa[ak]using q);have S:cS (.tup l)=(l.all bX&&decide (l.length<=5)):=rfl;refine a7 (λp=>?_) (λp hz=>?_)
  ·rw[S,decide_eq_false (by lia:¬ l.length<=5),R8]at k;exact k
  rw[S,decide_eq_true (by lia:l.length<=5),ai2]at k;refine br (λi C n=>∃x,C=[some (D.tup l),x]/\n=M/\(l.take i).all bX=true) ⟨none,rfl,rfl,rfl⟩ ?_ ?_
  ·rintro i d C n X o ⟨x,rfl,rfl,j⟩ Z;have u:=K7 o;have g:=J d u;have next:bX d=true->X [some (D.tup l),some d] n:=λh=>Z _ _ ⟨_,rfl,rfl,by rw[W8,o,List.all_append,j];simpa using h⟩;have stop:bX d=false->R (.bl false) n:=λh=>by
    have:l.all bX=false:=by
     rw[Z9];intro z;rw[J7.mp z d u]at h;cases h
    rw[this]at k;exact k
   refine⟨_,rfl,?_⟩;walk_at"";simp only[bj g];cases d with
   |tup N =>
    refine⟨true,rfl,?_⟩;rw[if_neg (by simp)];walk_at""
    by_cases L:N.length=2
    ·match N,L,g,next,stop with
     |[a,b],_,g,next,stop =>
      have m:ak a=true/\ak b=true:=by simpa[ak,bO]using g
      walk_at"";rw[if_neg (by decide)];refine bM.mpr ⟨m.1,_,rfl,a7 (λh=>stop ?_) (λh=>?_)⟩
      ·simp only[bX,show aH a=false by simpa using h,K2]
      have Y:aH a=true:=by simpa using h
      simp only[bj m.2];have es:bX (.tup [a,b])=iW b:=by simp only[bX,Y,O3]
      rw[es]at next stop;cases b with
      |int t =>
       refine⟨true,rfl,?_⟩;rw[if_neg (by simp)];refine⟨false,rfl,?_⟩;rw[if_neg (by simp)];walk_at"";refine a7 (λp=>a7 (λO=>stop ?_) (λO=>next ?_)) (λp=>?_)
       ·have:¬ t<=99:=by simpa using O
        simp only[iW,decide_eq_false this,R8]
       ·have:t<=99:=by simpa using O
        simp only[iW,decide_eq_true this,decide_eq_true p,ai2]
       ·rw[if_pos (show(!false)=true from rfl)];exact stop (by simp only[iW,decide_eq_false p,K2])
      |bl v =>
       refine⟨true,rfl,?_⟩;rw[if_neg (by simp)];refine⟨true,rfl,?_⟩;rw[if_pos rfl];exact stop rfl
      |scr _=>simp[ak]at m
      |ref _=>simp[ak]at m
      |box _ _=>simp[ak]at m
      |_=>exact⟨false,rfl,by rw[if_pos (show(!false)=true from rfl)];exact stop rfl⟩
    ·rw[if_pos (by simpa using λe:(N.length:Int)=2=>L (by lia))];exact stop (mU L)
   |scr _=>simp[ak]at g
   |ref _=>simp[ak]at g
   |box _ _=>simp[ak]at g
   |_=>exact⟨false,rfl,by rw[if_pos (show(!false)=true from rfl)];exact stop rfl⟩
  ·rintro C n ⟨x,rfl,rfl,j⟩;rw[ag5]at j;walk_at"";rw[j]at k;exact k
 |scr _=>simp[ak]at q
 |ref _=>simp[ak]at q
 |box _ _=>simp[ak]at q
 |_=>exact⟨false,rfl,by rw[if_pos (show(!false)=true from rfl)];exact k⟩
def iD:SpD:=iE ie
theorem kR(F:Fun K "_law_are_kinds" "_law_are_kinds" cV f G)(T:Txt B)(m:FnD P w K B base "_law_is_kind" 2 1 j4):aP P w K B base CX0 3 f G ["_law_thing"] (spD K 1 iD):=by
 have Q:=gL.nd;refine F.okR rfl gL (λL A o s H E p=>⟨_,(aj (bC (jw (fP (cq (bN (dD (Tn:="tuple") (by decide) rfl T.b_isinstance rfl T.b_tuple (by kernel_rfl) (af 0)))) (fP (cq (lS ib ib ag (au aT rfl T.b_len (by kernel_rfl) (ae (af 0) ah)) ag)) (fS (cq (bN (au (k9 rfl) rfl T.b_all (by kernel_rfl) (ae (ic (ms:=[false]) (ar:=["_law_kind"]) (aD (n0:=0) rfl (show aO (ai cV) eN _ _=true from by decide +kernel)) rfl (aQ (af 0)) (aJ (i:=1) (show(eN++_).Nodup from by decide +kernel) rfl rfl) (λ_ _ _ _=>bR) (λ_ _ _ _=>(qd m p (ae (af 1) ah)))) ah)))))))) (aq (aZ lB)) bg)
   (aq (aZ (jf (gJ p.units) (Df rfl p.units rfl T.b_len rfl T.b_set (af 0)) (au aT rfl T.b_len (by kernel_rfl) (ae (af 0) ah)) nbh)))),λN M R _ u bk=>?_⟩)
 obtain⟨d,rfl,g,k⟩:=u;refine bk ?_;clear bk;walk_at"";simp only[bj g];cases d with
 |tup a =>
  refine⟨true,rfl,?_⟩;rw[if_neg (by simp)];walk_at"";have t:∀d∈a,ak d=true:=bw.mp (by simpa[ak]using g);have e:ie (.tup a)=(decide (1<=a.length)&&decide (a.length<=4)&&a.all cS&&ju a):=rfl;refine a7 (λC=>a7 (λb=>?_) (λb z=>⟨z,?_⟩)) (λC=>?_)
  ·have b:¬ a.length<=4:=by
    have:¬ (a.length:Int)<=4:=by simpa using b
    lia
   rw[e,decide_eq_false b,R8,K2,K2]at k;exact k
  ·have b:a.length<=4:=by
    have:(a.length:Int)<=4:=by simpa using b
    lia
   refine n9 (f:=cS) (Δ0:=[none]) (n:=1) (λd j x O q=>?_) ?_
   ·walk_at"";exact bM.mpr ⟨t d j,q⟩
   ·refine⟨_,dI,_,rfl,?_⟩;have J:(a.map cS).all id=a.all cS:=by rw[S6];rfl
    rw[J];rw[e,decide_eq_true (by lia:1<=a.length),decide_eq_true b,O3,O3]at k;refine a7 (λh=>?_) (λh=>.inl ?_)
    ·rw[show a.all cS=false by simpa using h,K2]at k;exact k
    ·have h:a.all cS=true:=by
      cases I:a.all cS with
      |true=>rfl
      |false=>rw[I]at h;exact absurd rfl h
     rw[h,O3]at k;obtain⟨rs,rfl,l⟩:=oF h;refine⟨rs,rfl,l,by rw[E8]at b;lia,?_⟩;rw[E8,sI,<-fV (λ_ _ h=>pT h)];exact k
  ·rw[e,decide_eq_false (by lia:¬ 1<=a.length),K2,K2,K2]at k;rw[if_pos (show(!false)=true from rfl)];exact k
 |scr _=>simp[ak]at g
 |ref _=>simp[ak]at g
 |box _ _=>simp[ak]at g
 |_=>exact⟨false,rfl,by rw[if_pos (show(!false)=true from rfl)];exact k⟩
def k6(o g:D)(a:List (D×D))(w k:D):D:=if fR (cL a w k)then lxD o g (cL a w k)else .str "lexicon"
def mB(o g:D)(a:List (D×D))(x:Str):D:=if eF a (.str x)then(if fR (kj a x)then lxD o g (kj a x)else .str "lexicon")else .tup [.str "word",.str x]
def wj(w:D):Prop:=w=.emp∨(dLe w 59=true/\dLe w 60=true)
open Classical in
theorem CL{y:Str}{w:D}(h:wj w):eqE (.str y) w=some (.bl (decide (D.str y=w))):=by
 rcases h with rfl|⟨_,h⟩
 ·rw[D1];simp
 ·rw[Dq h];unfold eqF;rw[if_pos ⟨rfl,h⟩];congr 2;cases w<;>simp only[eqD,D.str.injEq,reduceCtorEq,decide_false]
  rfl
theorem tJ{g:List (D×D)}{xs:List Str}{w:D}(b:g.map (·.1)=xs.map D.str)(h:wj w):lO w (.lst (g.map (·.1)))=some (.bl (not (eF g w))):=by
 rcases h with rfl|⟨h,_⟩
 ·have:eF g .emp=false:=by
   rw[Z9];intro z;have:=cg.mp z;rw[b]at this;obtain⟨x,_,e⟩:=K5.mp this;cases e
  rw[b,wt,this];rfl
 ·rw[vj h,wA,if_pos ⟨h,by rw[b];exact c7 D.str λ_=>rfl⟩];congr 3;rw[O2,cg,Z0];constructor
  ·rintro⟨d,j,e⟩;have a:=j;rw[b]at a;obtain⟨x,_,rfl⟩:=K5.mp a;have:w=.str x:=by cases w<;>simp[eqD]at e ⊢;exact e.symm
   rw[this];exact j
  ·intro i;refine⟨w,i,?_⟩;rw[b]at i;obtain⟨x,_,rfl⟩:=K5.mp i;simp[eqD]
theorem yN{a:List (D×D)}{w k:D}:(a.map (λp=>open Classical in if p.1=w then(w,k)else p)).map (·.1)=a.map (·.1):=by
 rw[Q9];refine W7 λp _=>?_;simp only[Function.comp]
 split
 ·rename_i h;exact h.symm
 ·rfl
theorem sM{j:List (D×D)}{w k:D}(he:fR j=true):fR (cL j w k)=(decide ((cL j w k).length<=10)&&aH w&&ie k):=by
 obtain⟨⟨o,s⟩,m,n⟩:=aV.mp he;have g:=J7.mp m;rw[O2,aV,F8,F8,decide_eq_true_eq];constructor
 ·rintro⟨⟨_,a⟩,b,_⟩;have i:(w,k)∈cL j w k:=by
   unfold cL
   split
   ·rename_i i;obtain⟨p,l,e⟩:=K5.mp (cg.mp i);exact K5.mpr ⟨p,l,if_pos e⟩
   ·simp
  have:=J7.mp b _ i;simp only[enB,F8]at this;exact⟨⟨a,this.1⟩,this.2⟩
 ·rintro⟨⟨a,b⟩,c⟩;have h:enB (w,k)=true:=by simp only[enB,b,c,af6]
  refine⟨⟨?_,a⟩,?_,?_⟩
  ·unfold cL;split
   ·rw[E8];exact o
   ·rw[F2];lia
  ·rw[J7];unfold cL
   split
   ·intro p l;obtain⟨q,u,rfl⟩:=K5.mp l
    split
    ·exact h
    ·exact g q u
   ·exact bI g h
  ·unfold cL;split
   ·rw[yN];exact n
   ·rename_i i;rw[L7,V1];refine⟨n,by simp,λa m b t=>?_⟩;obtain rfl:b=w:=by simpa using t
    rintro rfl;exact i (cg.mpr m)
theorem AK{n:Nat}(h:0<n):ixN n (-1)=some (n-1):=by
 unfold ixN;rw[if_neg (by lia),if_pos (by lia)];congr 1
 lia
def tH:SpD:=λb M R=>∃(o g:D) (a:List (D×D)) (w k:D),b=[lxD o g a,w,k]/\ak w=true/\ak k=true/\wj w/\gB o g a/\R (k6 o g a w k) M
theorem vb(F:Fun K "_law_due" "_law_due" kG f G)(T:Txt B)(G8:FnD P w K B base "_law_is_word" 1 1 gO)(Y6:FnD P w K B base "_law_are_kinds" 3 1 iD):aP P w K B base CX0 4 f G ["_law_lexicon","_law_word","_law_kinds_here"] (spD K 3 tH):=by
 have nd:=qM.nd;refine F.okR rfl qM (λa9 A a0 s H E U=>⟨_,(aj (aE (i:=3) nd rfl (N8 rfl) (eJ ah))
   (aj (fQ R7 rfl (aQ (ay az (af 0) ag (λ_ _=>rfl))) (pI rfl (eG (bv (i:=4) nd rfl (N8 rfl)) (eG (bv (i:=5) nd rfl (N8 rfl)) qz))) (aj (cQ (fO (af 3) (aL (ae (af 4) (ae (af 5) ah)))))
   (aq (bC (aK (CI U.units) (af 4) (af 1) nbh) (aq (wo (af 3) (Bg Bj ag) (aL (ae (af 1) (ae (af 2) ah))))) bg))))
   (aB (aj (bC (aK (xu U.units) (af 1) (ic (ms:=[false,false,false,false,false,false]) (ar:=[]) (aD (n0:=0) rfl (show aO (ai kG) kL _ _=true from by decide +kernel)) rfl (aQ (ay az (af 0) ag (λ_ _=>rfl))) (jT (n:=2) rfl (cn (aJ (i:=4) (show(kL++_).Nodup from by decide +kernel) rfl rfl) (cn (aJ (i:=5) (show(kL++_).Nodup from by decide +kernel) rfl rfl) jU))) (λ_ _ _ _=>bR) (λ_ _ _ _=>(af 4))) rfl) (aq (cQ (fO (af 3) (aL (ae (af 1) (ae (af 2) ah)))))) bg)
   (aB (aj (bC (jw (fP (aK Bz (au aT rfl T.b_len (by kernel_rfl) (ae (af 3) ah)) ag nbh) (fP (cq (bN (qd G8 U (ae (af 1) ah)))) (fS (cq (bN (qd Y6 U (ae (af 2) ah)))))))) (aq (gI bp)) bg)
   (aq (gI (aL (ae (ay az (af 0) ag (λ_ _=>rfl)) (ae (ay az (af 0) ag (λ_ _=>rfl)) (ae (bh ck rfl T.b_tuple (by kernel_rfl) (ae (af 3) ah)) ah)))))))))))),λds M R _ hS bk=>?_⟩)
 obtain⟨o,g,a,w,k,rfl,hw,hk,I,C,m⟩:=hS;refine bk ?_;clear bk;simp only[lxD];walk_at"";have a5:=C.le;obtain⟨_,ha,hn⟩:=aV.mp C.ok;obtain⟨xs,hx⟩:=cv ha;refine⟨sz3 0,λp hp hz=>?_⟩;refine br (λi l Z=>∃O Y,l=[some (D.tup [o,g,D.tup (List.map eD a)]),some w,some k,some (D.ref p),O,Y]/\Z=aF M p (.lst (((a.take i).map λq=>open Classical in if q.1=w then(w,k)else q).map eD))) ⟨none,none,rfl,rfl⟩ ?_ ?_
 ·rintro i d l Z X hd ⟨O,Y,rfl,rfl⟩ k';obtain⟨q,u,rfl⟩:=fD hd;have J:=K7 u;refine⟨_,rfl,?_⟩;simp only[eD];walk_at"";have a1:aH q.1=true:=e7 ha (K5.mpr ⟨q,J,rfl⟩);obtain⟨y,Q,_⟩:=cO a1;have a8:i<a.length:=(J4.mp u).1;have N:a.take (i+1)=a.take i++[q]:=by rw[W8,u];rfl
  refine⟨sz3 2,by rw[E8,E8,O7];exact H0 (by lia:_<1000) (sz3 1000),?_⟩;rw[bj (C.gd q J).1,bj hw,Q];refine⟨_,CL I,_,rfl,a7 (λh=>⟨sz3 2,_,AK (by simp),?_⟩) (λh=>?_)⟩
  ·have e:q.1=w:=by rw[Q];simpa using h
   refine k' _ _ ⟨_,_,rfl,?_⟩;congr 2;rw[N,L7,L7,K0,K0,ah1,ah1,if_pos e];simp[eD]
  ·have e:¬ q.1=w:=by rw[Q];simpa using h
   refine k' _ _ ⟨_,_,rfl,?_⟩;congr 2;rw[N,L7,L7,K0,K0,ah1,ah1,if_neg e,<-Q];rfl
 ·rintro l Z ⟨O,Y,rfl,rfl⟩;rw[E8,S8 (F6 _)];refine am (lA (λt M2=>t=[some (D.tup [o,g,D.tup (List.map eD a)]),some w,some k,some (D.ref p),O,Y]/\M2 p=some (.lst ((cL a w k).map eD))/\LeM M M2) (λnx L=>?_) ?_)
  ·walk_at"";refine λa2=>⟨a2,?_⟩;refine aY eD (λ_=>true) (λp=>p.1) (λl=>∃y z,l=[none,none,none,none,y,z]) a _ _ (λp hp l a3=>?_) ⟨none,none,rfl⟩ ?_
   ·obtain⟨y,z,rfl⟩:=a3;refine⟨_,rfl,⟨_,_,rfl⟩,λQ1 q=>q,λ_ Q2 q=>?_⟩;walk_at"";exact q
   rw[N0,O8.mpr (λ_ _=>rfl),bj hw];refine⟨_,tJ hx I,_,rfl,a7 (λh=>?_) (λh=>?_)⟩
   ·have S:¬ eF a w=true:=by simpa using h
    walk_at"";refine⟨sz3 2,by rw[E8,E8];exact H0 (by lia:_<1000) (sz3 1000),L _ _ ⟨rfl,?_,fb hp⟩⟩;rw[bb];unfold cL;rw[if_neg S,L7];congr 2;have:a.map (λq=>open Classical in if q.1=w then(w,k)else q)=a:=by
     conv=>rhs;rw[<-List.map_id a]
     refine W7 λq u=>?_;exact if_neg λe=>S (cg.mpr (K5.mpr ⟨q,u,e⟩))
    rw[this];rfl
   ·have S:eF a w=true:=by simpa using h
    refine L _ _ ⟨rfl,?_,fb hp⟩;rw[bb];unfold cL;rw[if_pos S]
  rintro t M2 ⟨rfl,a4,b⟩;have e1:rdM M2 (D.ref p)=.lst ((cL a w k).map eD):=kE a4;refine am ?_;walk_at"";rw[e1];have no:(decide ((cL a w k).length<=10)&&aH w&&ie k)=false->∃j,LeM j M2/\R (.str "lexicon") j:=λh=>by
   refine⟨M,b,?_⟩;unfold k6 at m;rw[sM C.ok,h]at m;exact m
  refine⟨_,rfl,_,rfl,_,rfl,a7 (λh=>?_) (λh=>bM.mpr ⟨hw,_,rfl,a7 (λh2=>?_) (λh2=>bM.mpr ⟨hk,_,rfl,a7 (λh3=>?_) (λh3=>?_)⟩)⟩)⟩
  ·rw[E8]at h;exact no (by
    have:(10:Int)<((cL a w k).length:Int):=by simpa using h
    rw[decide_eq_false (by lia)];rfl)
  ·exact no (by rw[show aH w=false by simpa using h2,R8];rfl)
  ·exact no (by rw[show ie k=false by simpa using h3,R8])
  ·refine⟨_,by rw[e1];rfl,sz3 3,M,b,?_⟩;rw[E8]at h;unfold k6 at m;rw[sM C.ok,decide_eq_true (show(cL a w k).length<=10 by
    have:((cL a w k).length:Int)<=10:=by simpa using h
    lia),show aH w=true by simpa using h2,show ie k=true by simpa using h3]at m
   exact m
def so:SpD:=λb M R=>∃(o g:D) (a:List (D×D)) (x:Str),b=[lxD o g a,.str x]/\ak (.str x)=true/\gB o g a/\R (mB o g a x) M
theorem xi(F:Fun K "_law_out" "_law_out" jo f G)(T:Txt B):aP P w K B base CX0 1 f G ["_law_lexicon","_law_word"] (spD K 2 so):=by
 have nd:=p6.nd;refine F.okR rfl p6 (λa0 A U s H E X=>⟨_,(aj (bC (aK (qp X.units) (af 1) (ic (ms:=[false,false]) (ar:=["_law_other","_law_old"]) (aD rfl (show aO (ai jo) g5 _ _=true from by decide +kernel)) rfl (aQ (ay az (af 0) ag (λ_ _=>rfl))) (jT (n:=2) rfl (cn (aJ (i:=2) (show(g5++_).Nodup from by decide +kernel) rfl rfl) (cn (aJ (i:=3) (show(g5++_).Nodup from by decide +kernel) rfl rfl) jU))) (λ_ _ _ _=>bR) (λ_ _ _ _=>(af 2))) rfl) (aq (aZ (aL (ae bp (ae (af 1) ah))))) bg)
   (aj (bC (aK (gJ X.units) (au aT rfl T.b_len (by kernel_rfl) (ae (ay az (af 0) ag (λ_ _=>rfl)) ah)) ag nbh) (aq (aZ bp)) bg)
   (aq (aZ (aL (ae (ay az (af 0) ag (λ_ _=>rfl)) (ae (ay az (af 0) ag (λ_ _=>rfl)) (ae (bh ck rfl T.b_tuple (by kernel_rfl) (ae (ic (ms:=[false,true]) (ar:=["_law_entry"]) (aD rfl (show aO (ai jo) g5 _ _=true from by decide +kernel)) rfl (aQ (ay az (af 0) ag (λ_ _=>rfl))) (aJ (i:=2) (show(g5++_).Nodup from by decide +kernel) rfl rfl) (λ_ _ _ _=>(me (aK (nR X.units) (ay az (af 2) ag (λ_ _=>rfl)) (af 1) nbh))) (λ_ _ _ _=>(af 2))) ah)) ah)))))))),λds M R _ hS bk=>?_⟩)
 obtain⟨o,g,j,x,rfl,hx,Y,t⟩:=hS;refine bk ?_;clear bk;simp only[lxD];walk_at"";have N:=Y.le;obtain⟨_,Q,C⟩:=aV.mp Y.ok;obtain⟨xs,hx⟩:=cv Q;refine λO=>⟨O,?_⟩;refine aY eD (λ_=>true) (λp=>p.1) (λJ=>∃y z,J=[none,none,y,z]) j _ _ (λp l J u=>?_) ⟨none,none,rfl⟩ ?_
 ·obtain⟨y,z,rfl⟩:=u;refine⟨_,rfl,⟨_,_,rfl⟩,λQ1 q=>q,λ_ Q2 q=>?_⟩;walk_at"";exact q
 rw[N0,O8.mpr (λ_ _=>rfl)];have en:iK (.str x) (.lst (j.map (·.1)))=some (.bl (not (eF j (.str x)))):=tJ (w:=.str x) hx (.inr ⟨rfl,rfl⟩);unfold mB at t;refine⟨_,en,_,rfl,a7 (λh=>⟨sz3 2,?_⟩) (λh=>?_)⟩
 ·rw[show eF j (.str x)=false by simpa using h]at t;exact t
 have Z:eF j (.str x)=true:=by simpa using h
 rw[if_pos Z]at t;have I:∀p∈kj j x,p∈j:=λp l=>(ab8.mp l).1;have m:fR (kj j x)=decide (1<=(kj j x).length):=by
  rw[O2,aV,decide_eq_true_eq];refine⟨λz=>z.1.1,λz=>⟨⟨z,O9 (List.length_filter_le _ _) N⟩,?_,?_⟩⟩
  ·rw[J7];exact λp l=>J7.mp Q p (I p l)
  ·exact C.sublist ((List.filter_sublist).map _)
 refine a7 (λS=>?_) (λS O=>⟨O,?_⟩)
 ·have:kj j x=[]:=by
   have L:j.length=1:=by
    have:((j.map eD).length:Int)=1:=by simpa using S
    rw[E8]at this;lia
   obtain⟨p,rfl⟩:=List.length_eq_one_iff.mp L;have:=cg.mp Z;simp only[K0,ah1,L6]at this;simp[kj,this]
  rw[m,this]at t;exact t
 ·refine aY eD (λp=>open Classical in !decide (p.1=.str x)) eD (λJ=>∃z,J=[none,some (.str x),z]) j _ _ (λp l J u=>?_) ⟨none,rfl⟩ ?_
  ·obtain⟨z,rfl⟩:=u;refine⟨_,rfl,⟨_,rfl⟩,λQ1 q=>?_,λ_ Q2 q=>?_⟩
   ·simp only[eD];walk_at"";obtain⟨y,hy,_⟩:=cO (e7 Q (K5.mpr ⟨p,l,rfl⟩));rw[hy]at q ⊢;have e:neF (rdM M (.str y)) (.str x)=some (.bl (open Classical in !decide (D.str y=D.str x))):=by
     show neF (.str y) (.str x)=_;rw[rV];congr 2;rw[O2];simp
    exact⟨_,e,_,rfl,q⟩
   ·walk_at"";exact q
  rw[N0];refine⟨sz3 3,?_⟩;have:1<=(kj j x).length:=by
   have L:j.length≠1:=λe=>S (by simp[e]);have h0:=(aV.mp Y.ok).1.1;rw[Nat.one_le_iff_ne_zero];intro e;have e0:=List.length_eq_zero_iff.mp e;have all:∀p∈j,p.1=.str x:=λp l=>by
    have:=List.filter_eq_nil_iff.mp e0 p l;simpa using this
   match j,h0,L,C,all with
   |[_],_,L,_,_=>exact L rfl
   |a::b::r,_,_,C,all =>
    rw[K0,K0,T4]at C;exact C.1 (by rw[all a (by simp),all b (by simp)];simp)
  rw[m,decide_eq_true this]at t;exact t
theorem Bw{b:List Nat}{c:Nat}:((b.map λc=>D.str (tx [c])).any λd=>eqD d (.str (tx [c])))=decide (c∈b):=by
 rw[O2,List.any_map,Z0,decide_eq_true_eq];constructor
 ·rintro⟨e,g,h⟩;have:tx [e]=tx [c]:=by simpa[eqD]using h
  have a:=congrArg (λz:Str=>z.cps.toList) this;simp only[fq]at a;obtain rfl:e=c:=by simpa using a
  exact g
 ·intro h;exact⟨c,h,by simp[eqD]⟩
theorem vE{a:List Nat}(h:a.length<26):0<(cH.filter λc=>!decide (c∈a)).length:=by
 rw[List.length_pos_iff];intro e;have g:cH.length<=a.length:=hU cH a (by decide) λc b=>by
  rw[List.filter_eq_nil_iff]at e;simpa using e c b
 have:cH.length=26:=by decide
 lia
def jW(n:Nat)(a xs:List Int):Prop:=xs.length=n/\∀(i:Nat) (x s:Int),xs[i]?=some x->a[i]?=some s->0<=x/\x<s
theorem jW.snoc{n:Nat}{e xs:List Int}{x s:Int}(h:jW n e xs)(hs:e[n]?=some s)(h0:0<=x)(j:x<s):jW (n+1) e (xs++[x]):=by
 refine⟨by rw[F2,h.1];rfl,λi y t a b=>?_⟩
 by_cases m:i<xs.length
 ·rw[Q6 m]at a;exact h.2 i y t a b
 ·have g:i<(xs++[x]).length:=(J4.mp a).1;have l:=h.1;rw[F2]at g;simp at g;obtain rfl:i=n:=by lia
  rw[U1 (by lia),l,an5]at a;rw[hs]at b;cases b;cases a;exact⟨h0,j⟩
def xR(a xs:List Int):Prop:=jW a.length a xs
def nK(n:Nat)(xs:List Int):Prop:=xs.length=n/\∀x∈xs,0<=x/\x<720720
theorem va{n:Nat}{xs:List Int}(h:xR (F5 n 720720) xs):nK n xs:=by
 have a:=h.1;rw[aa6]at a;refine⟨a,λx b=>?_⟩;obtain⟨i,e,rfl⟩:=S7.mp b;exact h.2 i _ 720720 (E4 e) (by rw[Z4,if_pos (by lia)])
theorem uM{a b:Prop}[Decidable a][Decidable b]{P Q:Prop}(e:P)(g:Q):if a then P else if b then P else Q:=by
 split
 ·exact e
 ·split
  ·exact e
  ·exact g
def jY:SpD:=λe M R=>∃(c:Int) (a:List Int),e=[.int c,.lst (a.map D.int)]/\a.length<=500/\(∀s∈a,0<s/\s<1073741824)/\∀b,xR a b->R (.lst (b.map D.int)) M
theorem rj(F:Fun K "_law_parts" "_law_parts" jX f G)(T:Txt B):aP P w K B base CX0 1 f G ["_law_cell","_law_sizes"] (spD K 2 jY):=by
 have n:=lu.nd;refine F.okR rfl lu (λY A z s H E hr=>⟨_,(aj (aE (i:=2) n rfl (N8 rfl) (eJ ah))
   (aB (aj (bC (jw (fP (aK yB (af 0) ag nbh) (fS (aK ET (af 0) (aA C9 ag ag) nbh)))) (aB (aj (fQ R7 rfl (aQ (af 1)) (bv (i:=3) n rfl (N8 rfl)) (aj (cQ (fO (af 2) (aA bc (af 0) (af 3))))
   (aq (aE (i:=0) n rfl (N8 rfl) (aA eM (af 0) (af 3))))))
   (aB (aq (oi (af 2)))))) bg)
   (aB (aj (aE (i:=4) n rfl (N8 rfl) (aA bz (aA bc (af 0) ag) ag))
   (aB (aj (fQ R7 rfl (aQ (af 1)) (bv (i:=3) n rfl (N8 rfl)) (aj (aE (i:=4) n rfl (N8 rfl) (aA bc (aA bz (aA bY (af 4) ag) ag) ag))
   (aq (cQ (fO (af 2) (aA bc (aA eM (aA bc (aA bY (af 4) ag) ag) ag) (af 3)))))))
   (aB (aq (oi (af 2))))))))))),λZ M R _ N bk=>?_⟩)
 obtain⟨c,q,rfl,hn,L,k⟩:=N;refine bk ?_;clear bk;walk_at"";refine⟨sz3 0,λp I=>am ?_⟩;walk_at"";refine uM (am ?_) (am ?_)
 ·walk_at"";intro O;refine br (λi j g=>∃(t:Int) (a:List Int) (e:Option D),j=[some (D.int t),some (D.lst (q.map D.int)),some (D.ref p),e,none]/\g=aF M p (.lst (a.map D.int))/\jW i q a) ⟨c,[],none,rfl,rfl,rfl,λ_ _ _ h=>by simp at h⟩ ?_ ?_
  ·rintro i d j g X C ⟨t,a,e,rfl,rfl,b⟩ u;obtain⟨x,l,rfl⟩:=fD C;obtain⟨m,J⟩:=L x (K7 l);have S:i<q.length:=(J4.mp l).1;simp only[fo];walk_at"";refine⟨_,if_pos m,?_⟩;refine⟨by rw[E8,b.1];exact H0 (by lia:i<1000) (sz3 1000),?_⟩;refine⟨_,if_pos (show mD t x from⟨m,J⟩),?_⟩;exact u _ _ ⟨_,a++[t % x],_,rfl,by rw[L7];rfl,b.snoc l (ai0 _ (by lia)) (ad9 _ m)⟩
  ·rintro j g ⟨t,a,e,rfl,rfl,b⟩;refine am ?_;walk_at"";rw[eU I];rw[E8]at b;exact k a b
 ·walk_at"";refine am ?_;walk_at"";intro O;refine br (λi j g=>∃(o:Int) (a:List Int) (e:Option D),j=[some (D.int c),some (D.lst (q.map D.int)),some (D.ref p),e,some (D.int o)]/\g=aF M p (.lst (a.map D.int))/\jW i q a/\0<=o/\o<2147483700) ⟨_,[],none,rfl,rfl,⟨rfl,λ_ _ _ h=>by simp at h⟩,by lia,by lia⟩ ?_ ?_
  ·rintro i d j g X C ⟨o,a,e,rfl,rfl,b,Q,U⟩ u;obtain⟨x,l,rfl⟩:=fD C;obtain⟨m,J⟩:=L x (K7 l);have S:i<q.length:=(J4.mp l).1;refine⟨_,rfl,?_⟩;walk_at"";refine⟨_,if_pos m,?_⟩;refine⟨?_,u _ _ ⟨_,a++[(o*69069+12345) % 2147483587*40503 % 2147483563 / 11 % x],_,rfl,by rw[L7];rfl,b.snoc l (ai0 _ (by lia)) (ad9 _ m),by lia,by lia⟩⟩;rw[E8,b.1];exact H0 (by lia:i<1000) (sz3 1000)
  ·rintro j g ⟨o,a,e,rfl,rfl,b,Q,U⟩;refine am ?_;walk_at"";rw[eU I];rw[E8]at b;exact k a b
def kf:SpD:=λe M R=>∃(b:List Int) (n:Nat),e=[.lst (b.map D.int),.int n]/\n<=b.length/\n<=10/\(∀x∈b,0<=x/\x<720720)/\∀a:List Nat,a.length=n->a.Nodup->(∀c∈a,c∈cH)->R (.lst (a.map λc=>D.str (tx [c]))) M
theorem oB(F:Fun K "_law_letters" "_law_letters" eh f G)(T:Txt B):aP P w K B base CX0 1 f G ["_law_xs","_law_amount"] (spD K 2 kf):=by
 have o:=jg.nd;refine F.okR rfl jg (λa2 A N s H E O=>⟨_,(aj (aE (i:=2) o rfl (N8 rfl) bp)
   (aj (aE (i:=3) o rfl (ap1 rfl) (eJ ah))
   (aB (aj (fQ R7 rfl (fv rfl T.b_range (ae (af 1) ah)) (bv (i:=4) o rfl (N8 rfl)) (aj (gU (i:=5) o rfl rfl rfl (ms:=[false,false,false,true,false,false]) (ar:=["_law_sign"]) (aD rfl (show aO (ai eh) gA _ _=true from by decide +kernel)) rfl (aQ (af 2)) (aJ (i:=6) (show(gA++_).Nodup from by decide +kernel) rfl rfl) (λ_ _ _ _=>(me (aK lD (af 6) (af 3) rfl))) (λ_ _ _ _=>(af 6)))
   (aB (aq (cQ (fO (af 3) (ay az (af 5) (aA bc (ay az (af 0) (af 4) (λ_ _=>rfl)) (au aT rfl T.b_len (by kernel_rfl) (ae (af 5) ah))) (λ_ _=>rfl))))))))
   (aB (aq (oi (af 3)))))))),λds M R _ hS bk=>?_⟩)
 obtain⟨Z,n,rfl,hn,Y,hx,k⟩:=hS;refine bk ?_;clear bk;walk_at"";refine⟨sz3 0,λp hp=>am ?_⟩;walk_at"";rw[S3];refine⟨by lia,by lia,?_⟩;refine br (λi g C=>∃(a:List Nat) (I Q:Option D),g=[some (D.lst (Z.map D.int)),some (D.int n),some (D.str abc),some (D.ref p),I,Q]/\C=aF M p (.lst (a.map λc=>D.str (tx [c])))/\a.length=i/\a.Nodup/\∀c∈a,c∈cH) ⟨[],none,none,rfl,rfl,rfl,ak3,λ_ h=>by cases h⟩ ?_ ?_
 ·rintro i d g C X hd ⟨a,I,Q,rfl,rfl,t,e,b⟩ k';obtain⟨hi,rfl⟩:=c8 hd;refine⟨_,rfl,?_⟩;walk_at"";refine⟨_,if_pos (by rw[rh,jI];exact sz3 _),λhz=>⟨hz,?_⟩⟩;rw[ut];refine aY (λ(c:Nat)=>D.str (tx [c])) (λc=>!decide (c∈a)) (λc=>D.str (tx [c])) (λg=>∃x,g=[none,none,none,some (D.ref p),none,none,x]) cH _ _ (λc m g S=>?_) ⟨none,rfl⟩ ?_
  ·obtain⟨x,rfl⟩:=S;refine⟨_,rfl,⟨_,rfl⟩,λQ1 q=>?_,λ_ Q2 q=>?_⟩
   ·walk_at"";refine⟨_,if_pos ⟨rfl,by rw[S6,J7];intro _ _;rfl⟩,_,rfl,?_⟩;rw[Bw,Bool.true_xor];exact q
   ·walk_at"";exact q
  rw[N0];have J:=vE (by lia:a.length<26);have l:∀c∈cH.filter (λc=>!decide (c∈a)),c∈cH/\c∉a:=λc m=>by
   have:=ab8.mp m;exact⟨this.1,by simpa using this.2⟩
  generalize cH.filter (λc=>!decide (c∈a))=rest at J l;refine am ?_;walk_at"";rw[ah3];obtain⟨x,j⟩:∃x,Z[i]?=some x:=⟨_,E4 (by lia)⟩;have a0:=hx x (K7 j);have L:0<=x % (rest.length:Int):=ai0 _ (by lia);have a1:x % (rest.length:Int)<(rest.length:Int):=ad9 _ (by lia);obtain⟨v,hv⟩:∃v:Nat,x % (rest.length:Int)=(v:Int):=⟨_,(ag9 L).symm⟩;have U:v<rest.length:=by lia
  refine⟨_,aI (by rw[F7,j];rfl),?_⟩;walk_at"";rw[E8];refine⟨_,if_pos (by lia),?_⟩;walk_at"";rw[hv];have O:=l rest[v] (L8 _);refine⟨_,aI (by rw[F7,E4 U];rfl),?_,k' _ _ ⟨a++[rest[v]],_,_,rfl,by rw[L7];rfl,by rw[F2,t];rfl,?_,λc m=>?_⟩⟩
  ·rw[E8];exact H0 (by lia:a.length<1000) (sz3 1000)
  ·rw[V1];refine⟨e,by simp,λu hu w hw=>?_⟩;obtain rfl:w=rest[v]:=by simpa using hw
   rintro rfl;exact O.2 hu
  ·rcases Q3.mp m with z|z
   ·exact b c z
   ·obtain rfl:c=rest[v]:=by simpa using z
    exact O.1
 ·rintro g C ⟨a,I,Q,rfl,rfl,t,e,b⟩;refine am ?_;walk_at"";rw[eU hp];rw[bW]at t;exact k a t e b
theorem Cr{M:DH}{p q:F4}{a b:HD}(g:M p=none)(h:M q=none):LeM M (aF (aF M p a) q b):=λc o e=>by
 unfold aF
 split
 ·rename_i z;rw[z,h]at e;cases e
 ·split
  ·rename_i z;rw[z,g]at e;cases e
  ·exact e
def pd:SpD:=λe M R=>∃(ord:List (Str×Str)) (a b:Str),e=[.tup (ord.map bL),.str a,.str b]/\ord.length<=500/\∀c:Bool,(a=b->c=true)->R (.bl c) M
theorem uL(F:Fun K "_law_most" "_law_most" lZ f G)(T:Txt B):aP P w K B base CX0 1 f G ["_law_order","_law_one","_law_other"] (spD K 3 pd):=by
 have C:=nh.nd;refine F.okR rfl nh (λa2 A Y s H E hr=>⟨_,(aj (aE (i:=3) C rfl (N8 rfl) (eJ (ae (af 1) ah)))
   (aj (aE (i:=4) C rfl (N8 rfl) ag)
   (aj (tP R7 (aK yB (af 4) (au aT rfl T.b_len (by kernel_rfl) (ae (af 3) ah)) nbh) (aj (fQ R7 rfl (aQ (af 0)) (pI rfl (eG (bv (i:=5) C rfl (N8 rfl)) (eG (bv (i:=6) C rfl (N8 rfl)) qz))) (aq (bC (jw (iI (aK (gJ hr.units) (af 5) (ay az (af 3) (af 4) (λ_ _=>rfl)) nbh) (g8 (aK lD (af 6) (af 3) rfl)))) (aq (cQ (fO (af 3) (af 6)))) bg)))
   (aq (aE (i:=4) C rfl (N8 rfl) (aA bz (af 4) ag)))))
   (aq (gI (jf tQ (af 2) (af 3) rfl)))))),λds M R _ hS bk=>?_⟩)
 obtain⟨ord,a,b,rfl,ho,k⟩:=hS;refine bk ?_;clear bk;walk_at"";refine⟨sz3 1,λq hq=>?_⟩;refine⟨λm z t=>∃(i:Nat) (L:List Str) (O Z:Option D),z=[some (D.tup (ord.map bL)),some (D.str a),some (D.str b),some (D.ref q),some (D.int i),O,Z]/\t=aF M q (.lst (L.map .str))/\i<=L.length/\L.Nodup/\a∈L/\(∀x∈L,x∈a::ord.map (·.2))/\m=ord.length+1-i,
  ⟨_,0,[a],none,none,rfl,rfl,P1 _,by simp,by simp,λx hx=>by
   have:x=a:=by simpa using hx
   subst this;simp,rfl⟩,?_⟩
 rintro m z t ⟨i,L,O,Z,rfl,rfl,a1,hn,ha,hb,rfl⟩;have dv:L.length<=ord.length+1:=by
  have:=hU L (a::ord.map (·.2)) hn hb;simpa using this
 walk_at"";rw[E8];refine a7 (λh=>?_) (λh=>?_)
 ·have hi:i<L.length:=by lia
  intro hz;refine br (λj z t=>∃(g:List Str) (N J:Option D),z=[some (D.tup (ord.map bL)),some (D.str a),some (D.str b),some (D.ref q),some (D.int i),N,J]/\t=aF M q (.lst (g.map .str))/\L.length<=g.length/\g.Nodup/\a∈g/\∀x∈g,x∈a::ord.map (·.2)) ⟨L,O,Z,rfl,rfl,F6 _,hn,ha,hb⟩ ?_ ?_
  ·rintro j d z t X hd ⟨g,N,J,rfl,rfl,p,l,o,n⟩ S;obtain⟨⟨u,v⟩,hp,rfl⟩:=fD hd;have I:=K7 hp;have a0:g.length<=ord.length+1:=by
    have:=hU g (a::ord.map (·.2)) l n;simpa using this
   have U:i<g.length:=by lia
   simp only[bL,kh,gQ,fo,mS,al1];refine⟨_,rfl,?_⟩;walk_at"";refine⟨_,aI (by rw[F7,E4 U];rfl),?_⟩;walk_at"";refine a7 (λh=>?_) (λh=>?_)
   ·refine⟨_,if_pos ⟨rfl,i9⟩,_,rfl,?_⟩;rw[gc]
    by_cases Q:v∈g
    ·simp only[Q,decide_true,Bool.xor_true,Z6,F0,if_false];exact S _ _ ⟨g,_,_,rfl,rfl,p,l,o,n⟩
    ·simp only[Q,decide_false,Bool.xor_false,if_true];refine⟨by rw[E8];exact H0 (by lia:g.length<1000) (sz3 1000),S _ _ ⟨g++[v],_,_,rfl,by rw[L7];rfl,by rw[F2];lia,?_,U3 _ o,bI n (K6 _ (K5.mpr ⟨_,I,rfl⟩))⟩⟩;rw[V1];refine⟨l,by simp,λx hx y hy=>?_⟩;obtain rfl:y=v:=by simpa using hy
     rintro rfl;exact Q hx
   ·exact S _ _ ⟨g,_,_,rfl,rfl,p,l,o,n⟩
  ·rintro z t ⟨g,N,J,rfl,rfl,p,l,o,n⟩;walk_at"";exact⟨ord.length+1-(i+1),by lia,i+1,g,N,J,by simp,rfl,by lia,l,o,n,rfl⟩
 ·refine⟨_,if_pos ⟨rfl,i9⟩,M,fb hq,?_⟩;rw[gc,an7];exact k _ (λe=>by rw[<-e];exact decide_eq_true ha)
def stD(s:Nat×Nat):D:=.tup [.int (s.1:Int),.int (s.2:Int)]
def stI(s:Nat×Nat):Int×Int:=((s.1:Int),(s.2:Int))
def b6(l:List Nat):List D:=l.map λ(c:Nat)=>D.int (c:Int)
theorem sh{l:List (Nat×Nat)}:l.map stD=(l.map stI).map pD:=by rw[Q9];rfl
def srt(l:List (Nat×Nat)):List (Nat×Nat):=(iB (l.map stI)).map λp=>(p.1.toNat,p.2.toNat)
theorem yJ{l:List (Nat×Nat)}:(srt l).map stI=iB (l.map stI):=by
 unfold srt;rw[Q9]
 conv=>rhs;rw[<-List.map_id (iB (l.map stI))]
 refine W7 λp b=>?_;obtain⟨a,_,rfl⟩:=K5.mp ((iO (l.map stI)).mem_iff.mp b);simp[stI]
theorem qF:∀{l:List (Nat×Nat)},(l.map stI).map (λp:Int×Int=>(p.1.toNat,p.2.toNat))=l
 |[]=>rfl
 |a::l=>by rw[K0,K0,qF];simp[stI]
theorem mf{l:List (Nat×Nat)}:(srt l).Perm l:=by
 have h:=(iO (l.map stI)).map λp:Int×Int=>(p.1.toNat,p.2.toNat);rw[qF]at h;exact h
def qO(i:Nat)(h:List Nat)(F:List (Nat×Nat)):Prop:=h.length+2*F.length=i/\(∀x∈h,x<i)/\(∀a∈F,a.1<a.2/\a.2<i)/\∀p,p<i->p∈h∨∃a∈F,a.1=p∨a.2=p
theorem qO.push{i:Nat}{h:List Nat}{F:List (Nat×Nat)}(I:qO i h F):qO (i+1) (h++[i]) F:=by
 obtain⟨n,m,g,j⟩:=I;refine⟨by rw[F2];simp;lia,bI (λx l=>by have:=m x l;lia) (by lia),λa b=>⟨(g a b).1,by have:=(g a b).2;lia⟩,λp o=>?_⟩
 by_cases e:p=i
 ·left;rw[e];simp
 ·rcases j p (by lia)with q|q
  ·left;exact U3 _ q
  ·right;exact q
theorem qO.pop{i t:Nat}{h:List Nat}{F:List (Nat×Nat)}(I:qO i (h++[t]) F):qO (i+1) h (F++[(t,i)]):=by
 obtain⟨j,l,s,n⟩:=I;rw[F2]at j;simp only[O0,ae7]at j;have m:=l t (by simp);refine⟨by rw[F2];simp;lia,λx o=>by have:=l x (by simp[o]);lia,bI (λa g=>by have:=s a g;lia) ⟨m,by show i<i+1;lia⟩,λp u=>?_⟩;have b:(t,i)∈F++[(t,i)]:=by simp
 by_cases e:p=i
 ·right;exact⟨_,b,.inr e.symm⟩
 ·rcases n p (by lia)with q|⟨a,g,q⟩
  ·rcases Q3.mp q with q|q
   ·left;exact q
   ·right;exact⟨_,b,.inl (L6.mp q).symm⟩
  ·right;exact⟨a,U3 _ g,q⟩
def j8:SpD:=λg M R=>∃(e:List Int) (n:Nat),g=[.lst (e.map D.int),.int n]/\2*n<=e.length/\n<=6/\∀b:List (Nat×Nat),b.length=n->(∀a∈b,a.1<a.2/\a.2<2*n)->(∀p,p<2*n->∃a∈b,a.1=p∨a.2=p)->R (.lst (b.map stD)) M
theorem nY(F:Fun K "_law_matched" "_law_matched" gK f G)(T:Txt B):aP P w K B base CX0 1 f G ["_law_xs","_law_amount"] (spD K 2 j8):=by
 have I:=jb.nd;refine F.okR rfl jb (λa3 A Z s H E hr=>⟨_,(aj (aE (i:=2) I rfl (N8 rfl) (eJ ah))
   (aj (aE (i:=3) I rfl (N8 rfl) (eJ ah))
   (aj (aE (i:=4) I rfl (N8 rfl) (af 1))
   (aB (aj (fQ R7 rfl (fv rfl T.b_range (ae (aA bY ag (af 1)) ah)) (bv (i:=5) I rfl (N8 rfl)) (aq (bC (jw (iI (aK Bz (af 4) ag nbh) (g8 (jw (fP (aK (gJ hr.units) (af 2) (dS ah) nbh) (fS (aK (gJ hr.units) (aA bc (ay az (af 0) (af 5) (λ_ _=>rfl)) ag) ag nbh))))))) (aj (cQ (fO (af 2) (af 5)))
   (aq (aE (i:=4) I rfl (N8 rfl) (aA kc (af 4) ag)))) (aq (cQ (fO (af 3) (aL (ae (DY (af 2)) (ae (af 5) ah)))))))))
   (aB (aq (gI (au zr rfl T.b_sorted (by kernel_rfl) (ae (af 3) ah)))))))))),λJ M R _ hS bk=>?_⟩)
 obtain⟨N,n,rfl,hn,a2,k⟩:=hS;refine bk ?_;clear bk;walk_at"";refine⟨sz3 0,λp Q=>⟨sz3 0,λq L=>am ?_⟩⟩;walk_at"";refine⟨by lia,by lia,?_⟩;have b:p≠q:=by
  intro e;rw[e,bb]at L;cases L
 have a0:M q=none:=by rw[bS (U2 b)]at L;exact L
 rw[show(2*(n:Int)).toNat=2*n by lia];refine br (λi Y O=>∃(h:List Nat) (F:List (Nat×Nat)) (x5:Option D),Y=[some (D.lst (N.map D.int)),some (D.int n),some (D.ref p),some (D.ref q),some (D.int ((n:Int)-h.length-F.length)),x5]/\O=aF (aF M p (.lst (b6 h))) q (.lst (F.map stD))/\qO i h F/\h.length+F.length<=n) ⟨[],[],none,by simp,rfl,by simp[qO],P1 _⟩ ?_ ?_
 ·rintro i d Y O X hd ⟨h,F,x5,rfl,rfl,j,g⟩ k';obtain⟨hi,rfl⟩:=c8 hd;have e1:(aF (aF M p (.lst (b6 h))) q (.lst (F.map stD))) p=some (.lst (b6 h)):=by rw[bS b,bb]
  have r1:rdM (aF (aF M p (.lst (b6 h))) q (.lst (F.map stD))) (.ref p)=.lst (b6 h):=kE e1;refine⟨_,rfl,?_⟩;simp only[ah3];walk_at"";simp only[r1,e1];walk_at"";have m:=j.1;have push:h.length+F.length<n->(b6 h).length<F9/\X [some (D.lst (N.map D.int)),some (D.int n),some (D.ref p),some (D.ref q),some (D.int ((n:Int)-h.length-F.length-1)),some (D.int (i:Int))] (aF (aF (aF M p (.lst (b6 h))) q (.lst (F.map stD))) p (.lst (b6 h++[D.int (i:Int)]))):=λa1=>by
   refine⟨?_,k' _ _ ⟨h++[i],F,some (D.int (i:Int)),?_,?_,j.push,?_⟩⟩
   ·rw[b6,E8];exact H0 (by lia:h.length<1000) (sz3 1000)
   ·rw[F2,show((h.length+[i].length:Nat):Int)=(h.length:Int)+1 by simp,show(n:Int)-h.length-F.length-1=(n:Int)-((h.length:Int)+1)-F.length by lia]
   ·rw[dB b,eX,dB (U2 b)];simp[b6]
   ·rw[F2];simp;lia
  have pop:h≠[]->∃x u,b6 h=x++[u]/\2<=F9/\∃J,aF (aF (aF M p (.lst (b6 h))) q (.lst (F.map stD))) p (.lst x) q=some (.lst J)/\J.length<F9/\X [some (D.lst (N.map D.int)),some (D.int n),some (D.ref p),some (D.ref q),some (D.int ((n:Int)-h.length-F.length)),some (D.int (i:Int))] (aF (aF (aF (aF M p (.lst (b6 h))) q (.lst (F.map stD))) p (.lst x)) q (.lst (J++[D.tup [u,D.int (i:Int)]]))):=λo=>by
   obtain⟨l,t,rfl⟩:∃l t,h=l++[t]:=⟨h.dropLast,h.getLast o,(List.dropLast_concat_getLast o).symm⟩;refine⟨b6 l,D.int (t:Int),by simp[b6],sz3 2,F.map stD,by rw[bS (U2 b),bb],?_,k' _ _ ⟨l,F++[(t,i)],some (D.int (i:Int)),?_,?_,j.pop,?_⟩⟩
   ·rw[E8];exact H0 (by lia:F.length<1000) (sz3 1000)
   ·rw[F2,F2,show(n:Int)-((l.length+[t].length:Nat):Int)-F.length=(n:Int)-l.length-((F.length+[(t,i)].length:Nat):Int)by simp;lia]
   ·rw[dB b,eX,dB (U2 b),eX,L7];rfl
   ·rw[F2]at g ⊢;simp at g ⊢;lia
  have C:eqF (.lst (b6 h)) (.lst [])=some (.bl h.isEmpty):=by
   have h1:dLe (.lst (b6 h)) 60=true:=c7 _ λ_=>rfl;have h2:dLe (.lst []) 60=true:=rfl;simp only[eqF,h1,h2,and_self,if_true];cases h<;>rfl
  refine a7 (λU=>?_) (λU=>?_)
  ·refine⟨sz3 0,_,C,_,rfl,a7 (λc2=>push (by lia)) (λc2=>?_)⟩;obtain⟨x,hx⟩:∃x,N[i]?=some x:=⟨_,E4 (by lia)⟩;refine⟨_,aI (by rw[F7,hx];rfl),?_⟩;walk_at"";exact a7 (λc3=>push (by lia)) (λc3=>pop (λe=>c2 (by rw[e];rfl)))
  ·refine pop (λe=>?_);rw[e]at m g U;simp at m g U
   lia
 ·rintro Y O ⟨h,F,x5,rfl,rfl,j,g⟩;refine am ?_;walk_at"";have h0:h=[]:=by
   have:=j.1;rw[bW]at this;exact List.length_eq_zero_iff.mp (by lia)
  subst h0;have hF:2*F.length=2*n:=by
   have:=j.1;rw[bW]at this;simpa using this
  rw[sh];refine⟨_,zB (by rw[E8];lia),M,Cr Q a0,?_⟩;rw[<-yJ,<-sh];refine k _ (by rw[mf.length_eq];lia) (λa S=>?_) (λp Q=>?_)
  ·have:=j.2.2.1 a (mf.mem_iff.mp S);rw[bW]at this;exact this
  ·rcases j.2.2.2 p (by rw[bW];exact Q)with z|⟨a,S,q⟩
   ·cases z
   ·exact⟨a,mf.mem_iff.mpr S,q⟩
abbrev Row:=List (Str×Int)
def bZ(r:Row):D:=.tup (r.map aR)
def dO(a:List Row):D:=.tup (a.map bZ)
def qP(s:Str×Int):Prop:=aC s.1=true/\-2<=s.2/\s.2<=3
def o7(r:Row):Prop:=∀s∈r,qP s
def kn(r:Row)(p:Nat):Prop:=∃s,r[p]?=some s/\qP s
theorem kn.set{r:Row}{p j:Nat}{s:Str×Int}(h:kn r p)(hs:qP s):kn (r.set j s) p:=by
 obtain⟨t,a,g⟩:=h;have b:p<r.length:=(J4.mp a).1
 by_cases e:j=p
 ·subst e;exact⟨s,by rw[P8 b],hs⟩
 ·exact⟨t,by rw[U4 e];exact a,g⟩
theorem kn.new{r:Row}{j:Nat}{s:Str×Int}(a:j<r.length)(hs:qP s):kn (r.set j s) j:=⟨s,by rw[P8 a],hs⟩
theorem rT{xs:List Int}{lo hi:Option Int}:∃a:List Int,L2.cP (xs.map D.int) lo hi=a.map D.int/\a.length<=xs.length/\∀y∈a,y∈xs:=by
 refine⟨(xs.drop (HT.sIx (xs.map D.int).length 0 lo)).take (HT.sIx (xs.map D.int).length (xs.map D.int).length hi-HT.sIx (xs.map D.int).length 0 lo),?_,?_,λy b=>List.mem_of_mem_drop (ab7 b)⟩
 ·unfold L2.cP;rw[ad1,ai1]
 ·simp;lia
theorem ly(x y:Str×Int):eqD (aR x) (aR y)=decide (x=y):=by
 obtain⟨a,b⟩:=x;obtain⟨c,d⟩:=y;rw[O2];simp[aR,eqD,cZ]
theorem yD{e:Type}[DecidableEq e](f:e->D)(j:∀x y,eqD (f x) (f y)=decide (x=y))(g:∀x,dLe (f x) 59=true){a b:List e}:neF (.lst (a.map f)) (.lst (b.map f))=some (.bl (!decide (a=b))):=by
 have h:dLe (.lst (a.map f)) 60=true:=c7 f g;have i:dLe (.lst (b.map f)) 60=true:=c7 f g;simp only[neF,h,i,and_self,if_true,eqD,kH f j]
theorem xX{a b:Row}:neF (.lst (a.map aR)) (.lst (b.map aR))=some (.bl (!decide (a=b))):=yD aR ly (λ_=>rfl)
theorem oH{a b:Row}:neF (.tup (a.map aR)) (.tup (b.map aR))=some (.bl (!decide (a=b))):=by
 have e:dLe (.tup (a.map aR)) 60=true:=c7 aR λ_=>rfl;have g:dLe (.tup (b.map aR)) 60=true:=c7 aR λ_=>rfl;simp only[neF,e,g,and_self,if_true,eqD,kH aR ly]
theorem tF{n j:Nat}(h:j<n):ixN n (j:Int)=some j:=by
 unfold ixN;rw[if_pos (by lia),if_pos (by lia)];simp
def nu:SpD:=λj M R=>∃(i:List Int) (b:List (Nat×Nat)) (g:List Str) (ord:List (Str×Str)) (h:Str),j=[.lst (i.map D.int),.lst (b.map stD),.lst (g.map D.str),.tup (ord.map bL),.str h]/\2*b.length<=i.length/\1<=b.length/\b.length<=6/\(∀a∈b,a.1<a.2/\a.2<2*b.length)/\(∀p,p<2*b.length->∃a∈b,a.1=p∨a.2=p)/\g.length<=10/\h∈g/\(∀m∈g,aC m=true)/\ord.length<=500 /\
 ∀e:Row,e.length=2*b.length->o7 e->R (.lst (e.map aR)) M
theorem rY(F:Fun K "_law_signs" "_law_signs" eS f G)(T:Txt B)(d0:FnD P w K B base "_law_most" 1 3 pd):aP P w K B base CX0 2 f G ["_law_xs","_law_arcs","_law_marks","_law_order","_law_goal"] (spD K 5 nu):=by
 have O:=lg.nd;refine F.okR rfl lg (λd9 A d1 s H E hr=>⟨_,(aj (aE (i:=5) O rfl (N8 rfl) (eJ ah))
   (aB (aj (fQ R7 rfl (aQ (af 2)) (bv (i:=6) O rfl (ap1 rfl)) (aq (cQ (Cy (af 5) (ic (ms:=[false,false,false,true,false,false,true,false,false,false,false,false]) (ar:=[]) (aD rfl (show aO (ai eS) eY _ _=true from by decide +kernel)) rfl (aQ (af 2)) (aJ (i:=7) (show(eY++_).Nodup from by decide +kernel) rfl rfl) (λ_ _ _ _=>(me (bN (qd d0 hr (ae (af 3) (ae (af 6) (ae (af 7) ah))))))) (λ_ _ _ _=>(aL (ae (af 6) (ae (af 7) ah)))))))))
   (aB (tM 5 (aj (aE (i:=8) O rfl (N8 rfl) (BQ (dS (ae (aL (ae bp (ae ag ah))) ah)) (aA bY ag (au aT rfl T.b_len (by kernel_rfl) (ae (af 1) ah)))))
   (aB (aj (fQ R7 rfl (fv rfl T.b_range (ae (au aT rfl T.b_len (by kernel_rfl) (ae (af 1) ah)) ah)) (bv (i:=9) O rfl (N8 rfl)) (aj (aE (i:=10) O rfl (N8 rfl) (aA kc (aA bc (ay az (af 0) (aA bY ag (af 9)) (λ_ _=>rfl)) ag) ag))
   (aB (aj (wZ (ay az (af 5) (aA bc (ay az (af 0) (aA bz (aA bY ag (af 9)) ag) (λ_ _=>rfl)) (au aT rfl T.b_len (by kernel_rfl) (ae (af 5) ah))) (λ_ _=>rfl)) (pI rfl (eG (bv (i:=6) O rfl (ap1 rfl)) (eG (bv (i:=7) O rfl (N8 rfl)) qz))))
   (aB (aj (bC (aK (gJ hr.units) (aA bc (af 10) ag) ag nbh) (aB (aq (wZ (aL (ae (af 7) (ae (af 6) ah))) (pI rfl (eG (bv (i:=6) O rfl (ap1 rfl)) (eG (bv (i:=7) O rfl (N8 rfl)) qz)))))) bg)
   (aB (aj (bC (aK (gJ hr.units) (ay az (ay az (af 1) (af 9) (λ_ _=>rfl)) ag (λ_ _=>rfl)) (aA kc (aA bY ag (au aT rfl T.b_len (by kernel_rfl) (ae (af 1) ah))) ag) nbh) (aB (aj (aE (i:=10) O rfl (N8 rfl) ag)
   (aB (aj (gU (i:=11) O rfl rfl rfl (ms:=[false,false,false,false,true,false,false,false,false,false,false,false]) (ar:=["_law_pair"]) (aD rfl (show aO (ai eS) eY _ _=true from by decide +kernel)) rfl (aQ (af 5)) (aJ (i:=12) (show(eY++_).Nodup from by decide +kernel) rfl rfl) (λ_ _ _ _=>(me (aK (gJ hr.units) (ay az (af 12) ag (λ_ _=>rfl)) (af 4) nbh))) (λ_ _ _ _=>(ay az (af 12) ag (λ_ _=>rfl))))
   (aB (aq (wZ (aL (ae (ay az (af 11) (aA bc (ay az (af 0) (aA bz (aA bY ag (af 9)) ag) (λ_ _=>rfl)) (au aT rfl T.b_len (by kernel_rfl) (ae (af 11) ah))) (λ_ _=>rfl)) (ae (af 4) ah))) (pI rfl (eG (bv (i:=6) O rfl (ap1 rfl)) (eG (bv (i:=7) O rfl (N8 rfl)) qz)))))))))) bg)
   (aB (aj (wo (af 8) (ay az (ay az (af 1) (af 9) (λ_ _=>rfl)) ag (λ_ _=>rfl)) (aL (ae (af 6) (ae (af 10) ah))))
   (aB (aq (wo (af 8) (ay az (ay az (af 1) (af 9) (λ_ _=>rfl)) ag (λ_ _=>rfl)) (aL (ae (af 7) (ae (aA bz (af 10) ag) ah))))))))))))))))
   (aB (tM 8 (aq (gI (af 8))))))))))))),λds M R _ hS bk=>?_⟩)
 obtain⟨xs,l,Q,ord,I,rfl,hx,e2,d8,hG,b8,e0,b1,a5,ho,k⟩:=hS;refine bk ?_;clear bk;walk_at"";refine⟨sz3 0,λp hp=>am ?_⟩;walk_at"";intro hz;refine br (λi C L=>∃(g:List (Str×Str)) (x6 x7:Option D),C=[some (D.lst (xs.map D.int)),some (D.lst (l.map stD)),some (D.lst (Q.map D.str)),some (D.tup (ord.map bL)),some (D.str I),some (D.ref p),x6,x7,none,none,none,none]/\L=aF M p (.lst (g.map bL))/\g.length<=10*i/\(∀y∈g,aC y.1=true/\aC y.2=true)/\∀y∈Q.take i,(y,y)∈g) ⟨[],none,none,rfl,rfl,P1 _,λ_ h=>(by cases h),λ_ h=>(by cases h)⟩ ?_ ?_
 ·rintro i d C L X hd ⟨g,x6,x7,rfl,rfl,c0,a2,Y⟩ k';obtain⟨m,hm,rfl⟩:=fD hd;refine⟨_,rfl,?_⟩;walk_at"";refine λb3=>⟨b3,?_⟩;refine lq (λj a9 C M2=>M2=aF M p (.lst (g.map bL))/\∃(x:Option D) (os:List Str),C=[none,none,none,some (D.tup (ord.map bL)),none,none,some (D.str m),x,none,none,none,none]/\a9=os.map (λo=>bL (m,o))/\os.length<=j/\(∀o∈os,o∈Q)/\(m∈Q.take j->m∈os)) ⟨rfl,none,[],rfl,rfl,F6 _,λ_ h=>(by cases h),λh=>(by cases h)⟩ ?_ ?_
  ·rintro j d a9 C M2 X2 c' ⟨rfl,x,os,rfl,rfl,hl,a3,J⟩ k2;obtain⟨o,c2,rfl⟩:=fD c';refine⟨_,rfl,?_⟩;walk_at"";refine⟨ord,m,o,rfl,ho,λc hc=>⟨_,rfl,?_⟩⟩;have c3:Q.take (j+1)=Q.take j++[o]:=by rw[W8,c2];rfl
   cases c with
   |true =>
    rw[if_pos rfl];refine⟨sz3 2,k2 _ _ _ ⟨rfl,_,os++[o],rfl,by rw[L7];rfl,by rw[F2,aa9];lia,bI a3 (K7 c2),λh=>?_⟩⟩;rw[c3]at h;rcases Q3.mp h with z|z
    ·exact U3 _ (J z)
    ·exact M0 _ z
   |false =>
    rw[if_neg (by simp)];refine k2 _ _ _ ⟨rfl,_,os,rfl,rfl,by lia,a3,λh=>?_⟩;rw[c3]at h;rcases Q3.mp h with z|z
    ·exact J z
    ·exact absurd (hc (L6.mp z)) (by simp)
  rintro a9 C M2 ⟨rfl,x,os,rfl,rfl,hl,a3,J⟩;rw[E8]at hl J;rw[S8 (F6 _)]at J;have hi:i<Q.length:=(J4.mp hm).1;have c4:=K7 hm;refine⟨_,bb,by rw[E8,E8];exact sz3 _ (by lia),?_⟩;rw[eX];refine k' _ _ ⟨g++os.map (λo=>(m,o)),_,_,rfl,by rw[L7,Q9];rfl,by rw[F2,E8];lia,λy hy=>?_,λy hy=>?_⟩
  ·rcases Q3.mp hy with z|z
   ·exact a2 y z
   ·obtain⟨o,d7,rfl⟩:=K5.mp z;exact⟨a5 m c4,a5 o (a3 o d7)⟩
  ·rw[W8,hm]at hy;rcases Q3.mp hy with z|z
   ·exact U3 _ (Y y z)
   ·obtain rfl:y=m:=by simpa using z
    exact M0 _ (K5.mpr ⟨y,J c4,rfl⟩)
 ·rintro C L ⟨g,x6,x7,rfl,rfl,c0,a2,Y⟩;rw[E8,S8 (F6 _)]at Y;rw[E8]at c0;refine am ?_;walk_at"";rw[eU hp,E8,show(2*(l.length:Int)).toNat=2*l.length by lia];refine⟨sz3 2,sz3 1,by lia,by lia,sz3 _ (by lia),λq hq=>am ?_⟩;rw[show(F5 (2*l.length) [D.tup [D.str (J5 ""),D.int 0]]).flatten=(F5 (2*l.length) ((J5 "":Str),(0:Int))).map aR by rw[List.map_replicate,List.flatten_replicate_singleton];rfl];walk_at"";rw[E8,S3];refine⟨by lia,by lia,?_⟩;refine br (λi C L=>∃(n:Row) (x6 x7 x9 b4 N:Option D),C=[some (D.lst (xs.map D.int)),some (D.lst (l.map stD)),some (D.lst (Q.map D.str)),some (D.tup (ord.map bL)),some (D.str I),some (D.lst (g.map bL)),x6,x7,some (D.ref q),x9,b4,N]/\L=aF M q (.lst (n.map aR))/\n.length=2*l.length/\∀a∈l.take i,kn n a.1/\kn n a.2) ⟨_,_,_,_,_,_,rfl,rfl,by simp,λa h=>(by cases h)⟩ ?_ ?_
  ·rintro i d C L X hd ⟨n,x6,x7,x9,b4,N,rfl,rfl,b0,u⟩ k';obtain⟨hi,rfl⟩:=c8 hd;refine⟨_,rfl,?_⟩;rw[ah3];obtain⟨xa,d6⟩:∃xa,xs[2*i]?=some xa:=⟨_,E4 (by lia)⟩;obtain⟨xb,d4⟩:∃xb,xs[2*i+1]?=some xb:=⟨_,E4 (by lia)⟩;have ea:atI (xs.map D.int) (2*(i:Int))=some (.int xa):=by
    rw[show(2*(i:Int))=((2*i:Nat):Int)by lia];exact aI (by rw[F7,d6];rfl)
   have eb:atI (xs.map D.int) (2*(i:Int)+1)=some (.int xb):=by
    rw[show(2*(i:Int)+1)=((2*i+1:Nat):Int)by lia];exact aI (by rw[F7,d4];rfl)
   walk_at"";refine⟨_,ea,?_⟩;walk_at"";refine am ?_;walk_at"";refine⟨_,eb,?_⟩;walk_at"";have b5:0<g.length:=List.length_pos_iff.mpr (List.ne_nil_of_mem (Y I b1));obtain⟨v,hv,ev⟩:=eI b5 xb;rw[E8];refine⟨_,if_pos (by lia),?_⟩;walk_at"";rw[ev];refine⟨_,aI (by rw[F7,E4 hv];rfl),?_⟩;have a1:=a2 g[v] (L8 _);generalize g[v]=y at a1;obtain⟨y1,y2⟩:=y;simp only[bL,kh,gQ,fo,mS,al1];refine⟨_,if_pos rfl,?_⟩;obtain⟨a,a'⟩:∃a,l[i]?=some a:=⟨_,E4 hi⟩;have c5:=K7 a';have e1:=hG a c5;have a8:atI (l.map stD) (i:Int)=some (stD a):=aI (by rw[F7,a'];rfl);refine am (lA (λa0 L=>∃(S U:Str),a0=[some (D.lst (xs.map D.int)),some (D.lst (l.map stD)),some (D.lst (Q.map D.str)),some (D.tup (ord.map bL)),some (D.str I),some (D.lst (g.map bL)),some (D.str S),some (D.str U),some (D.ref q),some (D.int (i:Int)),some (D.int (xa % 5-2)),N]/\L=aF M q (.lst (n.map aR))/\aC S=true/\aC U=true) (λnx Z=>?_) ?_)
   ·walk_at"";refine a7 (λc1=>am ?_) (λc1=>Z _ _ ⟨y1,y2,rfl,rfl,a1⟩);walk_at"";refine⟨sz3 2,?_⟩;simp only[kh,gQ,fo,mS,al1];exact⟨_,if_pos rfl,Z _ _ ⟨y2,y1,rfl,rfl,a1.2,a1.1⟩⟩
   rintro a0 L ⟨S,U,rfl,rfl,c6,d2⟩;refine am (lA (λa0 L=>∃(S U:Str) (t:Int) (N:Option D),a0=[some (D.lst (xs.map D.int)),some (D.lst (l.map stD)),some (D.lst (Q.map D.str)),some (D.tup (ord.map bL)),some (D.str I),some (D.lst (g.map bL)),some (D.str S),some (D.str U),some (D.ref q),some (D.int (i:Int)),some (D.int t),N]/\L=aF M q (.lst (n.map aR))/\qP (S,t)/\qP (U,t+1)) (λnx Z=>?_) ?_)
   ·walk_at"";refine⟨_,a8,?_⟩;simp only[stD];walk_at"";rw[E8];refine a7 (λc1=>am ?_) (λc1=>Z _ _ ⟨S,U,_,_,rfl,rfl,⟨c6,by show -2<=xa % 5-2;lia,by show xa % 5-2<=3;lia⟩,⟨d2,by show -2<=xa % 5-2+1;lia,by show xa % 5-2+1<=3;lia⟩⟩);walk_at"";refine am ?_;walk_at"";refine λb3=>⟨b3,?_⟩;refine aY bL (λy=>y.2==I) (λy=>D.str y.1) (λC=>∃x,C=[none,none,none,none,some (D.str I),none,none,none,none,none,none,none,x]) g _ _ (λy hy C d3=>?_) ⟨none,rfl⟩ ?_
    ·obtain⟨x,rfl⟩:=d3;refine⟨_,rfl,⟨_,rfl⟩,λQ1 q=>?_,λ_ Q2 q=>?_⟩
     ·simp only[bL];walk_at"";exact q
     ·simp only[bL];walk_at"";exact q
    rw[N0];have b':0<(g.filter λy=>y.2==I).length:=List.length_pos_iff.mpr (List.ne_nil_of_mem (ab8.mpr ⟨Y I b1,beq_self_eq_true I⟩));have b9:∀y∈g.filter (λy=>y.2==I),aC y.1=true:=λy hy=>(a2 y (ab8.mp hy).1).1;generalize g.filter (λy=>y.2==I)=bl at b' b9;refine am ?_;walk_at"";refine⟨_,eb,?_⟩;walk_at"";obtain⟨v,hv,ev⟩:=eI b' xb;rw[E8];refine⟨_,if_pos (by lia),?_⟩;walk_at"";rw[ev];refine⟨_,aI (by rw[F7,E4 hv];rfl),?_⟩;refine⟨sz3 2,?_⟩;simp only[kh,gQ,fo,mS,al1];exact⟨_,if_pos rfl,Z _ _ ⟨bl[v].1,I,0,_,rfl,rfl,⟨b9 _ (L8 _),by show(-2:Int)<=0;decide,by show(0:Int)<=3;decide⟩,⟨a5 I b1,by show(-2:Int)<=0+1;decide,by show(0+1:Int)<=3;decide⟩⟩⟩
   rintro a0 L ⟨S,U,t,d',rfl,rfl,b2,a4⟩;refine am ?_;walk_at"";refine⟨sz3 2,_,a8,?_⟩;simp only[stD];walk_at"";rw[E8];refine⟨_,tF (by lia:a.1<n.length),am ?_⟩;walk_at"";refine⟨sz3 2,_,a8,?_⟩;simp only[stD];walk_at"";rw[ah8,E8];refine⟨_,tF (by lia:a.2<n.length),?_⟩;have e5:((n.map aR).set a.1 (D.tup [D.str S,D.int t])).set a.2 (D.tup [D.str U,D.int (t+1)])=((n.set a.1 (S,t)).set a.2 (U,t+1)).map aR:=by
    rw[List.map_set,List.map_set];rfl
   rw[e5];refine k' _ _ ⟨_,_,_,_,_,_,rfl,rfl,by rw[ah8,ah8];exact b0,λb hb=>?_⟩;rw[W8,a']at hb;have n2:kn ((n.set a.1 (S,t)).set a.2 (U,t+1)) a.2:=kn.new (by rw[ah8];lia) a4;have n1:kn ((n.set a.1 (S,t)).set a.2 (U,t+1)) a.1:=(kn.new (by lia) b2).set a4;rcases Q3.mp hb with z|z
   ·exact⟨((u b z).1.set b2).set a4,((u b z).2.set b2).set a4⟩
   ·obtain rfl:b=a:=by simpa using z
    exact⟨n1,n2⟩
  ·rintro C L ⟨n,x6,x7,x9,b4,N,rfl,rfl,b0,u⟩;refine am ?_;walk_at"";rw[eU hq];refine⟨M,λa o e=>e,k n b0 λs hs=>?_⟩;rw[bW,S8 (F6 _)]at u;obtain⟨j,hj,rfl⟩:=S7.mp hs;obtain⟨a,ha,ea⟩:=b8 j (by lia);have d5:kn n j:=by
    rcases ea with rfl|rfl
    ·exact(u a ha).1
    ·exact(u a ha).2
   obtain⟨s,h1,h2⟩:=d5;rw[E4 hj]at h1;cases h1;exact h2
def sm:SpD:=λg M R=>∃(e:List Int) (b:Row),g=[.lst (e.map D.int),.lst (b.map aR)]/\8<=e.length/\(∀x∈e,0<=x/\x<720720)/\b.length<=11/\∀a:List Row,a.flatten=b->a.length<=8->(∀c∈a,c.length<=5)->R (.lst (a.map bZ)) M
theorem xw(F:Fun K "_law_cut" "_law_cut" oZ f G)(T:Txt B):aP P w K B base CX0 1 f G ["_law_xs","_law_signs_here"] (spD K 2 sm):=by
 have I:=pR.nd;refine F.okR rfl pR (λa8 A X s H E hr=>⟨_,(aj (aE (i:=2) I rfl (N8 rfl) (eJ ah))
   (aj (aE (i:=3) I rfl (N8 rfl) (bh oO rfl T.b_list (by kernel_rfl) (ae (af 1) ah)))
   (aB (aj (tP R7 (aK (nR hr.units) (af 3) (dS ah) nbh) (aj (aE (i:=4) I rfl (N8 rfl) (au (CN rfl) rfl T.b_max (by kernel_rfl) (ae (aA bz ag (aA bc (ay az (af 0) (au aT rfl T.b_len (by kernel_rfl) (ae (af 2) ah)) (λ_ _=>rfl)) ag)) (ae (aA eM (aA kc (aA bz (au aT rfl T.b_len (by kernel_rfl) (ae (af 3) ah)) ag) (au aT rfl T.b_len (by kernel_rfl) (ae (af 2) ah))) (aA kc ag (au aT rfl T.b_len (by kernel_rfl) (ae (af 2) ah)))) ah))))
   (aB (aj (bC (jw (iI (aK yB (au aT rfl T.b_len (by kernel_rfl) (ae (af 2) ah)) ag nbh) (g8 (aK (gJ hr.units) (aA bc (ay az (af 0) (au aT rfl T.b_len (by kernel_rfl) (ae (af 2) ah)) (λ_ _=>rfl)) ag) ag nbh)))) (aq (aE (i:=4) I rfl (N8 rfl) ag)) bg)
   (aB (aj (cQ (fO (af 2) (bh ck rfl T.b_tuple (by kernel_rfl) (ae (aU (af 3) bF (a6 (af 4))) ah))))
   (aB (aq (aE (i:=3) I rfl (N8 rfl) (aU (af 3) (a6 (af 4)) bF))))))))))
   (aB (aq (oi (af 2)))))))),λds M R _ hS bk=>?_⟩)
 obtain⟨O,g,rfl,hx,Y,hl,k⟩:=hS;refine bk ?_;clear bk;walk_at"";refine⟨sz3 0,λp hp=>?_⟩;refine⟨_,rfl,am ?_⟩;walk_at"";refine⟨λm Δ t=>∃(a:List Row) (left:Row) (Z:Option D),Δ=[some (D.lst (O.map D.int)),some (D.lst (g.map aR)),some (D.ref p),some (D.lst (left.map aR)),Z]/\t=aF M p (.lst (a.map bZ))/\a.flatten++left=g/\(left≠[]->a.length<=7)/\a.length<=8/\(∀c∈a,c.length<=5)/\(left.length<=2*(8-a.length))/\m=8-a.length,⟨8,[],g,none,rfl,rfl,rfl,λ_=>by decide,by decide,(λ_ h=>(by cases h)),(show g.length<=2*8 by lia),rfl⟩,?_⟩;rintro m Δ t ⟨a,left,Z,rfl,rfl,hfl,h7,h8,h5,h2,rfl⟩;walk_at"";refine⟨sz3 0,_,xX (b:=[]),_,rfl,a7 (λS=>?_) (λS=>?_)⟩
 ·have U:left≠[]:=by simpa using S
  have a2:=h7 U;have a4:left.length<=11:=by
   have:=congrArg X9 hfl;rw[F2]at this
   lia
  obtain⟨x,o⟩:∃x,O[a.length]?=some x:=⟨_,E4 (by lia)⟩;have a3:=Y x (K7 o);have n:atI (O.map D.int) (a.length:Int)=some (.int x):=aI (by rw[F7,o];rfl);rw[E8];refine⟨_,n,?_⟩;walk_at"";have a5:(a.length:Int)<=7:=by lia
  have L:mD ((left.length:Int)+7-a.length) (8-a.length):=⟨by lia,by lia⟩;rw[E8];refine⟨_,if_pos L,?_⟩;walk_at"";obtain⟨sz,Q,C,N⟩:∃sz:Nat,(if((left.length:Int)+7-a.length) / (8-a.length) > 1+x % 5 then((left.length:Int)+7-a.length) / (8-a.length)else 1+x % 5)=(sz:Int)/\sz<=5/\left.length<=sz+2*(7-a.length):=by
   clear L n o k;generalize a.length=k at *
   generalize left.length=l at *
   rcases(by lia:k=0∨k=1∨k=2∨k=3∨k=4∨k=5∨k=6∨k=7)with rfl|rfl|rfl|rfl|rfl|rfl|rfl|rfl
   all_goals
    split
    ·exact⟨_,(ag9 (by lia)).symm,by lia,by lia⟩
    ·exact⟨_,(ag9 (by lia)).symm,by lia,by lia⟩
  rw[Q];refine am (lA (λu t=>∃sz:Nat,u=[some (D.lst (O.map D.int)),some (D.lst (g.map aR)),some (D.ref p),some (D.lst (left.map aR)),some (D.int (sz:Int))]/\t=aF M p (.lst (a.map bZ))/\sz<=5/\left.length<=sz+2*(7-a.length)) (λnx q=>?_) ?_)
  ·walk_at"";rw[E8];refine a7 (λc2=>?_) (λc2=>q _ _ ⟨sz,rfl,rfl,C,N⟩);refine⟨_,n,?_⟩;walk_at"";exact a7 (λc3=>q _ _ ⟨0,rfl,rfl,by lia,by lia⟩) (λc3=>q _ _ ⟨sz,rfl,rfl,C,N⟩)
  rintro u t ⟨j,rfl,rfl,a0,a1⟩;refine am ?_;walk_at"";rw[iP,<-ad1];refine⟨by rw[E8];exact H0 (by lia:a.length<1000) (sz3 1000),am ?_⟩;walk_at"";rw[gj,<-ai1];refine⟨8-(a++[left.take j]).length,by rw[F2];simp;lia,a++[left.take j],left.drop j,some (D.int (j:Int)),⟨rfl,rfl⟩,by rw[L7];rfl,?_,λz=>?_,by rw[F2];simp;lia,bI h5 (by rw[O7];lia),by rw[F2,W3];simp;lia,rfl⟩
  ·rw[List.flatten_append,aj2];simp only[Z8,List.flatten_nil,V4];rw[List.take_append_drop];exact hfl
  ·rw[F2];simp only[O0,ae7]
   by_cases e:a.length=7
   ·exact absurd (List.drop_of_length_le (by lia)) z
   ·lia
 ·have J:left=[]:=by simpa using S
  refine am ?_;walk_at"";rw[eU hp];rw[J,V4]at hfl;exact k a hfl h8 h5
def nc:SpD:=λg M R=>∃(kd:Row) (e:List Int) (b:List Str),g=[bZ kd,.lst (e.map D.int),.lst (b.map D.str)]/\5<=e.length/\(∀x∈e,0<=x/\x<720720)/\0<b.length/\b.length<=10/\(kd.length<=5/\o7 kd)/\(∀m∈b,aC m=true)/\∀a:List Row,kd∈a->a.length<=2->a.Nodup->(∀r∈a,r.length<=5/\o7 r)->R (dO a) M
theorem qR(F:Fun K "_law_kinds" "_law_kinds" gV f G)(T:Txt B):aP P w K B base CX0 1 f G ["_law_kind","_law_xs","_law_marks"] (spD K 3 nc):=by
 have t:=lJ.nd;refine F.okR rfl lJ (λa' A S s H E J=>⟨_,(aj (aE (i:=3) t rfl (N8 rfl) (aL (ae (af 0) ah)))
   (aB (aj (bC (aK (gJ J.units) (aA bc (ay az (af 1) ag (λ_ _=>rfl)) ag) ag nbh) (aB (aj (gU (i:=4) t rfl rfl rfl (ms:=[false,false,true,false,false]) (ar:=["_law_x"]) (aD rfl (show aO (ai gV) jN _ _=true from by decide +kernel)) rfl (aQ (aU (af 1) (a6 ag) (a6 ag))) (aJ (i:=5) (show(jN++_).Nodup from by decide +kernel) rfl rfl) (λ_ _ _ _=>bR) (λ_ _ _ _=>(aL (ae (ay az (af 2) (aA bc (af 5) (au aT rfl T.b_len (by kernel_rfl) (ae (af 2) ah))) (λ_ _=>rfl)) (ae (aA kc (aA bc (aA eM (af 5) ag) ag) ag) ah)))))
   (aB (aj (aE (i:=4) t rfl (N8 rfl) (bh ck rfl T.b_tuple (by kernel_rfl) (ae (aU (af 4) bF (a6 (aA bc (ay az (af 1) ag (λ_ _=>rfl)) ag))) ah)))
   (aB (aq (bC (jw (iI (aK (nR J.units) (af 4) (af 0) nbh) (g8 (aK (gJ J.units) (aA bc (ay az (af 1) ag (λ_ _=>rfl)) ag) ag nbh)))) (aq (aE (i:=3) t rfl (N8 rfl) (aL (ae (af 4) (ae (af 0) ah))))) (aq (bC (aK (nR J.units) (af 4) (af 0) nbh) (aq (aE (i:=3) t rfl (N8 rfl) (aL (ae (af 0) (ae (af 4) ah))))) bg))))))))) bg)
   (aB (aq (aZ (af 3))))))),λds M R _ hS bk=>?_⟩)
 obtain⟨kd,g,a,rfl,hx,a9,o,hm,hk,L,k⟩:=hS;refine bk ?_;clear bk;simp only[bZ];walk_at"";refine⟨sz3 1,am ?_⟩;walk_at"";obtain⟨x0,O⟩:∃x,g[0]?=some x:=⟨_,E4 (by lia)⟩;have U:atI (g.map D.int) 0=some (.int x0):=aI (j:=0) (by rw[F7,O];rfl);refine⟨_,U,?_⟩;walk_at"";have b:R (dO [kd]) M:=k [kd] (by simp) (by simp) (by simp) (by simpa using hk);refine a7 (λc1=>am ?_) (λc1=>am ?_)
 ·walk_at"";obtain⟨m,u,a5,a4⟩:=rT (xs:=g) (lo:=some 2) (hi:=some 4);rw[u];refine λhz=>⟨hz,?_⟩;refine aY D.int (λ_=>true) (λx=>aR (a.getD (x % (a.length:Int)).toNat "",x / 8 % 5-2)) (λΔ=>∃x,Δ=[none,none,some (D.lst (a.map D.str)),none,none,x]) m _ _ (λx a8 Δ a0=>?_) ⟨none,rfl⟩ ?_
  ·obtain⟨x1,rfl⟩:=a0;refine⟨_,rfl,⟨_,rfl⟩,λQ1 q=>q,λ_ Q2 q=>?_⟩;obtain⟨v,I,C⟩:=eI o x;walk_at"";rw[E8];refine⟨_,if_pos (by lia),?_⟩;walk_at"";rw[C];refine⟨_,aI (by rw[F7,E4 I];rfl),?_⟩;refine⟨sz3 2,?_⟩;rw[C,S3]at q;simp only[L9,E4 I,Option.getD_some]at q;exact q
  rw[N0,O8.mpr (λ_ _=>rfl)];have p:o7 (m.map λx=>(a.getD (x % (a.length:Int)).toNat "",x / 8 % 5-2)):=λs Q=>by
   obtain⟨y,_,rfl⟩:=K5.mp Q;obtain⟨v,I,C⟩:=eI o y;refine⟨?_,by show -2<=y / 8 % 5-2;lia,by show y / 8 % 5-2<=3;lia⟩;show aC (a.getD (y % (a.length:Int)).toNat "")=true;rw[C,S3,L9,E4 I];exact L _ (L8 _)
  have a3:m.length<=2:=by
   have h0:=congrArg X9 u;rw[E8]at h0;rw[<-h0];unfold L2.cP;rw[show(2:Int)=((2:Nat):Int)from rfl,show(4:Int)=((4:Nat):Int)from rfl,HT.sIx_nat,HT.sIx_nat,O7]
   lia
  generalize l:(m.map λx=>(a.getD (x % (a.length:Int)).toNat "",x / 8 % 5-2))=rs at p;have e1:(m.map λx=>aR (a.getD (x % (a.length:Int)).toNat "",x / 8 % 5-2))=rs.map aR:=by rw[<-l,Q9];rfl
  rw[e1];obtain⟨y1,Z⟩:∃x,g[1]?=some x:=⟨_,E4 (by lia)⟩;have N:atI (g.map D.int) 1=some (.int y1):=aI (j:=1) (by rw[F7,Z];rfl);obtain⟨y4,X⟩:∃x,g[4]?=some x:=⟨_,E4 (by lia)⟩;have a1:atI (g.map D.int) 4=some (.int y4):=aI (j:=4) (by rw[F7,X];rfl);refine am ?_;walk_at"";refine⟨_,N,?_⟩;walk_at"";obtain⟨Y,a2⟩:∃v:Nat,y1 % 3=(v:Int):=⟨(y1 % 3).toNat,by lia⟩;rw[a2,iP,<-ad1];have h:(rs.take Y).length<=5/\o7 (rs.take Y):=by
   refine⟨?_,λs Q=>p s (ab7 Q)⟩;rw[O7,<-l,E8]
   lia
  generalize rs.take Y=more at h;refine am ?_;walk_at"";refine⟨_,oH,_,rfl,?_⟩;have n:more≠kd->R (dO [more,kd]) M:=λz=>k _ (by simp) (by simp) (by simp[z]) (by simp;exact⟨h,hk⟩);have e:more≠kd->R (dO [kd,more]) M:=λz=>k _ (by simp) (by simp) (by simp[U2 z]) (by simp;exact⟨hk,h⟩);refine a7 (λc2=>⟨_,a1,?_⟩) (λc2=>⟨_,oH,_,rfl,a7 (λc4=>⟨sz3 2,am ?_⟩) (λ_=>am ?_)⟩)
  ·have c5:more≠kd:=by simpa using c2
   walk_at"";refine a7 (λc3=>⟨sz3 2,am ?_⟩) (λc3=>⟨_,oH,_,rfl,a7 (λ_=>⟨sz3 2,am ?_⟩) (λ_=>am ?_)⟩)
   ·walk_at"";exact n c5
   ·walk_at"";exact e c5
   ·walk_at"";exact b
  ·walk_at"";exact e (by simpa using c4)
  ·walk_at"";exact b
 ·walk_at"";exact b
theorem AM{xs:List D}:L2.cP xs none (some (-1))=xs.dropLast:=by
 unfold L2.cP;rw[HT.sIx_none,List.drop_zero,Nat.sub_zero,List.dropLast_eq_take];congr 1;show(if(-1:Int)<0 then(-1+(xs.length:Int)).toNat else min (-1:Int).toNat xs.length)=_;rw[if_pos (by decide)]
 lia
theorem wQ(x y:Row):eqD (bZ x) (bZ y)=decide (x=y):=by
 simp only[bZ,eqD];exact kH aR ly
theorem vq{a:List Row}{b:Row}(m:a.length<=2)(h:b∈a):∃j,lV (a.map bZ) (bZ b)=some j/\a[j]?=some b:=by
 have i:dLe (bZ b) 59=true:=(dG (n:=58)).mpr λd g=>by
  obtain⟨x,_,rfl⟩:=K5.mp g;rfl
 have o:bJ (a.map bZ) 59=true:=c7 bZ λx=>(dG (n:=58)).mpr λd g=>by
  obtain⟨y,_,rfl⟩:=K5.mp g;rfl
 unfold lV;rw[if_pos ⟨i,o,by rw[E8];exact Nat.lt_of_le_of_lt m (by decide)⟩];clear i o m
 induction a with
 |nil=>cases h
 |cons k l ih =>
  rw[K0,List.findIdx?_cons,wQ]
  by_cases e:k=b
  ·subst e;exact⟨0,by simp,rfl⟩
  ·rw[decide_eq_false e];have p:b∈l:=by
    rcases J3.mp h with q|q
    ·exact absurd q.symm e
    ·exact q
   obtain⟨j,s,t⟩:=ih p;refine⟨j+1,?_,by rw[S1];exact t⟩;rw[s];rfl
theorem zM{c n:Nat}(h:n<=1000):kX (.str (tx [c])) (.int (n:Int))=some (.str (tx (F5 n c))):=by
 have e:kX (.str (tx [c])) (.int (n:Int))=if(tx [c]).length<=16777216/\-(2 ^ 63)<=(n:Int)/\(n:Int)<=16777216/\(tx [c]).length*(n:Int).toNat<=16777216 then some (.str (Txt.mul (tx [c]) (n:Int)))else none:=rfl
 rw[e,if_pos (by rw[jI];simp;lia),rG]
theorem jr{i q:Type}{f:i->q}:∀{l:List i},(∀a b,a∈l->b∈l->f a=f b->a=b)->l.Nodup->(l.map f).Nodup
 |[],_,_=>ak3
 |x::l,h,p=>by
  rw[K0,T4];obtain⟨n,s⟩:=T4.mp p;refine⟨λm=>?_,jr (λa b j o=>h a b (.tail _ j) (.tail _ o)) s⟩;obtain⟨y,g,e⟩:=K5.mp m;obtain rfl:=h y x (.tail _ g) (.head _) e;exact n g
theorem Dv:kX (.lst [.int 720720]) (.int 98)=some (.lst ((F5 98 (720720:Int)).map D.int)):=by
 have e:kX (.lst [.int 720720]) (.int 98)=if -(2 ^ 63)<=(98:Int)/\(98:Int)<2 ^ 63/\[D.int 720720].length*(98:Int).toNat<=F9 then some (.lst (F5 (98:Int).toNat [D.int 720720]).flatten)else none:=rfl
 rw[e,if_pos ⟨by decide,by decide,sz3 _ (by decide)⟩];rfl
theorem nK.at{n:Nat}{xs:List Int}(h:nK n xs){i:Int}(hi:0<=i/\i<n):∃x,atI (xs.map D.int) i=some (.int x)/\0<=x/\x<720720:=by
 obtain⟨j,rfl⟩:=ad2 hi.1;have a:j<xs.length:=by rw[h.1];lia
 exact⟨xs[j],aI (by rw[F7,E4 a];rfl),h.2 _ (L8 _)⟩
theorem nK.drop{n m:Nat}{xs:List Int}(h:nK n xs):nK (n-m) (xs.drop m):=⟨by rw[W3,h.1],λx a=>h.2 x (List.mem_of_mem_drop a)⟩
def uK(e:Str×List Row):D:=.tup [.str e.1,dO e.2]
theorem uj:∀x y,bZ x=bZ y->x=y:=λx y h=>sP uG (by simpa[bZ]using h)
theorem uQ{x:Str}(h:aC x=true):x.length<=8:=by
 simp only[aC,F8,decide_eq_true_eq]at h;exact h.1.2
theorem cD{x:Str}(h:aC x=true):ak (.str x)=true:=by
 have:=uQ h;simp only[ak,decide_eq_true_eq];lia
theorem i7{a:Type}{f:a->D}{xs:List a}(h:∀x∈xs,ak (f x)=true):ak (.tup (xs.map f))=true:=by
 show bO _=true;rw[bw];intro d e;obtain⟨x,b,rfl⟩:=K5.mp e;exact h x b
theorem mh{a b:D}(g:ak a=true)(e:ak b=true):ak (.tup [a,b])=true:=by
 simp only[ak,bO,g,e,af6]
theorem vW{s:Str×Int}(h:qP s):ak (aR s)=true/\bX (aR s)=true:=by
 obtain⟨a,b,e⟩:=h;refine⟨mh (cD a) rfl,?_⟩;simp only[aR,bX,aH,iW,a,O3,F8,decide_eq_true_eq]
 lia
theorem Ad{r:Row}(h:r.length<=5/\o7 r):ak (bZ r)=true/\cS (bZ r)=true:=by
 refine⟨i7 λs a=>(vW (h.2 s a)).1,?_⟩;simp only[bZ,cS,S6,E8,F8,decide_eq_true_eq,J7];exact⟨λs a=>(vW (h.2 s a)).2,h.1⟩
def Aq(a:List Row):Prop:=1<=a.length/\a.length<=2/\a.Nodup/\∀r∈a,r.length<=5/\o7 r
theorem Ab{a:List Row}(h:Aq a):ak (dO a)=true/\ie (dO a)=true:=by
 obtain⟨g,j,i,e⟩:=h;refine⟨i7 λr b=>(Ad (e r b)).1,?_⟩;simp only[dO,ie,S6,E8,F8,decide_eq_true_eq,J7];refine⟨⟨⟨g,by lia⟩,λr b=>(Ad (e r b)).2⟩,?_⟩;rw[fV uj,cY];exact i
theorem Di{ord:List (Str×Str)}{g:Str}{a:List (Str×List Row)}(m:ord.length<=8)(i:∀p∈ord,aC p.1=true/\aC p.2=true)(l:aC g=true)(n:1<=a.length)(o:a.length<=10)(q:(a.map (·.1)).Nodup)(j:∀e∈a,aC e.1=true/\Aq e.2):
  gB (.tup (ord.map bL)) (.str g) (a.map λe=>(D.str e.1,dO e.2)):=by
 refine⟨i7 λp b=>mh (cD (i p b).1) (cD (i p b).2),?_,cD l,l,λp b=>?_,aV.mpr ⟨⟨by rw[E8];exact n,by rw[E8];exact o⟩,?_,?_⟩⟩
 ·simp only[ky,S6,E8,F8,decide_eq_true_eq,J7];refine⟨m,λp b=>?_⟩;simp only[Function.comp,bL,iH,aH,(i p b).1,(i p b).2,af6]
 ·obtain⟨e,h,rfl⟩:=K5.mp b;exact⟨cD (j e h).1,(Ab (j e h).2).1⟩
 ·rw[S6,J7];intro e h;simp only[Function.comp,enB,aH,(j e h).1,(Ab (j e h).2).2,af6]
 ·rw[Q9];have:a.map ((λp:D×D=>p.1)∘λe=>(D.str e.1,dO e.2))=(a.map (·.1)).map D.str:=by rw[Q9];rfl
  rw[this,<-cY,fV sO,cY];exact q
theorem jM{c n:Nat}(g:c∈cH)(e:1<=n)(a:n<=8):aC (tx (F5 n c))=true:=by
 have l:(tx (F5 n c)).length=n:=by rw[jI,aa6]
 unfold aC;rw[l,fq,decide_eq_true e,decide_eq_true a,O3,O3,J7];intro d b;rw[List.eq_of_mem_replicate b];exact decide_eq_true g
def iX:SpD:=λb M R=>∃c:Int,b=[.int c]/\∀(o:D) (g:Str) (a:List (D×D)) (x y:D),gB o (.str g) a->R (.tup [lxD o (.str g) a,x,y]) M
theorem mL(F:Fun K "_law_sentence" "_law_sentence" cG f G)(T:Txt B)(G9:FnD P w K B base "_law_parts" 1 2 jY)(d7:FnD P w K B base "_law_matched" 1 2 j8)(f0:FnD P w K B base "_law_signs" 2 5 nu)(h9:FnD P w K B base "_law_cut" 1 2 sm)(Y3:FnD P w K B base "_law_letters" 1 2 kf)(f7:FnD P w K B base "_law_kinds" 1 3 nc):aP P w K B base CX0 3 f G ["_law_cell"] (spD K 1 iX):=by
 have I:=ix.nd;refine F.okR rfl ix (λi5 A f9 s H E hr=>⟨_,(aj (aE (i:=1) I rfl (ap1 rfl) (qd G9 hr (ae (af 0) (ae (aA bY (dS (ae ag ah)) ag) ah))))
   (aB (aj (aE (i:=2) I rfl (ap1 rfl) (aU (qd Y3 hr (ae (af 1) (ae ag ah))) bF (a6 (aA bz ag (aA bc (ay az (af 1) ag (λ_ _=>rfl)) ag)))))
   (aB (aj (gU (i:=3) I rfl rfl rfl (ms:=[false,true,false,false,false,false,false,false,false,false,false,false,false,false]) (ar:=["_law_sign"]) (aD rfl (show aO (ai cG) cK _ _=true from by decide +kernel)) rfl (aQ (qd Y3 hr (ae (aU (af 1) (a6 ag) bF) (ae ag ah)))) (aJ (i:=14) (show(cK++_).Nodup from by decide +kernel) rfl rfl) (λ_ _ _ _=>bR) (λ_ _ _ _=>(aA bY (af 14) (aA bz ag (aA bc (aA eM (ay az (af 1) ag (λ_ _=>rfl)) ag) ag)))))
   (aB (aj (gU (i:=5) I rfl rfl rfl (ms:=[false,true,true,false,false,false,false,false,false,false,false,false,false,false]) (ar:=[]) (aD rfl (show aO (ai cG) cK _ _=true from by decide +kernel)) rfl (fv rfl T.b_range (ae ag ah)) (aJ (i:=4) (show(cK++_).Nodup from by decide +kernel) rfl rfl) (λ_ _ _ _=>bR) (λ_ _ _ _=>(aL (ae (ay az (af 2) (aA bc (ay az (af 1) (aA bz ag (aA bY ag (af 4))) (λ_ _=>rfl)) (au aT rfl T.b_len (by kernel_rfl) (ae (af 2) ah))) (λ_ _=>rfl)) (ae (ay az (af 2) (aA bc (ay az (af 1) (aA bz ag (aA bY ag (af 4))) (λ_ _=>rfl)) (au aT rfl T.b_len (by kernel_rfl) (ae (af 2) ah))) (λ_ _=>rfl)) ah)))))
   (aB (aj (aE (i:=6) I rfl (N8 rfl) (bh ck rfl T.b_tuple (by kernel_rfl) (ae (aU (af 5) bF (a6 (aA bc (ay az (af 1) ag (λ_ _=>rfl)) ag))) ah)))
   (aB (aj (aE (i:=7) I rfl (N8 rfl) (ay az (af 2) (aA bc (ay az (af 1) ag (λ_ _=>rfl)) (au aT rfl T.b_len (by kernel_rfl) (ae (af 2) ah))) (λ_ _=>rfl)))
   (aB (aj (aE (i:=8) I rfl (N8 rfl) (qd d7 hr (ae (aU (af 1) (a6 ag) bF) (ae (aA bz ag (aA bc (ay az (af 1) ag (λ_ _=>rfl)) ag)) ah))))
   (aB (aj (aE (i:=9) I rfl (N8 rfl) (qd f0 hr (ae (aU (af 1) (a6 ag) bF) (ae (af 8) (ae (af 2) (ae (af 6) (ae (af 7) ah)))))))
   (aB (aj (aE (i:=10) I rfl (N8 rfl) (qd h9 hr (ae (aU (af 1) (a6 ag) bF) (ae (aU (af 9) bF (a6 (Bg Bj ag))) ah))))
   (aB (aj (aE (i:=11) I rfl (N8 rfl) (eJ ah))
   (aB (aj (aE (i:=12) I rfl (N8 rfl) (eJ ah))
   (aB (aj (fQ R7 rfl (fv rfl T.b_range (ae (au aT rfl T.b_len (by kernel_rfl) (ae (af 10) ah)) ah)) (bv (i:=4) I rfl (N8 rfl)) (aj (aE (i:=13) I rfl (N8 rfl) (qd f7 hr (ae (ay az (af 10) (af 4) (λ_ _=>rfl)) (ae (aU (af 1) (a6 (aA bz ag (aA bY ag (af 4)))) bF) (ae (af 2) ah)))))
   (aB (aj (cQ (fO (af 11) (aL (ae (ay az (af 3) (af 4) (λ_ _=>rfl)) (ae (af 13) ah)))))
   (aB (aq (cQ (fO (af 12) (Bm hr.units (af 13) (ay az (af 10) (af 4) (λ_ _=>rfl)))))))))))
   (aB (aq (gI (aL (ae (aL (ae (af 6) (ae (af 7) (ae (bh ck rfl T.b_tuple (by kernel_rfl) (ae (af 11) ah)) ah)))) (ae (bh ck rfl T.b_tuple (by kernel_rfl) (ae (aU (af 3) bF (a6 (au aT rfl T.b_len (by kernel_rfl) (ae (af 10) ah)))) ah)) (ae (aL (ae (bh ck rfl T.b_tuple (by kernel_rfl) (ae (af 12) ah)) (ae (bh ck rfl T.b_tuple (by kernel_rfl) (ae (af 8) ah)) ah))) ah)))))))))))))))))))))))))))))),λds M R _ hS bk=>?_⟩)
 obtain⟨c,rfl,k⟩:=hS;refine bk ?_;clear bk;walk_at"";refine⟨sz3 1,_,Dv,c,_,rfl,by rw[aa6];decide,λs hs=>by rw[List.eq_of_mem_replicate hs];decide,λQ S=>am ?_⟩;replace S:=va S;have k5:=S.1;have u:=λ(i:Int) (h:0<=i/\i<98)=>S.at (i:=i) h;obtain⟨b',f3,i3,i4⟩:=u 14 (by decide);obtain⟨a1,d2,k2,k4⟩:=u 15 (by decide);obtain⟨b9,f',k3,i'⟩:=u 16 (by decide);obtain⟨f4,g',k1,j1⟩:=u 25 (by decide);walk_at"";refine⟨Q,4,rfl,by lia,by decide,S.2,λcs h8 i2 h'=>?_⟩;walk_at"";refine⟨_,d2,?_⟩;walk_at"";obtain⟨n4,e4,l4⟩:∃n:Nat,1+a1 % 4=(n:Int)/\1<=n/\n<=4:=⟨(1+a1 % 4).toNat,by lia,by lia⟩;rw[e4,iP,<-ad1];have h3:(cs.take n4).length=n4:=by rw[O7];lia
 have c2:((cs.take n4).map λc=>D.str (tx [c]))=((cs.take n4).map λc=>tx [c]).map D.str:=by rw[Q9];rfl
 rw[c2];obtain⟨t,L⟩:∃t,t=(cs.take n4).map λc=>tx [c]:=⟨_,rfl⟩;rw[<-L];have a2:0<t.length:=by rw[L,E8];lia
 have a8:t.length<=10:=by rw[L,E8];lia
 have o:∀m∈t,aC m=true:=λm hm=>by
  rw[L]at hm;obtain⟨c',U,rfl⟩:=K5.mp hm;exact jM (n:=1) (h' c' (ab7 U)) (by decide) (by decide)
 clear c2 L h3;refine am ?_;walk_at"";refine⟨Q.drop 4,10,by rw[show((4:Int))=((4:Nat):Int)from rfl,gj,<-ai1];rfl,by rw[W3];lia,by decide,S.drop.2,λb1 d9 h6 e'=>?_⟩;walk_at"";obtain⟨nw,i0,j'⟩:∃n:Nat,1+a1 / 4 % 8=(n:Int)/\1<=n/\n<=8:=⟨(1+a1 / 4 % 8).toNat,by lia,by lia⟩;refine λhz=>⟨hz,?_⟩;refine aY (λ(c:Nat)=>D.str (tx [c])) (λ_=>true) (λc=>D.str (tx (F5 nw c))) (λO=>∃x,O=[none,some (D.lst (Q.map D.int)),none,none,none,none,none,none,none,none,none,none,none,none,x]) b1 _ _ (λc' U O h1=>?_) ⟨none,rfl⟩ ?_
 ·obtain⟨x,rfl⟩:=h1;refine⟨_,rfl,⟨_,rfl⟩,λQ1 q=>q,λ_ Q2 q=>?_⟩;walk_at"";refine⟨_,d2,?_⟩;walk_at"";rw[i0];exact⟨_,zM (by lia),q⟩
 rw[N0,O8.mpr (λ_ _=>rfl)];obtain⟨W,hW⟩:∃W,W=b1.map λc=>tx (F5 nw c):=⟨_,rfl⟩;have i1:W.length=10:=by rw[hW,E8,d9]
 have f5:W.Nodup:=by
  rw[hW];refine jr (λa b ha hb e=>?_) h6;have e2:=congrArg (λz:Str=>z.cps.toList) e;simp only[fq]at e2;obtain⟨j,rfl⟩:∃j,nw=j+1:=⟨nw-1,by lia⟩;rw[Q7,Q7]at e2;exact(ae8.inj e2).1
 have h0:∀w∈W,aC w=true:=λw hw=>by
  rw[hW]at hw;obtain⟨c',U,rfl⟩:=K5.mp hw;exact jM (e' c' U) (by lia) (by lia)
 rw[show(b1.map λc=>D.str (tx (F5 nw c)))=W.map D.str by rw[hW,Q9];rfl];clear hW;refine am ?_;walk_at"";refine⟨by rw[bW];exact sz3 4,?_⟩;refine lq (λi a' O M'=>∃(g:List (Str×Str)) (x4:Option D),O=[none,some (D.lst (Q.map D.int)),some (D.lst (t.map D.str)),none,x4,none,none,none,none,none,none,none,none,none]/\M'=M/\a'=g.map bL/\g.length=i/\∀p∈g,aC p.1=true/\aC p.2=true) ⟨[],none,rfl,rfl,rfl,rfl,λ_ h=>by cases h⟩ ?_ ?_
 ·rintro i d a' O M' X hd ⟨g,x4,rfl,rfl,rfl,b2,b5⟩ k';obtain⟨hi,rfl⟩:=c8 hd;refine⟨_,rfl,?_⟩;rw[ah3];simp only[xV,if_true];obtain⟨u1,g3,_,_⟩:=u (17+2*(i:Int)) (by lia);obtain⟨u2,d',_,_⟩:=u (18+2*(i:Int)) (by lia);obtain⟨v1,d6,h5⟩:=eI a2 u1;obtain⟨v2,d8,f1⟩:=eI a2 u2;walk_at"";refine⟨_,g3,?_⟩;walk_at"";rw[E8];refine⟨_,if_pos (by lia),?_⟩;walk_at"";rw[h5];refine⟨_,aI (by rw[F7,E4 d6];rfl),?_⟩;refine⟨_,d',?_⟩;walk_at"";refine⟨_,if_pos (by lia),?_⟩;walk_at"";rw[f1];refine⟨_,aI (by rw[F7,E4 d8];rfl),sz3 2,k' _ _ _ ⟨g++[(t[v1],t[v2])],_,rfl,rfl,by rw[L7];rfl,by rw[F2,b2];rfl,bI b5 ⟨o _ (L8 _),o _ (L8 _)⟩⟩⟩
 rintro a' O M' ⟨g,x4,rfl,rfl,rfl,b2,b5⟩;rw[bW]at b2;refine am ?_;walk_at"";refine⟨_,f',?_⟩;walk_at"";obtain⟨n5,e5⟩:∃n:Nat,b9 % 5=(n:Int):=⟨(b9 % 5).toNat,by lia⟩;rw[e5,iP,<-ad1];have b4:(g.take n5).length<=8/\∀p∈g.take n5,aC p.1=true/\aC p.2=true:=⟨by rw[O7];lia,λp hp=>b5 p (ab7 hp)⟩;generalize g.take n5=ord at b4;refine am ?_;walk_at"";refine⟨_,g',?_⟩;walk_at"";rw[E8];refine⟨_,if_pos (by lia),?_⟩;walk_at"";obtain⟨vg,g4,e0⟩:=eI a2 f4;rw[e0];refine⟨_,aI (by rw[F7,E4 g4];rfl),?_⟩;have b3:t[vg]∈t:=L8 _;generalize t[vg]=dZ at b3;refine am ?_;walk_at"";refine⟨_,f3,?_⟩;walk_at"";obtain⟨n6,e6,l6⟩:∃n:Nat,1+b' % 6=(n:Int)/\1<=n/\n<=6:=⟨(1+b' % 6).toNat,by lia,by lia⟩;have a0:∀m:Nat,L2.cP (Q.map D.int) (some (m:Int)) none=(Q.drop m).map D.int:=λm=>by rw[gj,ai1]
 have c6:nK 72 (Q.drop 26):=S.drop;have d5:nK 60 (Q.drop 38):=S.drop;have a3:nK 48 (Q.drop 50):=S.drop;rw[e6,show(26:Int)=((26:Nat):Int)from rfl,a0];refine⟨_,n6,rfl,by rw[c6.1];lia,l6.2,λa9 c3 hG c4=>am ?_⟩;walk_at"";rw[show(38:Int)=((38:Nat):Int)from rfl,a0];refine⟨_,a9,t,ord,dZ,rfl,by rw[d5.1];lia,by lia,by lia,by rw[c3];exact hG,by rw[c3];exact c4,a8,b3,o,by lia,λc5 k0 f8=>am ?_⟩;walk_at"";rw[show(50:Int)=((50:Nat):Int)from rfl,a0];rw[AM,<-List.map_dropLast];refine⟨_,c5.dropLast,rfl,by rw[a3.1];lia,a3.2,by rw[List.length_dropLast];lia,λl a5 h8 e3=>am ?_⟩;walk_at"";refine⟨sz3 0,λp hp=>am ?_⟩;walk_at"";refine⟨sz3 0,λq hq=>am ?_⟩;have N:p≠q:=by
  intro e;rw[e,bb]at hq;cases hq
 have h2:M' q=none:=by rw[bS (U2 N)]at hq;exact hq
 walk_at"";rw[E8,S3];refine⟨by lia,by lia,?_⟩;refine br (λi O M2=>∃(C:List (Str×List Row)) (ch:List Nat) (x4 b8:Option D),O=[some (D.int c),some (D.lst (Q.map D.int)),some (D.lst (t.map D.str)),some (D.lst (W.map D.str)),x4,some (D.lst (g.map bL)),some (D.tup (ord.map bL)),some (D.str dZ),some (D.lst (a9.map stD)),some (D.lst (c5.map aR)),some (D.lst (l.map bZ)),some (D.ref p),some (D.ref q),b8]/\M2=aF (aF M' p (.lst (C.map uK))) q (.lst (b6 ch))/\C.length=i/\ch.length=i/\C.map (·.1)=W.take i/\∀e∈C,Aq e.2) ⟨[],[],_,_,rfl,rfl,rfl,rfl,rfl,λ_ h=>by cases h⟩ ?_ ?_
 ·rintro i d O M2 X hd ⟨C,ch,x4,b8,rfl,rfl,Z,Y,J,b0⟩ k';obtain⟨hi,rfl⟩:=c8 hd;have e1:(aF (aF M' p (.lst (C.map uK))) q (.lst (b6 ch))) p=some (.lst (C.map uK)):=by rw[bS N,bb]
  obtain⟨cu,d4⟩:∃x,l[i]?=some x:=⟨_,E4 hi⟩;have d1:atI (l.map bZ) (i:Int)=some (bZ cu):=aI (by rw[F7,d4];rfl);have a4:=K7 d4;have d0:cu.length<=5/\o7 cu:=⟨e3 cu a4,λs hs=>f8 s (List.dropLast_subset _ (by rw[<-a5];exact List.mem_flatten.mpr ⟨cu,a4,hs⟩))⟩;obtain⟨wd,d3⟩:∃x,W[i]?=some x:=⟨_,E4 (by lia)⟩;have h4:atI (W.map D.str) (i:Int)=some (D.str wd):=aI (by rw[F7,d3];rfl);refine⟨_,rfl,?_⟩;rw[ah3];walk_at"";refine⟨_,d1,?_⟩;rw[show(58:Int)+5*(i:Int)=((58+5*i:Nat):Int)by lia,a0];refine⟨cu,_,t,rfl,by rw[W3];lia,λx hx=>S.2 x (List.mem_of_mem_drop hx),a2,a8,d0,o,λks c1 c0 f2 f6=>am ?_⟩;walk_at"";refine⟨_,e1,_,h4,sz3 2,_,e1,by rw[E8,Z];exact H0 (by lia:i<1000) (sz3 1000),am ?_⟩;obtain⟨j,ij,hj⟩:=vq c0 c1;rw[dB N,eX,dB (U2 N)];walk_at"";refine⟨_,rfl,_,d1,j,ij,by rw[b6,E8,Y];exact H0 (by lia:i<1000) (sz3 1000),k' _ _ ⟨C++[(wd,ks)],ch++[j],_,_,rfl,?_,by rw[F2,Z];rfl,by rw[F2,Y];rfl,by rw[L7,J,W8,d3];rfl,bI b0 ⟨List.length_pos_of_mem c1,c0,f2,f6⟩⟩⟩;rw[L7,b6,b6,L7];rfl
 ·rintro O M2 ⟨C,ch,x4,b8,rfl,rfl,Z,Y,J,b0⟩;rw[bW]at Z Y J;refine am ?_;walk_at"";have h7:rdM (aF (aF M' p (.lst (C.map uK))) q (.lst (b6 ch))) (.ref p)=.lst (C.map uK):=kE (by rw[bS N,bb]);rw[h7];walk_at"";refine⟨sz3 3,sz3 2,sz3 3,M',Cr hp h2,?_⟩;have e:C.map uK=(C.map λe=>(D.str e.1,dO e.2)).map eD:=by rw[Q9];rfl
  rw[e];have j2:1<=l.length:=by
   cases l with
   |nil =>
    have:=congrArg X9 a5;rw[List.length_dropLast]at this;simp at this;lia
   |cons _ _=>simp
  refine k _ dZ _ _ _ (Di b4.1 b4.2 (o _ b3) (by lia) (by lia) ?_ λe he=>⟨?_,b0 e he⟩)
  ·rw[J];exact f5.sublist (List.take_sublist _ _)
  ·have:e.1∈W.take l.length:=by rw[<-J];exact List.mem_map_of_mem he
   exact h0 _ (ab7 this)
theorem rH{ds:List D}{i:Int}(h0:0<=i)(b:i<(ds.length:Int)):∃d∈ds,atI ds i=some d:=by
 obtain⟨n,rfl⟩:=ad2 h0;have a:n<ds.length:=by lia
 exact⟨ds[n],L8 a,aI (by rw[E4 a])⟩
theorem j0{a xs:List Int}(h:xR a xs){i:Nat}{s:Int}(hs:a[i]?=some s):∃x,xs[i]?=some x/\atI (xs.map D.int) (i:Int)=some (.int x)/\0<=x/\x<s:=by
 have b:i<xs.length:=by rw[h.1];exact(J4.mp hs).1
 have e:=E4 b;exact⟨_,e,aI (by rw[F7,e];rfl),h.2 i _ _ e hs⟩
def sj:SpD:=λb M R=>∃(e:List Int) (a:List Str),b=[.lst (e.map D.int),.lst (a.map D.str),.int 6]/\1<=e.length/\1<=a.length/\(∀m∈a,aC m=true)/\∀d,ak d=true->(∃b,d=.tup b)->R d M
theorem w9(F:Fun K "_law_row" "_law_row" kF f G)(T:Txt B):aP P w K B base CX0 1 f G ["_law_xs","_law_marks","_law_most_here"] (spD K 3 sj):=by
 have X:=pe.nd;refine F.okR rfl pe (λN A h s H E U=>⟨_,(aq (aZ (bh ck rfl T.b_tuple (by kernel_rfl) (ae (ic (ms:=[false,true,false]) (ar:=["_law_x"]) (aD rfl (show aO (ai kF) nN _ _=true from by decide +kernel)) rfl (aQ (aU (af 0) (a6 ag) (a6 (aA bz ag (aA bc (ay az (af 0) ag (λ_ _=>rfl)) (aA bz (af 2) ag)))))) (aJ (i:=3) (show(nN++_).Nodup from by decide +kernel) rfl rfl) (λ_ _ _ _=>bR) (λ_ _ _ _=>(aL (ae (ay az (af 1) (aA bc (af 3) (au aT rfl T.b_len (by kernel_rfl) (ae (af 1) ah))) (λ_ _=>rfl)) (ae (aA kc (aA bc (aA eM (af 3) ag) ag) ag) ah))))) ah)))),λO M R _ t bk=>?_⟩);obtain⟨g,a,rfl,Y,Q,I,k⟩:=t;obtain⟨n,J⟩:∃x,g[0]?=some x:=⟨_,E4 (by lia)⟩;refine bk ?_;clear bk;walk_at"";refine⟨_,(show atI (g.map D.int) ((0:Nat):Int)=some (D.int n)from aI (by rw[F7,J];rfl)),?_⟩;walk_at"";obtain⟨C,m,z,p⟩:=rT (xs:=g) (lo:=some 1) (hi:=some (1+n % 7));rw[m];refine λu=>⟨u,?_⟩;refine aY D.int (λ_=>true) (λx=>aR (a.getD (x % (a.length:Int)).toNat "",x / 8 % 4-1)) (λo=>∃x,o=[none,some (D.lst (a.map D.str)),none,x]) C _ _ (λx L o j=>?_) ⟨none,rfl⟩ ?_
 ·obtain⟨x1,rfl⟩:=j;refine⟨_,rfl,⟨_,rfl⟩,λQ1 q=>q,λ_ S q=>?_⟩;obtain⟨v,e,b⟩:=eI (l:=a) (by lia) x;walk_at"";rw[E8];refine⟨_,if_pos (by lia),?_⟩;walk_at"";rw[b];refine⟨_,aI (by rw[F7,E4 e];rfl),?_⟩;refine⟨sz3 2,?_⟩;rw[b,S3]at q;simp only[L9,E4 e,Option.getD_some]at q;exact q
 rw[N0,O8.mpr (λ_ _=>rfl)];refine k _ (i7 λx Z=>?_) ⟨_,rfl⟩;obtain⟨v,e,b⟩:=eI (l:=a) (by lia) x;rw[b,S3,L9,E4 e];exact mh (cD (I _ (L8 _))) rfl
def fN:SpD:=λe M R=>∃(b:List Int) (a:List Str),e=[.lst (b.map D.int),.lst (a.map D.str)]/\xR (F5 36 720720++[3,26,8,16,6]) b/\1<=a.length/\(∀m∈a,aC m=true)/\∀d,ak d=true->R d M
theorem jD(F:Fun K "_law_drawn_kinds" "_law_drawn_kinds" cj f G)(T:Txt B)(a2:FnD P w K B base "_law_row" 1 3 sj):aP P w K B base CX0 2 f G ["_law_xs","_law_marks"] (spD K 2 fN):=by
 have nd:=eP.nd;refine F.okR rfl eP (λa4 A Y s H E Z=>⟨_,(aj (vR (i:=2) nd rfl rfl rfl (ms:=[true,true,false,false]) (ar:=["_law_k"]) (aD rfl (show aO (ai cj) c9 _ _=true from by decide +kernel)) rfl (fv rfl T.b_range (ae (aA bz ag (aA bc (ay az (af 0) ag (λ_ _=>rfl)) ag)) ah)) (aJ (i:=4) (show(c9++_).Nodup from by decide +kernel) rfl rfl) (λ_ _ _ _=>bR) (λ_ _ _ _=>(qd a2 Z (ae (aU (af 0) (a6 (aA bz ag (aA bY ag (af 4)))) (a6 (aA bz ag (aA bY ag (af 4))))) (ae (af 1) (ae ag ah))))))
   (aB (aj (bC (aK (gJ Z.units) (aA bc (aA eM (ay az (af 0) ag (λ_ _=>rfl)) ag) ag) ag nbh) (aq (cQ (fO (af 2) (ay az (af 2) ag (λ_ _=>rfl))))) bg)
   (aB (aj (aE (i:=3) nd rfl (N8 rfl) (dS (ae (aL ah) (ae tZ (ae (bh oO rfl T.b_list (by kernel_rfl) (ae (af 2) ah)) (ae (aL (ae (bh oO rfl T.b_list (by kernel_rfl) (ae (ay az (af 2) ag (λ_ _=>rfl)) ah)) ah)) (ae (aL (ae (aL (ae (aL (ae bp (ae ag ah))) ah)) ah)) (ae (aL (ae (aL (ae (aL (ae bp (ae lB ah))) ah)) ah)) (ae (aL (ae (aL (ae (aL (ae bp (ae ag ah))) ah)) ah)) (ae bp (ae (aL (ae tZ ah)) ah)))))))))))
   (aB (aj (bC (aK (gJ Z.units) (aA bc (aA eM (ay az (af 0) ag (λ_ _=>rfl)) ag) ag) ag nbh) (aq (gI (ay az (af 3) (aA bc (aA eM (ay az (af 0) ag (λ_ _=>rfl)) ag) ag) (λ_ _=>rfl)))) bg)
   (aq (gI (bh ck rfl T.b_tuple (by kernel_rfl) (ae (af 2) ah))))))))))),λe M R _ hS bk=>?_⟩)
 obtain⟨J,L,rfl,hx,hm,hs,k⟩:=hS;obtain⟨N,h0,j,b0,c0⟩:=j0 (i:=0) hx rfl;refine bk ?_;clear bk;have a5:J.length=41:=hx.1;walk_at"";refine⟨_,j,?_⟩;walk_at"";obtain⟨n,en,ln⟩:∃n:Nat,1+N % 5=((n+1:Nat):Int)/\n<=4:=⟨(N % 5).toNat,by lia,by lia⟩;rw[en,S3];refine⟨by lia,by lia,by rw[bW];exact sz3 _ (by lia),?_⟩;refine lq (λi b U o=>o=M/\(∃y,U=[some (D.lst (J.map D.int)),some (D.lst (L.map D.str)),none,none,y])/\b.length=i/\∀d∈b,ak d=true/\∃e,d=.tup e) ⟨rfl,⟨none,rfl⟩,rfl,λ_ h=>by cases h⟩ ?_ ?_
 ·rintro i d b U o X a ⟨rfl,⟨y,rfl⟩,q,l⟩ k';obtain⟨hi,rfl⟩:=c8 a;refine⟨_,rfl,?_⟩;simp only[xV];walk_at"";rw[ah3,show(1:Int)+7*(i:Int)=((1+7*i:Nat):Int)by lia,show(8:Int)+7*(i:Int)=((8+7*i:Nat):Int)by lia];have ec:L2.cP (J.map D.int) (some ((1+7*i:Nat):Int)) (some ((8+7*i:Nat):Int))=((J.take (8+7*i)).drop (1+7*i)).map D.int:=by
   unfold L2.cP;rw[HT.sIx_nat,HT.sIx_nat,an0 (by rw[E8];lia),an0 (by rw[E8];lia),ai1,ad1,List.drop_take]
  rw[ec];refine⟨_,L,rfl,by rw[W3,O7];lia,hm,hs,λd S O=>k' _ _ _ ⟨rfl,⟨_,rfl⟩,by rw[F2,q];rfl,bI l ⟨S,O⟩⟩⟩
 rintro b U o ⟨rfl,⟨y,rfl⟩,q,l⟩;rw[bW]at q;intro p hp;refine am (lA (λt M2=>∃j g,t=[some (D.lst (J.map D.int)),some (D.lst (L.map D.str)),some (D.ref p),none]/\M2=aF o p (.lst (j::g))/\(j::g).length<=6/\∀d∈j::g,ak d=true/\∃e,d=.tup e) (λnx I=>?_) ?_)
 ·match b,q,l with
  |u::g,q,l =>
   simp only[O0]at q;walk_at"";refine⟨_,j,?_⟩;walk_at"";refine a7 (λh=>?_) (λh=>I _ _ ⟨u,g,rfl,rfl,by rw[O0];lia,l⟩);refine⟨H0 (by lia:_<1000) (sz3 1000),I _ _ ⟨u,g++[u],rfl,rfl,by rw[O0,F2];simp;lia,λd a=>?_⟩⟩;rw[<-List.cons_append]at a;exact bI l (l u (.head _)) d a
 rintro t M2 ⟨u,g,rfl,rfl,a3,m⟩;obtain⟨gu,C,rfl⟩:=m u (.head _);refine am ?_;walk_at"";refine⟨sz3 0,_,rfl,_,rfl,sz3 1,sz3 2,sz3 1,sz3 1,sz3 2,sz3 1,sz3 1,sz3 2,sz3 1,sz3 1,sz3 1,sz3 9,am ?_⟩;walk_at"";refine⟨_,j,?_⟩;walk_at"";have hg:∀e:List D,(∀d∈e,ak d=true)->ak (.lst e)=true:=λe h=>by show bO e=true;exact bw.mpr h
 have Q:ak (.lst C)=true:=gu;refine a7 (λh=>?_) (λh=>?_)
 ·refine⟨_,j,?_⟩;walk_at"";have z:∀d∈[D.tup [],D.non,D.lst (D.tup C::g),D.tup [D.lst C],D.tup [D.tup [D.tup [D.str (J5 "a"),D.int 100]]],D.tup [D.tup [D.tup [D.str (J5 "a"),D.bl true]]],D.tup [D.tup [D.tup [D.str (J5 "A"),D.int 0]]],D.str (J5 "ab"),D.tup [D.non]],ak d=true:=by
   intro d a;simp only[J3,T7,or_false]at a;rcases a with rfl|rfl|rfl|rfl|rfl|rfl|rfl|rfl|rfl
   ·rfl
   ·rfl
   ·exact hg _ λd a=>(m d a).1
   ·simpa[ak,bO]using Q
   ·rfl
   ·rfl
   ·rfl
   ·rfl
   ·rfl
  obtain⟨d,a,a1⟩:=rH (ds:=[D.tup [],D.non,D.lst (D.tup C::g),D.tup [D.lst C],D.tup [D.tup [D.tup [D.str (J5 "a"),D.int 100]]],D.tup [D.tup [D.tup [D.str (J5 "a"),D.bl true]]],D.tup [D.tup [D.tup [D.str (J5 "A"),D.int 0]]],D.str (J5 "ab"),D.tup [D.non]]) (i:=N / 96 % 9) (by lia) (by show N / 96 % 9<9;lia);exact⟨_,a1,o,fb hp,k d (z d a)⟩
 ·exact⟨o,fb hp,k _ (by show bO _=true;exact bw.mpr λd a=>(m d a).1)⟩
def qH:SpD:=λe M R=>∃(a:Str) (o g:D) (b:List (D×D)) (w k:D),e=[.str a,lxD o g b,w,k]/\ak w=true/\ak k=true/\gB o g b/\(a="put"->R (k6 o g b w k) M)/\(a="take"->∃x,w=.str x/\R (mB o g b x) M)/\(a="put"∨a="take")
theorem uX(F:Fun K "_law_seen" "_law_seen" kU f G)(T:Txt B){t q W O:F4}(Y:rQ K B t q W O)(N:FnY P w K B base "put_in" 11 3 kS [t,q])(Y4:FnY P w K B base "taken_out" 11 2 ir [t,q]):aP P w K B base CX0 12 f G ["_law_how","_law_lexicon","_law_word","_law_kinds_here"] (spD K 4 qH):=by
 have m:=mX.nd;refine F.okR rfl mX (λa0 A Q s H E L=>⟨_,(aj (aE (i:=4) m rfl (N8 rfl) tZ)
   (aj (BN (j:=5) (λ_ _ h=>h) rfl rfl rfl rfl Y.gH Y.lC Y.lW m rfl rfl (CH (λ_ _ h=>h) (aK (gJ L.units) (af 0) bp nbh) (vv 4 m rfl (N8 rfl) (sv N (L.mono (by decide)) rfl (λ_ _ h=>h) (ae (af 1) (ae (af 2) (ae (af 3) ah))))) (vv 4 m rfl (N8 rfl) (sv Y4 (L.mono (by decide)) rfl (λ_ _ h=>h) (ae (af 1) (ae (af 2) ah))))) λa=>(aj (aE (i:=4) m rfl (N8 rfl) bp)
   (aj (aE (i:=6) m rfl (N8 rfl) (dS (ae (lL Y.z rfl T.b_isinstance rfl Y.k_NoDrawing (af 5)) (ae (lL Y.z rfl T.b_isinstance rfl Y.k_NoWorld (af 5)) ah))))
   (aq (bC (jw (iI (bN (Cb Y.z rfl T.b_isinstance rfl T.b_ValueError rfl Y.k_ValueError (af 5))) (iI (cq (bN (BX (Cs:=[t,q]) (a:=a) rfl rfl T.b_any (af 6)))) (g8 (aK (nR L.units) (lL Y.z rfl T.b_isinstance rfl Y.k_NoLexicon (af 5)) (lL Y.z rfl T.b_isinstance rfl Y.k_NoWord (af 5)) nbh))))) (aj (aE (i:=4) m rfl (N8 rfl) bp)
   (aq (bC (bN (lL Y.z rfl T.b_isinstance rfl Y.k_NoWord (af 5))) (aq (aE (i:=4) m rfl (N8 rfl) (aL (ae bp (ae (CV (Cs:=[t,q]) 0 rfl (Y.z _ (by simp)) Y.g0 (af 5)) ah))))) bg))) bg)))))
   (aq (aZ (af 4))))),λds M R _ hS bk=>?_⟩)
 obtain⟨C,o,g,Z,w,k,rfl,hw,hk,he,n,S,k3⟩:=hS;refine bk ?_;clear bk;walk_at"";unfold k6 at n;unfold mB at S;refine a7 (λh=>?_) (λh=>?_)
 ·obtain rfl:C="put":=by simpa using h
  have n:=n rfl;refine⟨o,g,Z,w,k,rfl,hw,hk,he,λh=>⟨λ_=>?_,λi x e=>?_⟩,λh=>⟨λe=>?_,λi x e a l=>?_⟩⟩
  ·rw[if_pos h]at n;exact n
  ·cases e
  ·rw[dg]at e;cases e
  ·rw[dg]at e;cases e;refine⟨_,_,rfl,_,_,rfl,sz3 2,_,_,rfl,?_⟩;rw[if_pos (by rfl)];refine⟨_,_,rfl,rfl,?_⟩;rw[if_pos (by rfl)];refine⟨_,_,rfl,_,_,rfl,?_⟩;rw[if_pos (by rfl)];refine⟨_,_,rfl,?_⟩;rw[if_neg (by decide)];rw[if_neg (by rw[h];decide)]at n;exact⟨M,fb l,n⟩
 ·obtain rfl:C="take":=by
   rcases k3 with z|z
   ·exact absurd (by rw[z];rfl) h
   ·exact z
  obtain⟨x,rfl,p⟩:=S rfl;clear S;refine⟨o,g,Z,x,rfl,hw,he,λh U X=>⟨λe=>?_,λi y e a l=>?_⟩,λh=>⟨λI=>⟨λ_=>?_,λi y e=>?_⟩,λI=>⟨λe=>?_,λi y e a l=>?_⟩⟩⟩
  ·rw[dg]at e;cases e
  ·rw[dg]at e;cases e;refine⟨_,_,rfl,_,_,rfl,sz3 2,_,_,rfl,?_⟩;rw[if_pos (by rfl)];refine⟨_,_,rfl,rfl,?_⟩;rw[if_pos (by rfl)];refine⟨_,_,rfl,_,_,rfl,?_⟩;rw[if_pos (by rfl)];refine⟨_,_,rfl,?_⟩;rw[if_pos (by rfl)];rw[if_neg (by rw[h];decide)]at p;have J:U≠a:=λz=>by rw[<-z,bb]at l;cases l
   exact⟨U,rfl,_,by rw[bS J,bb],sz3 2,M,λb u e=>by
    have h1:b≠U:=λz=>by rw[z,X]at e;cases e
    have I:b≠a:=λz=>by rw[z]at e;rw[bS (U2 J)]at l;rw[l]at e;cases e
    rw[bS I,bS h1];exact e,p⟩
  ·rw[if_pos h,if_pos I]at p;exact p
  ·cases e
  ·rw[dg]at e;cases e
  ·rw[dg]at e;cases e;refine⟨_,_,rfl,_,_,rfl,sz3 2,_,_,rfl,?_⟩;rw[if_pos (by rfl)];refine⟨_,_,rfl,rfl,?_⟩;rw[if_pos (by rfl)];refine⟨_,_,rfl,_,_,rfl,?_⟩;rw[if_pos (by rfl)];refine⟨_,_,rfl,?_⟩;rw[if_neg (by decide)];rw[if_pos h,if_neg (by rw[I];decide)]at p;exact⟨M,fb l,p⟩
theorem g6{ds:List D}{n:Nat}(h:∀d∈ds,dLe d n=true):bJ ds n=true:=dG.mpr h
theorem gf{d:D}(n:Nat)(h:aH d=true):dLe d n=true:=by
 obtain⟨x,rfl,_⟩:=cO h;cases n<;>rfl
theorem zf{d:D}(n:Nat)(h:bX d=true):dLe d (n+1)=true:=by
 match d,h with
 |.tup [a,b],h =>
  simp only[bX,F8]at h;have e:dLe b n=true:=by
   cases b with
   |int _=>cases n<;>rfl
   |_=>cases h.2
  show bJ [a,b] n=true;simp only[bJ,gf n h.1,e,af6]
theorem BH{d:D}(n:Nat)(h:cS d=true):dLe d (n+2)=true:=by
 cases d with
 |tup b =>
  simp only[cS,F8]at h;exact g6 λd a=>zf n (J7.mp h.1 d a)
 |_=>cases h
theorem AH{d:D}(n:Nat)(h:ie d=true):dLe d (n+3)=true:=by
 cases d with
 |tup b =>
  simp only[ie,F8]at h;exact g6 λd a=>BH n (J7.mp h.1.2 d a)
 |_=>cases h
theorem ye{d:D}(n:Nat)(h:iH d=true):dLe d (n+1)=true:=by
 match d,h with
 |.tup [a,b],h =>
  simp only[iH,F8]at h;show bJ [a,b] n=true;simp only[bJ,gf n h.1,gf n h.2,af6]
theorem Bi{d:D}(n:Nat)(h:ky d=true):dLe d (n+2)=true:=by
 cases d with
 |tup b =>
  simp only[ky,F8]at h;exact g6 λd a=>ye n (J7.mp h.2 d a)
 |_=>cases h
theorem zX{o g:D}{b:List (D×D)}(i:ky o=true)(hg:aH g=true)(he:b.all enB=true):dLe (lxD o g b) 60=true:=by
 refine g6 λd a=>?_;simp only[J3,T7,or_false]at a;rcases a with rfl|rfl|rfl
 ·exact Bi 57 i
 ·exact gf 59 hg
 ·refine g6 (n:=58) λd a=>?_;obtain⟨p,e,rfl⟩:=K5.mp a;have h:=J7.mp he p e;simp only[enB,F8]at h;refine g6 (n:=57) λd a=>?_;simp only[J3,T7,or_false]at a;rcases a with rfl|rfl
  ·exact gf 57 h.1
  ·exact AH 54 h.2
theorem jJ:∀{ds:List D},(∀d∈ds,eqD d d=true)->cZ ds ds=true
 |[],_=>by simp[cZ]
 |d::ds,h=>by rw[cZ,h d (.head _),jJ λe a=>h e (.tail _ a)];rfl
theorem lQ:∀(n:Nat) {d:D},dLe d n=true->eqD d d=true
 |0,d,h=>by cases d<;>first|(simp[dLe]at h;done)|simp[eqD]
 |n+1,d,h=>by
  cases d with
  |tup b=>simp only[eqD];exact jJ λd a=>lQ n (dG.mp h d a)
  |lst b=>simp only[eqD];exact jJ λd a=>lQ n (dG.mp h d a)
  |_=>first|(simp[dLe]at h;done)|simp[eqD]
theorem su{d:D}(h:dLe d 60=true):neF d d=some (.bl false):=by
 unfold neF;rw[if_pos ⟨h,h⟩,lQ 60 h];rfl
theorem Bk{o g:D}{a:List (D×D)}{w k:D}(he:gB o g a):neF (k6 o g a w k) (k6 o g a w k)=some (.bl false):=by
 refine su ?_;unfold k6
 split
 ·rename_i h;exact zX he.o2 he.g2 (aV.mp h).2.1
 ·rfl
theorem BV{o g:D}{a:List (D×D)}{x:Str}(he:gB o g a):neF (mB o g a x) (mB o g a x)=some (.bl false):=by
 refine su ?_;unfold mB
 split
 ·split
  ·rename_i h;exact zX he.o2 he.g2 (aV.mp h).2.1
  ·rfl
 ·rfl
theorem Au{o g:D}{a:List (D×D)}{w k:D}{M:DH}:rdM M (k6 o g a w k)=k6 o g a w k:=by
 unfold k6 lxD
 split<;>rfl
theorem Al{o g:D}{a:List (D×D)}{x:Str}{M:DH}:rdM M (mB o g a x)=mB o g a x:=by
 unfold mB lxD
 split
 ·split<;>rfl
 ·rfl
theorem CP:kX (.lst [.int 720720]) (.int 36)=some (.lst ((F5 36 (720720:Int)).map D.int)):=by
 have e:kX (.lst [.int 720720]) (.int 36)=if -(2 ^ 63)<=(36:Int)/\(36:Int)<2 ^ 63/\[D.int 720720].length*(36:Int).toNat<=F9 then some (.lst (F5 (36:Int).toNat [D.int 720720]).flatten)else none:=rfl
 rw[e,if_pos ⟨by decide,by decide,sz3 36⟩];rfl
theorem D9:mE (.lst ((F5 36 (720720:Int)).map D.int)) (.lst [.int 3,.int 26,.int 8,.int 16,.int 6])=some (.lst ((F5 36 (720720:Int)++[3,26,8,16,6]).map D.int)):=by
 rw[tU,if_pos (by simp;exact sz3 41),L7];rfl
def nmq(k:Nat):Str:=J5 "q"++tx [97+k]++J5 "zy"
theorem EE:∀{k:Nat},k<10->atI (J5 "abcdefghijklmnop").cps.toList (k:Int)=some (97+k)/\aC (nmq k)=true:=by
 have h:∀k:Fin 10,atI (J5 "abcdefghijklmnop").cps.toList ((k.1:Nat):Int)=some (97+k.1)/\aC (nmq k.1)=true:=by decide +kernel
 intro k hk;exact h ⟨k,hk⟩
theorem C4{z:Str}{i:Int}{c:Nat}(a:z.length<=1000)(h:atI z.cps.toList i=some c):ixD (.str z) (.int i)=some (.str (tx [c])):=by
 show(if z.length<=F9 then(atI z.cps.toList i).map λc=>D.str ⟨#[c]⟩else none)=_;rw[if_pos (sz3 _ a),h];rfl
theorem z5{a b:Str}(ha:a.length<=400)(e:b.length<=400):mE (.str a) (.str b)=some (.str (a++b)):=by
 rw[sH,if_pos (sz3 _ (by lia))]
theorem Br{n:Nat}(h:n<26):ixD (.str (J5 "abcdefghijklmnopqrstuvwxyz")) (.int (n:Int))=some (.str (tx [97+n]))/\97+n∈cH:=by
 refine⟨C4 (by decide) ?_,by simp[cH,List.mem_range'];lia⟩;rw[show(J5 "abcdefghijklmnopqrstuvwxyz").cps.toList=cH from oS];exact aI (by rw[cH,List.getElem?_range' h];simp)
def knq(k:Nat):D:=.tup [.tup [.tup [.str (J5 "n"),.int (k:Int)]]]
theorem Bq{k:Nat}(h:k<10):ak (knq k)=true/\ie (knq k)=true:=by
 refine⟨rfl,?_⟩;have e:cS (.tup [.tup [.str (J5 "n"),.int (k:Int)]])=true:=by
  have:aC (J5 "n")=true:=by decide +kernel
  simp only[cS,V6,List.all_nil,bX,aH,iW,this,O3,ai2,F8,decide_eq_true_eq,O0,ae7]
  lia
 simp only[knq,ie,V6,List.all_nil,e,ju,T4,T7,not_false_eq_true,ak3,and_self,decide_true,O0,ae7,ai2];rfl
theorem y3{o g:D}{e:List (D×D)}{x:Str}{k:D}(h:gB o g e)(i:aC x=true)(j:ak k=true/\ie k=true)(t:e.length<10)(hn:D.str x∉e.map (·.1)):gB o g (e++[(.str x,k)]):=by
 obtain⟨⟨q,s⟩,p,l⟩:=aV.mp h.ok;refine⟨h.o1,h.o2,h.g1,h.g2,bI h.gd ⟨cD i,j.1⟩,aV.mpr ⟨⟨?_,?_⟩,?_,?_⟩⟩
 ·rw[F2];lia
 ·rw[F2,aa9];lia
 ·rw[List.all_append,p,V6,List.all_nil];simp only[enB,aH,i,j.2,af6]
 ·rw[L7,V1];refine⟨l,by simp,λa n b m=>?_⟩;obtain rfl:b=.str x:=by simpa using m
  rintro rfl;exact hn n
def S_law:SpD:=λe M R=>∃a:List Int,e=[.scr (a.map .int)]/\M=noM/\a.length<=63/\∀b,R (.bl true) b
theorem As(F:Fun K "law" "law" pL f G)(T:Txt B)(G9:FnD P w K B base "_law_parts" 1 2 jY)(Y1:FnD P w K B base "_law_drawn_kinds" 2 2 fN)(Y9:FnD P w K B base "_law_sentence" 3 1 iX)(b0:FnD P w K B base "_law_seen" 12 4 qH)(d9:FnD P w K B base "_law_due" 4 3 tH)(d7:FnD P w K B base "_law_out" 1 2 so):aP P w K B base CX0 13 f G ["_law_script"] (spD K 1 S_law):=by
 have L:=vA.nd;refine F.okR rfl vA (λe6 A c2 s H E Q=>⟨_,(aj (fQ R7 rfl (aQ (aA bz (bh oO rfl T.b_list (by kernel_rfl) (ae (aU (af 0) bF (a6 ag)) ah)) (dS (ae ag ah)))) (bv (i:=1) L rfl (N8 rfl)) (aj (aE (i:=2) L rfl (N8 rfl) (ay az (qd Y9 Q (ae (af 1) ah)) ag (λ_ _=>rfl)))
   (aB (aj (aE (i:=3) L rfl (N8 rfl) (qd G9 Q (ae (aA eM (au DN rfl T.b_abs (by kernel_rfl) (ae (af 1) ah)) ag) (ae (aA bz (aA bY (dS (ae ag ah)) ag) (dS (ae ag (ae ag (ae ag (ae ag (ae ag ah))))))) ah))))
   (aB (aj (fQ R7 rfl (fv rfl T.b_range (ae (ay az (dS (ae ag (ae ag (ae ag (ae ag (ae ag (ae ag ah))))))) (ay az (af 3) ag (λ_ _=>rfl)) (λ_ _=>rfl)) ah)) (bv (i:=4) L rfl (N8 rfl)) (aq (bC (aK yB (au aT rfl T.b_len (by kernel_rfl) (ae (ay az (af 2) ag (λ_ _=>rfl)) ah)) (ay az (dS (ae ag (ae ag (ae ag (ae ag (ae ag (ae ag ah))))))) (ay az (af 3) ag (λ_ _=>rfl)) (λ_ _=>rfl)) nbh) (aj (aE (i:=5) L rfl (N8 rfl) (aA bz (aA bz bp (ay az bp (af 4) (λ_ _=>rfl))) bp))
   (aq (bC (aK lD (af 5) (ic (ms:=[false,false,false,false,false,false,false,false,false,false,false]) (ar:=["_law_other","_law_old"]) (aD (n0:=0) rfl (show aO (ai pL) lX _ _=true from by decide +kernel)) rfl (aQ (ay az (af 2) ag (λ_ _=>rfl))) (jT (n:=2) rfl (cn (aJ (i:=11) (show(lX++_).Nodup from by decide +kernel) rfl rfl) (cn (aJ (i:=12) (show(lX++_).Nodup from by decide +kernel) rfl rfl) jU))) (λ_ _ _ _=>bR) (λ_ _ _ _=>(af 11))) rfl) (aq (aE (i:=2) L rfl (N8 rfl) (aL (ae (ay az (af 2) ag (λ_ _=>rfl)) (ae (ay az (af 2) ag (λ_ _=>rfl)) (ae (aA bz (ay az (af 2) ag (λ_ _=>rfl)) (aL (ae (aL (ae (af 5) (ae (aL (ae (aL (ae (aL (ae bp (ae (af 4) ah))) ah)) ah)) ah))) ah))) ah)))))) bg))) bg)))
   (aB (aj (gU (i:=6) L rfl rfl rfl (ms:=[false,false,false,false,false,false,false,false,false,false,false]) (ar:=["_law_other","_law_old"]) (aD (n0:=0) rfl (show aO (ai pL) lX _ _=true from by decide +kernel)) rfl (aQ (ay az (af 2) ag (λ_ _=>rfl))) (jT (n:=2) rfl (cn (aJ (i:=11) (show(lX++_).Nodup from by decide +kernel) rfl rfl) (cn (aJ (i:=12) (show(lX++_).Nodup from by decide +kernel) rfl rfl) jU))) (λ_ _ _ _=>bR) (λ_ _ _ _=>(af 11)))
   (aB (aj (aE (i:=7) L rfl (N8 rfl) (dS (ae (ay az (af 2) ag (λ_ _=>rfl)) (ae bp (ae bp ah)))))
   (aB (aj (aE (i:=8) L rfl (N8 rfl) (ay az (dS (ae bp (ae (dS (ae bp ah)) (ae tZ (ae ag (ae lB (ae (aL ah) (ae (aL (ae bp ah)) (ae bp (ae bp (ae bp (ae Ce (ae bp ah))))))))))))) (aA bc (ay az (af 3) ag (λ_ _=>rfl)) ag) (λ_ _=>rfl)))
   (aB (aj (aE (i:=9) L rfl (N8 rfl) (ay az (dS (ae (ay az (af 6) (aA bc (ay az (af 3) ag (λ_ _=>rfl)) (au aT rfl T.b_len (by kernel_rfl) (ae (af 6) ah))) (λ_ _=>rfl)) (ae (aA bY (ay az bp (ay az (af 3) ag (λ_ _=>rfl)) (λ_ _=>rfl)) (aA bz ag (ay az (af 3) ag (λ_ _=>rfl)))) (ae (af 8) ah)))) (ay az (af 3) ag (λ_ _=>rfl)) (λ_ _=>rfl)))
   (aB (aj (aE (i:=10) L rfl (N8 rfl) (qd Y1 Q (ae (af 3) (ae (af 7) ah))))
   (aB (aj (bC (aK (nR Q.units) (qd b0 Q (ae bp (ae (af 2) (ae (af 9) (ae (af 10) ah))))) (qd d9 Q (ae (af 2) (ae (af 9) (ae (af 10) ah)))) nbh) (aq (aZ lB)) bg)
   (aB (aq (bC (jw (iI (bN (dD (Tn:="str") (by decide) rfl T.b_isinstance rfl T.b_str (by kernel_rfl) (af 9))) (g8 (aK (nR Q.units) (qd b0 Q (ae bp (ae (af 2) (ae (af 9) (ae (af 10) ah))))) (qd d7 Q (ae (af 2) (ae (af 9) ah))) nbh)))) (aq (aZ lB)) bg)))))))))))))))))))))
   (aq (aZ lB))),λds M R _ hS bk=>?_⟩)
 obtain⟨ns,rfl,rfl,hn,k⟩:=hS;refine bk ?_;clear bk;walk_at"";obtain⟨ys,d',e1⟩:∃ys:List Int,L2.cP (ns.map D.int) none (some 10)=ys.map D.int/\ys.length<=10:=⟨ns.take 10,by rw[show(10:Int)=((10:Nat):Int)from rfl,iP,ad1],by rw[O7];lia⟩;rw[d'];refine⟨_,rfl,sz3 1,_,if_pos (sz3 _ (by simp;lia)),_,rfl,λhz=>?_⟩;rw[show ys.map D.int++[D.int 0]=(ys++[0]).map D.int by rw[L7];rfl];refine br (λi C M'=>∃x1 x2 x3 x4 x5 x6 x7 x8 x9 O,C=[some (D.scr (ns.map D.int)),x1,x2,x3,x4,x5,x6,x7,x8,x9,O]) ⟨_,_,_,_,_,_,_,_,_,_,rfl⟩ ?_ ?_
 ·rintro i d C M X hd ⟨x1,x2,x3,x4,x5,x6,x7,x8,x9,O,rfl⟩ k';obtain⟨c,hc,rfl⟩:=fD hd;refine⟨_,rfl,?_⟩;walk_at"";refine⟨c,rfl,λo g j x y t=>?_⟩;simp only[lxD];walk_at"";refine am ?_;walk_at"";refine⟨sz3 1,_,CP,sz3 5,_,D9,_,_,rfl,by decide,by decide,λxs hx=>am ?_⟩;obtain⟨f0,_,d0,c',d5⟩:=j0 (i:=36) hx rfl;obtain⟨a8,_,b2,c5,e'⟩:=j0 (i:=37) hx rfl;obtain⟨e5,_,b5,d4,f2⟩:=j0 (i:=38) hx rfl;obtain⟨b',_,d2,f1,e3⟩:=j0 (i:=39) hx rfl;obtain⟨u,_,a9,e2,f4⟩:=j0 (i:=40) hx rfl;obtain⟨nv,b3,e0⟩:∃nv:Nat,atI [D.int 0,D.int 0,D.int 9,D.int 10,D.int 0,D.int 10] u=some (.int (nv:Int))/\nv<=10:=by
   rcases(by lia:u=0∨u=1∨u=2∨u=3∨u=4∨u=5)with rfl|rfl|rfl|rfl|rfl|rfl
   ·exact⟨0,rfl,by decide⟩
   ·exact⟨0,rfl,by decide⟩
   ·exact⟨9,rfl,by decide⟩
   ·exact⟨10,rfl,by decide⟩
   ·exact⟨0,rfl,by decide⟩
   ·exact⟨10,rfl,by decide⟩
  walk_at"";refine⟨sz3 6,_,a9,_,b3,_,rfl,by lia,by lia,?_⟩;rw[S3];refine br (λi C M'=>∃j x4 x5,C=[some (D.scr (ns.map D.int)),some (D.int c),some (lxD o (.str g) j),some (D.lst (xs.map D.int)),x4,x5,x6,x7,x8,x9,O]/\M'=M/\gB o (.str g) j) ⟨j,_,_,rfl,rfl,t⟩ ?_ ?_
  ·rintro i d C M' X2 b9 ⟨j,y4,y5,rfl,rfl,t⟩ k2;obtain⟨hi,rfl⟩:=c8 b9;obtain⟨d6,c6⟩:=EE (k:=i) (by lia);have b8:=t.le;obtain⟨_,N,c3⟩:=aV.mp t.ok;obtain⟨S,I⟩:=cv N;refine⟨_,rfl,?_⟩;simp only[lxD,ah3];walk_at"";refine⟨sz3 6,_,a9,_,b3,?_⟩;walk_at"";rw[E8];refine a7 (λh=>?_) (λh=>k2 _ _ ⟨j,_,_,rfl,rfl,t⟩);have c0:j.length<10:=by lia
   refine⟨_,C4 (by decide) d6,_,z5 (by decide) (by rw[jI];show 1<=400;decide),_,z5 (by rw[Str.length_append,jI];show 1+1<=400;decide) (by decide),λY=>⟨Y,?_⟩⟩;refine aY eD (λ_=>true) (λp=>p.1) (λC=>∃a b,C=[none,none,none,none,none,none,none,none,none,none,none,a,b]) j _ _ (λp hp C a1=>?_) ⟨none,none,rfl⟩ ?_
   ·obtain⟨a,b,rfl⟩:=a1;refine⟨_,rfl,⟨_,_,rfl⟩,λQ1 q=>q,λ_ Q2 q=>?_⟩;walk_at"";exact q
   rw[N0,O8.mpr (λ_ _=>rfl),I];refine⟨_,if_pos ⟨rfl,i9⟩,_,rfl,?_⟩;show if(true ^^ (S.map D.str).any λd=>eqD d (.str (nmq i)))=true then _ else _
   rw[gc];refine a7 (λh3=>?_) (λh3=>k2 _ _ ⟨j,_,_,rfl,rfl,t⟩);have c1:D.str (nmq i)∉j.map (·.1):=λz=>by
    rw[I]at z;obtain⟨y,hy,e⟩:=K5.mp z;cases e;simp[hy]at h3
   refine⟨sz3 2,sz3 1,sz3 1,sz3 2,sz3 1,_,if_pos (sz3 _ (by lia)),sz3 3,k2 _ _ ⟨j++[(.str (nmq i),knq i)],some (.int (i:Int)),some (.str (nmq i)),?_,rfl,y3 t c6 (Bq (by lia)) c0 c1⟩⟩;rw[lxD,L7];rfl
  rintro C M' ⟨j,y4,y5,rfl,rfl,t⟩;have b8:=t.le;obtain⟨⟨e4,_⟩,N,c3⟩:=aV.mp t.ok;obtain⟨S,I⟩:=cv N;have f3:S.length=j.length:=by have:=congrArg X9 I;simpa using this.symm
  simp only[lxD];refine am ?_;walk_at"";refine λY=>⟨Y,?_⟩;refine aY eD (λ_=>true) (λp=>p.1) (λC=>∃a b,C=[none,none,none,none,none,none,none,none,none,none,none,a,b]) j _ _ (λp hp C a1=>?_) ⟨none,none,rfl⟩ ?_
  ·obtain⟨a,b,rfl⟩:=a1;refine⟨_,rfl,⟨_,_,rfl⟩,λQ1 q=>q,λ_ Q2 q=>?_⟩;walk_at"";exact q
  rw[N0,O8.mpr (λ_ _=>rfl),I];refine am ?_;walk_at"";refine⟨sz3 3,am ?_⟩;walk_at"";have U:∀d∈[D.str (J5 "an odd word"),D.lst [D.str (J5 "a")],D.non,D.int 7,D.bl true,D.tup [],D.tup [D.str (J5 "a")],D.str (J5 ""),D.str (J5 "A"),D.str (J5 "ninewords"),D.emp,D.str (J5 "ab1")],ak d=true/\wj d:=by
   intro d hd;simp only[J3,T7,or_false]at hd;rcases hd with rfl|rfl|rfl|rfl|rfl|rfl|rfl|rfl|rfl|rfl|rfl|rfl
   all_goals first|exact⟨rfl,.inl rfl⟩|exact⟨rfl,.inr ⟨rfl,rfl⟩⟩
  refine⟨sz3 1,sz3 0,sz3 1,sz3 12,_,b2,?_⟩;walk_at"";obtain⟨Z,a2,a'⟩:=rH (ds:=[D.str (J5 "an odd word"),D.lst [D.str (J5 "a")],D.non,D.int 7,D.bl true,D.tup [],D.tup [D.str (J5 "a")],D.str (J5 ""),D.str (J5 "A"),D.str (J5 "ninewords"),D.emp,D.str (J5 "ab1")]) (i:=a8 % 12) (by lia) (by show a8 % 12<12;lia);have a2:=U Z a2;refine⟨_,a',am ?_⟩;clear U a';obtain⟨a5,rfl⟩:=ad2 c5;obtain⟨a3,rfl⟩:=ad2 d4;obtain⟨c4,d3⟩:=Br (n:=a5) (by lia);obtain⟨v,hv,ev⟩:=eI (l:=S) (by lia) b';walk_at"";refine⟨_,d2,?_⟩;walk_at"";rw[E8];refine⟨_,if_pos (by lia),?_⟩;walk_at"";rw[ev];refine⟨_,aI (by rw[F7,E4 hv];rfl),_,b2,_,c4,_,b5,?_⟩;walk_at"";rw[show(1:Int)+(a3:Int)=((1+a3:Nat):Int)by lia];refine⟨_,zM (by lia),sz3 3,_,d0,?_⟩;obtain⟨wd,a0,b1⟩:=rH (ds:=[D.str S[v],D.str (tx (F5 (1+a3) (97+a5))),Z]) c' d5;refine⟨_,b1,am ?_⟩;have hw:ak wd=true/\wj wd:=by
   simp only[J3,T7,or_false]at a0;have d8:aC S[v]=true:=by
    have hm:D.str S[v]∈j.map (·.1):=by rw[I];exact List.mem_map_of_mem (L8 _)
    exact e7 N hm
   rcases a0 with rfl|rfl|rfl
   ·exact⟨cD d8,.inr ⟨rfl,rfl⟩⟩
   ·exact⟨cD (jM d3 (by lia) (by lia)),.inr ⟨rfl,rfl⟩⟩
   ·exact a2
  clear b1 a0;have d1:aC g=true:=t.g2;walk_at"";refine⟨xs,[g,J5 "m",J5 "n"],rfl,hx,by simp,?_,λkd a4=>am ?_⟩
  ·intro m hm;simp only[J3,T7,or_false]at hm;rcases hm with rfl|rfl|rfl
   ·exact d1
   ·decide +kernel
   ·decide +kernel
  walk_at"";refine⟨_,o,.str g,j,wd,kd,rfl,hw.1,a4,t,λ_=>?_,λz=>?_,.inl rfl⟩
  ·refine⟨o,.str g,j,wd,kd,rfl,hw.1,a4,hw.2,t,?_⟩;refine⟨_,by rw[Au];exact Bk t,_,rfl,?_⟩;rw[if_neg (by simp)];refine am ?_;walk_at"";have b4:X [some (D.scr (ns.map D.int)),some (D.int c),some (D.tup [o,D.str g,D.tup (j.map eD)]),some (D.lst (xs.map D.int)),y4,y5,some (D.lst (S.map D.str)),some (D.lst [D.str g,D.str (J5 "m"),D.str (J5 "n")]),some Z,some wd,some kd] M':=k' _ _ ⟨_,_,_,_,_,_,_,_,_,_,rfl⟩;rw[bj hw.1];have J:=hw.1;cases wd with
   |str x =>
    refine⟨true,rfl,?_⟩;rw[if_pos rfl];refine⟨_,o,.str g,j,.str x,kd,rfl,J,a4,t,λz=>absurd z (by decide),λ_=>⟨x,rfl,?_⟩,.inr rfl⟩;refine⟨o,.str g,j,x,rfl,J,t,?_⟩;refine⟨_,by rw[Al];exact BV t,_,rfl,?_⟩;rw[if_neg (by simp)];exact b4
   |scr _=>simp[ak]at J
   |ref _=>simp[ak]at J
   |box _ _=>simp[ak]at J
   |_=>exact⟨false,rfl,by rw[if_neg (by simp)];exact b4⟩
  ·exact absurd z (by decide)
 ·rintro C M ⟨x1,x2,x3,x4,x5,x6,x7,x8,x9,O,rfl⟩;walk_at"";exact k _
end
theorem DX:DM S_law:=λb R a e=>⟨b,rfl,rfl,a,e⟩
theorem AG{l:PySem.W.OpenLaw}{w:P7}{K:E5}{h:K3}{mg:Str->Option u8}{fa:F4}(X:K.In h)(G:h.Ns J8 mg)(z2:mg "law"=some (.ref fa))
  {f0:F4} {d0:K4}
  {f1:F4} {d1:K4}
  {f2:F4} {d2:K4}
  {f3:F4} {d3:K4}
  {f4:F4} {d4:K4}
  {f5:F4} {d5:K4}
  {f6:F4} {d6:K4}
  {f7:F4} {d7:K4}
  {f8:F4} {d8:K4}
  {f9:F4} {d9:K4}
  {f10:F4} {t9:K4}
  {f11:F4} {s':K4}
  {f12:F4} {s4:K4}
  {t2:F4} {r9:K4}
  {s2:F4} {u2:K4}
  {q9:F4} {y0:K4}
  {y2:F4} {d16:K4}
  {q5:F4} {d17:K4}
  {p2:F4} {d18:K4}
  {f19:F4} {u':K4}
  {f20:F4} {d20:K4}
  {f21:F4} {d21:K4}
  {q':F4} {d22:K4}
  {f23:F4} {p':K4}
  {r':F4} {v1:K4}
  {r3:F4} {r0:K4}
  {z1:F4} {r7:K4}
  {r6:F4} {y6:K4}
  {o':F4} {s5:K4}
  {r1:F4} {p3:K4}
  {f30:F4} {q7:K4}
  {f31:F4} {d31:K4}
  {f32:F4} {d32:K4}
  {y':F4} {s8:K4}
  {r2:F4} {s1:K4}
  {t7:F4} {t0:K4}
  {f36:F4} {z0:K4}
  {s0:F4} {w':K4}
  {q6:F4} {q1:K4}
  {i:Tok}
  {o:Tok}
  {t:Tok}
  {E:Tok}
  {j:Tok}
  {z:Tok}
  {u:Tok}
  {W WN:F4} {wn wq:Str} {s3:List u8} {wh:Bool} {n5:List Str} {j1:List u8} {wab:Bool} {n4:Option Bool} {q2:Option F4} {w0 w1 w2 w3 w5:Option u8} {l1:String} {wnc:u8} {v':Option F4} {n2:Array ag2} {wep:Nat} {wsl:Array (Option u8)}
  {m:F4}
  {a:F4}
  {b:F4}
  {g:F4}
  {O t4:F4} {s6 xq0:Str} {n3:List u8}  {m1:List Str} {b':List u8} {j':Bool} {c2:Option Bool} {l4:Option F4} {xa0 n' y4 y1 w8:Option u8}
  {b0:F4} {k2 m2:Option F4} {l0:Array (Option u8)} {k4 i2 m' b2 m4:u8}
  {C1 k3:F4} {xn1 xq1:Str} {i3:List u8} {v3:Bool} {l3:List Str} {h4:List u8} {k5:Bool} {i1:Option Bool} {n0:Option F4} {xa1 v0 xc1 t6 xe1:Option u8}
  {l':u8} {k':Option F4} {b1:Array ag2} {m0:Nat} {j2:Array (Option u8)}
  (x0:bx K "is_whole" fm f0 d0)
  (x1:bx K "is_tuple_of" df f1 d1)
  (x2:bx K "is_short_word" bU f2 d2)
  (x3:bx K "are_unlike" dP f3 d3)
  (x4:bx K "words_of" dw f4 d4)
  (x5:bx K "_law_parts" jX f5 d5)
  (x6:bx K "_law_letters" eh f6 d6)
  (x7:bx K "_law_most" lZ f7 d7)
  (x8:bx K "_law_matched" gK f8 d8)
  (x9:bx K "_law_cut" oZ f9 d9)
  (c0:bx K "_law_kinds" gV f10 t9)
  (c1:bx K "_law_row" kF f11 s')
  (e6:bx K "_law_is_word" eA f12 s4)
  (h3:bx K "_law_out" jo t2 r9)
  (b5:bx K "is_mark" gn s2 u2)
  (h9:bx K "is_turn" gp q9 y0)
  (c':bx K "has_word" fE y2 d16)
  (e2:bx K "_law_signs" eS q5 d17)
  (c3:bx K "_law_is_kind" gq p2 d18)
  (h5:bx K "_law_drawn_kinds" cj f19 u')
  (d':bx K "is_pair" gP f20 d20)
  (e3:bx K "is_sign" fZ f21 d21)
  (f':bx K "kinds_of" fw q' d22)
  (h':bx K "_law_sentence" cG f23 p')
  (h2:bx K "_law_are_kinds" cV r' v1)
  (g4:bx K "is_order" dq r3 r0)
  (b4:bx K "is_row" fG z1 r7)
  (e':bx K "refuse_other_words" bG r6 y6)
  (e0:bx K "_law_due" kG o' s5)
  (h6:bx K "is_kind" gy r1 p3)
  (h0:bx K "are_kinds" cW f30 q7)
  (h1:bx K "is_entry" fA f31 d31)
  (c6:bx K "are_entries" bK f32 d32)
  (c5:bx K "is_lexicon" dJ y' s8)
  (b9:bx K "lexicon_with" cR r2 s1)
  (h8:bx K "put_in" iT t7 t0)
  (b8:bx K "taken_out" cU f36 z0)
  (g':bx K "_law_seen" kU s0 w')
  (m3:bx K "law" pL q6 q1)
  (N:M9 K J8 "isinstance"=some none)
  (e5:M9 K J8 "int"=some none)
  (a':M9 K J8 "bool"=some none)
  (a8:M9 K J8 "tuple"=some none)
  (g3:M9 K J8 "len"=some none)
  (e4:M9 K J8 "str"=some none)
  (e1:M9 K J8 "all"=some none)
  (b3:M9 K J8 "set"=some none)
  (a5:M9 K J8 "range"=some none)
  (a3:M9 K J8 "sorted"=some none)
  (a9:M9 K J8 "list"=some none)
  (i0:M9 K J8 "max"=some none)
  (M:M9 K J8 "ValueError"=some none)
  (c4:M9 K J8 "any"=some none)
  (h7:M9 K J8 "abs"=some none)
  (n:M9 K J8 "SMALL_LETTERS"=some (some (.str "abcdefghijklmnopqrstuvwxyz" i)))
  (q:M9 K J8 "MOST_LETTERS"=some (some (.int 8 o)))
  (I:M9 K J8 "MOST_PAIRS"=some (some (.int 8 t)))
  (Q:M9 K J8 "MOST_TURN"=some (some (.int 99 E)))
  (p:M9 K J8 "MOST_ENTRIES"=some (some (.int 10 j)))
  (A:M9 K J8 "MOST_KINDS"=some (some (.int 4 z)))
  (H:M9 K J8 "MOST_SIGNS"=some (some (.int 5 u)))
  (aW:M9 K J8 "WishError"=some (some (.ref W)))
  (lW:K.lookup W=some (T6 wn wq W WN s3 [.type "ValueError",.type "Exception",.type "BaseException",.type "object"] wh n5 j1 wab n4 q2 w0 w1 w2 w3 w5 l1))
  (nW:K.lookup WN=some ⟨wnc,v',.dict n2 wep,wsl⟩)
  (hW:n2.toList.all (λe=>e.key.isStr "__init__"==false&&match e.key with|.str _ _=>true|_=>false)=true)
  (sW:aj8 K (.ref W) "__getattribute__"=some (some (.builtin "type.__getattribute__")))
  (rW:PySem.W.readsIn K W (.type "type")=true)
  (fW:PySem.W.findCls K (.ref W) (.type "type") "__init__"=some (.val (.builtin "ValueError.__init__")))
  (i4:aj8 K (.builtin "object.__class__") "__get__"=some (some (.builtin "getset_descriptor.__get__")))
  (i5:PySem.W.takesIn K (.builtin "object.__class__")=some true)
  (a4:M9 K J8 "NoWord"=some (some (.ref m)))
  (S:M9 K J8 "NoLexicon"=some (some (.ref a)))
  (R:M9 K J8 "NoDrawing"=some (some (.ref b)))
  (a2:M9 K J8 "NoWorld"=some (some (.ref g)))
  (aC0:M9 K J8 "NoWord"=some (some (.ref O)))
  (kC0:U7 K (.ref O)=true)
  (l2:K.lookup O=some (T6 s6 xq0 O t4 n3 [.ref W,.type "ValueError",.type "Exception",.type "BaseException",.type "object"] true m1 b' j' c2 l4 xa0 n' y4 y1 w8 "ValueError.__new__"))
  (u1:O5 K (.ref O) "__getattribute__"=some (some (.builtin "BaseException.__getattribute__")))
  (ib0:O5 K (.ref O) "__getattr__"=some none)
  (ic0:af5 K O (.type "BaseException")=some true)
  (t':(ap0 K O).isSome=true)
  (ie0:O5 K (.ref O) "__class__"=some (some (.builtin "object.__class__")))
  (n1:af5 K O (.type "object")=some true)
  (t3:O6 K (.ref O) (.type "ValueError")=some true)
  (a0:O6 K (.ref O) (.ref m)=some true)
  (J:O6 K (.ref O) (.ref a)=some false)
  (B:O6 K (.ref O) (.ref b)=some false)
  (Z:O6 K (.ref O) (.ref g)=some false)
  (iC0:O5 K (.ref O) "__init__"=some (some (.ref b0)))
  (i':K.lookup b0=some ⟨.type "function",k2,.func (aa7 "__init__" "NoWord.__init__" (et g7) (cm g7) (ai g7) .none k4 i2 m' m2 b2 m4),l0⟩)
  (cI0:aj9 K b2 "NoWord.__init__"=true)
  (s9:U7 K (.ref b0)=true)
  (y5:O5 K (.ref O) "__setattr__"=some (some (.builtin "object.__setattr__")))
  (l6:O5 K (.ref O) "word"=some none)
  (v2:PySem.W.hasDictIn K O=true)
  (aC1:M9 K J8 "NoLexicon"=some (some (.ref C1)))
  (w4:U7 K (.ref C1)=true)
  (k1:K.lookup C1=some (T6 xn1 xq1 C1 k3 i3 [.ref W,.type "ValueError",.type "Exception",.type "BaseException",.type "object"] v3 l3 h4 k5 i1 n0 xa1 v0 xc1 t6 xe1 "ValueError.__new__"))
  (p4:O5 K (.ref C1) "__getattribute__"=some (some (.builtin "BaseException.__getattribute__")))
  (t8:O5 K (.ref C1) "__getattr__"=some none)
  (q4:af5 K C1 (.type "BaseException")=some true)
  (z3:(ap0 K C1).isSome=true)
  (p5:O5 K (.ref C1) "__class__"=some (some (.builtin "object.__class__")))
  (v5:af5 K C1 (.type "object")=some true)
  (x':O6 K (.ref C1) (.type "ValueError")=some true)
  (a1:O6 K (.ref C1) (.ref m)=some false)
  (L:O6 K (.ref C1) (.ref a)=some true)
  (C:O6 K (.ref C1) (.ref b)=some false)
  (U:O6 K (.ref C1) (.ref g)=some false)
  (nC1:K.lookup k3=some ⟨l',k',.dict b1 m0,j2⟩)
  (r5:b1.toList.all (λe=>e.key.isStr "__init__"==false&&match e.key with|.str _ _=>true|_=>false)=true)
 :∃fd:K4,(∀(s:E9) (v:u8),ar1 s fd ⟨[v],[]⟩ [("_law_script",v)])/\∀base:K3,K.In base->base.Ns J8 mg->aP l.prog w K mg base CX0 13 fa fd ["_law_script"] (spD K 1 S_law):=by
 have T:Txt mg:=⟨N9 X G N,N9 X G e5,N9 X G a',N9 X G a8,N9 X G g3,N9 X G e4,N9 X G e1,N9 X G b3,N9 X G a5,N9 X G a3,N9 X G a9,N9 X G i0,N9 X G M,N9 X G c4,N9 X G h7,⟨_,P9 X G n⟩,⟨_,P9 X G q⟩,⟨_,P9 X G I⟩,⟨_,P9 X G Q⟩,⟨_,P9 X G p⟩,⟨_,P9 X G A⟩,⟨_,P9 X G H⟩⟩;have Y:rQ K mg O C1 W b0:=⟨⟨P9 X G aC0,P9 X G aW,kC0,⟨_,_,_,_,_,_,_,_,_,_,_,_,_,_,l2⟩,iC0,⟨_,_,_,_,_,_,_,_,_,lW,nW,hW⟩,sW,rW,fW,y5,n1,l6⟩,⟨v2,l6⟩,⟨P9 X G aC1,w4,⟨_,_,_,_,_,_,_,_,_,_,_,_,_,_,_,_,_,_,_,_,k1,nC1,r5⟩,⟨_,_,_,_,_,_,_,_,_,lW,nW,hW⟩⟩,P9 X G aW,al2 ⟨_,_,_,_,_,_,_,_,_,_,_,_,_,_,_,_,_,l2,by simp⟩ ⟨_,_,_,_,_,_,_,_,_,_,_,_,_,_,_,_,_,k1,by simp⟩,⟨_,_,_,_,_,_,_,_,_,_,_,_,_,_,_,_,_,lW,by simp⟩,al2 ⟨u1,ib0,ic0,t',ie0,i4,i5,n1⟩ ⟨p4,t8,q4,z3,p5,i4,i5,v5⟩,ix2 t3 x',⟨_,P9 X G a4,ix2 a0 a1⟩,⟨_,P9 X G S,ix2 J L⟩,⟨_,P9 X G R,ix2 B C⟩,⟨_,P9 X G a2,ix2 Z U⟩⟩;have l5:=rP (st:=g7) i' cI0 s9;have k0:=bd2 l5 λ_ _ _ _ _ _ _ _=>rfl;refine BB X G z2 m3 (λ_ _ _ _ _ _ _=>rfl) λbase=>?_;have ga1:=fg X G x0 (mG (P:=l.prog) (w:=w) (base:=base) x0.F T ) (bd1 x0.F λ_ _ _ _ _ _ _=>rfl);have G0:=fg X G x1 (jL (P:=l.prog) (w:=w) (base:=base) x1.F T ) (bd2 x1.F λ_ _ _ _ _ _ _ _=>rfl);have G1:=fg X G x2 (iM (P:=l.prog) (w:=w) (base:=base) x2.F T ) (bd1 x2.F λ_ _ _ _ _ _ _=>rfl);have G5:=fg X G x3 (ko (P:=l.prog) (w:=w) (base:=base) x3.F T ) (bd1 x3.F λ_ _ _ _ _ _ _=>rfl);have G3:=fg X G x4 (mn (P:=l.prog) (w:=w) (base:=base) x4.F T ) (bd1 x4.F λ_ _ _ _ _ _ _=>rfl);have G9:=fg X G x5 (rj (P:=l.prog) (w:=w) (base:=base) x5.F T ) (bd2 x5.F λ_ _ _ _ _ _ _ _=>rfl);have Y3:=fg X G x6 (oB (P:=l.prog) (w:=w) (base:=base) x6.F T ) (bd2 x6.F λ_ _ _ _ _ _ _ _=>rfl);have q3:=fg X G x7 (uL (P:=l.prog) (w:=w) (base:=base) x7.F T ) (bd3 x7.F λ_ _ _ _ _ _ _ _ _=>rfl);have n7:=fg X G x8 (nY (P:=l.prog) (w:=w) (base:=base) x8.F T ) (bd2 x8.F λ_ _ _ _ _ _ _ _=>rfl);have r4:=fg X G x9 (xw (P:=l.prog) (w:=w) (base:=base) x9.F T ) (bd2 x9.F λ_ _ _ _ _ _ _ _=>rfl);have gb2:=fg X G c0 (qR (P:=l.prog) (w:=w) (base:=base) c0.F T ) (bd3 c0.F λ_ _ _ _ _ _ _ _ _=>rfl);have s7:=fg X G c1 (w9 (P:=l.prog) (w:=w) (base:=base) c1.F T ) (bd3 c1.F λ_ _ _ _ _ _ _ _ _=>rfl);have G8:=fg X G e6 (nO (P:=l.prog) (w:=w) (base:=base) e6.F T ) (bd1 e6.F λ_ _ _ _ _ _ _=>rfl);have w7:=fg X G h3 (xi (P:=l.prog) (w:=w) (base:=base) h3.F T ) (bd2 h3.F λ_ _ _ _ _ _ _ _=>rfl);have G2:=fg X G b5 (oq (P:=l.prog) (w:=w) (base:=base) b5.F T G1) (bd1 b5.F λ_ _ _ _ _ _ _=>rfl);have ga7:=fg X G h9 (oA (P:=l.prog) (w:=w) (base:=base) h9.F T ga1) (bd1 h9.F λ_ _ _ _ _ _ _=>rfl);have G7:=fg X G c' (mw (P:=l.prog) (w:=w) (base:=base) c'.F T G1 G3) (bd2 c'.F λ_ _ _ _ _ _ _ _=>rfl);have t5:=fg X G e2 (rY (P:=l.prog) (w:=w) (base:=base) e2.F T q3) (bd5 e2.F λ_ _ _ _ _ _ _ _ _ _ _=>rfl);have p9:=fg X G c3 (oP (P:=l.prog) (w:=w) (base:=base) c3.F T G8) (bd1 c3.F λ_ _ _ _ _ _ _=>rfl);have Y1:=fg X G h5 (jD (P:=l.prog) (w:=w) (base:=base) h5.F T s7) (bd2 h5.F λ_ _ _ _ _ _ _ _=>rfl);have q8:=fg X G d' (oU (P:=l.prog) (w:=w) (base:=base) d'.F T G0 G2) (bd1 d'.F λ_ _ _ _ _ _ _=>rfl);have z':=fg X G e3 (nL (P:=l.prog) (w:=w) (base:=base) e3.F T G0 G2 ga7) (bd1 e3.F λ_ _ _ _ _ _ _=>rfl);have ga0:=fgY X G f' (my (P:=l.prog) (w:=w) (base:=base) f'.F T Y (vd l5 Y.p0) k0 ⟨_,i',rfl⟩ G7 G3) (bd2 f'.F λ_ _ _ _ _ _ _ _=>rfl);have Y9:=fg X G h' (mL (P:=l.prog) (w:=w) (base:=base) h'.F T G9 n7 t5 r4 Y3 gb2) (bd1 h'.F λ_ _ _ _ _ _ _=>rfl);have Y6:=fg X G h2 (kR (P:=l.prog) (w:=w) (base:=base) h2.F T p9) (bd1 h2.F λ_ _ _ _ _ _ _=>rfl);have Y8:=fg X G g4 (ml (P:=l.prog) (w:=w) (base:=base) g4.F T q8) (bd1 g4.F λ_ _ _ _ _ _ _=>rfl);have ga9:=fg X G b4 (pK (P:=l.prog) (w:=w) (base:=base) b4.F T z') (bd1 b4.F λ_ _ _ _ _ _ _=>rfl);have G6:=fgY X G e' (eW (P:=l.prog) (w:=w) (base:=base) e'.F T Y ga0) (bd2 e'.F λ_ _ _ _ _ _ _ _=>rfl);have gb4:=fg X G e0 (vb (P:=l.prog) (w:=w) (base:=base) e0.F T G8 Y6) (bd3 e0.F λ_ _ _ _ _ _ _ _ _=>rfl);have q0:=fg X G h6 (oG (P:=l.prog) (w:=w) (base:=base) h6.F T ga9) (bd1 h6.F λ_ _ _ _ _ _ _=>rfl);have Y5:=fg X G h0 (md (P:=l.prog) (w:=w) (base:=base) h0.F T G5 q0) (bd1 h0.F λ_ _ _ _ _ _ _=>rfl);have Y7:=fg X G h1 (mq (P:=l.prog) (w:=w) (base:=base) h1.F T G0 G1 Y5) (bd1 h1.F λ_ _ _ _ _ _ _=>rfl);have Y0:=fg X G c6 (jS (P:=l.prog) (w:=w) (base:=base) c6.F T G5 Y7) (bd1 c6.F λ_ _ _ _ _ _ _=>rfl);have Y2:=fg X G c5 (kr (P:=l.prog) (w:=w) (base:=base) c5.F T G0 Y8 G2 Y0) (bd1 c5.F λ_ _ _ _ _ _ _=>rfl);have G4:=fgY X G b9 (i6 (P:=l.prog) (w:=w) (base:=base) b9.F T Y Y2) (bd2 b9.F λ_ _ _ _ _ _ _ _=>rfl);have n6:=fgY X G h8 (pU (P:=l.prog) (w:=w) (base:=base) h8.F T Y G4 G7 G3) (bd3 h8.F λ_ _ _ _ _ _ _ _ _=>rfl);have Y4:=fgY X G b8 (k7 (P:=l.prog) (w:=w) (base:=base) b8.F T Y G6 G4) (bd2 b8.F λ_ _ _ _ _ _ _ _=>rfl);have t1:=fg X G g' (uX (P:=l.prog) (w:=w) (base:=base) g'.F T Y n6 Y4) (bd4 g'.F λ_ _ _ _ _ _ _ _ _ _=>rfl);exact As m3.F T G9 Y1 Y9 t1 gb4 w7
end My
namespace PySem.W.Fast
def tw10041610335885328870:=Nat
def tw10048634563740912828:=Nat
def tw10257300330288169564:=Nat
def tw10648305908738701635:=Nat
def tw10648632461917648664:=Nat
def tw10828326825537958643:=Nat
def tw10876988753223573231:=Nat
def tw10995891589376723491:=Nat
def tw11122433866931823773:=Nat
def tw11375076291702001463:=Nat
def tw1138726620524731229:=Nat
def tw11411606378732792505:=Nat
def tw11527640608411157340:=Nat
def tw11621152815438685302:=Nat
def tw11678472439255429045:=Nat
def tw116836946684594970:=Nat
def tw11720246797518177558:=Nat
def tw11855829562590397144:=Nat
def tw1189270493091191408:=Nat
def tw11955194455698961317:=Nat
def tw12019456071894622501:=Nat
def tw12132674475568288992:=Nat
def tw12369386865591861415:=Nat
def tw12506802238511069359:=Nat
def tw12812449491550874225:=Nat
def tw12814989623431546403:=Nat
def tw12893533657883868441:=Nat
def tw13065992893043497303:=Nat
def tw1320001740578302489:=Nat
def tw13256080283264181611:=Nat
def tw13323581493226050923:=Nat
def tw13365035393858184618:=Nat
def tw13409453312020944571:=Nat
def tw13413857615946498404:=Nat
def tw13520400656283155118:=Nat
def tw13575243404555376317:=Nat
def tw13671843395108411534:=Nat
def tw13902318281666662596:=Nat
def tw14063115713446501509:=Nat
def tw14075616120966077215:=Nat
def tw14100982800396500369:=Nat
def tw1417158008169751097:=Nat
def tw14186755195666875896:=Nat
def tw14328779968257912599:=Nat
def tw14388785135827100043:=Nat
def tw1441101999643412715:=Nat
def tw14437498992951694880:=Nat
def tw14479356792263269569:=Nat
def tw14608339434473265266:=Nat
def tw14684894045138300850:=Nat
def tw14736519552563346886:=Nat
def tw14750345178255551252:=Nat
def tw14843772156540564033:=Nat
def tw14878902940940807707:=Nat
def tw14885356187449831238:=Nat
def tw14963428970725616890:=Nat
def tw15047427551306036527:=Nat
def tw15196030386443517817:=Nat
def tw15200793479742996305:=Nat
def tw15230188842974011413:=Nat
def tw15279121943613536301:=Nat
def tw15296653634270539284:=Nat
def tw15507858732027421561:=Nat
def tw1562393726876060180:=Nat
def tw15828418201185807207:=Nat
def tw1588098029512458285:=Nat
def tw15891117224196261699:=Nat
def tw15902577831505384107:=Nat
def tw15973577029737978625:=Nat
def tw16013438861853345883:=Nat
def tw16173912733577296806:=Nat
def tw16225307446119642005:=Nat
def tw16256271034123599174:=Nat
def tw16309487290729827353:=Nat
def tw1636637772189121439:=Nat
def tw16398308913437069490:=Nat
def tw16441255819424930234:=Nat
def tw16454411696832061243:=Nat
def tw16474463108067729344:=Nat
def tw1673425650371095937:=Nat
def tw16822291669863292486:=Nat
def tw16884257536406820765:=Nat
def tw1693257819736413202:=Nat
def tw17003685708942877149:=Nat
def tw17193438705916940297:=Nat
def tw17227697065386210274:=Nat
def tw17304412743381580143:=Nat
def tw17395742568239064927:=Nat
def tw17413488842364175435:=Nat
def tw17467130955689043012:=Nat
def tw17505726019666891555:=Nat
def tw17705340376172214342:=Nat
def tw17783998852457565233:=Nat
def tw17890908682908134571:=Nat
def tw18015872796800458661:=Nat
def tw18032582496249431721:=Nat
def tw18149246573170641015:=Nat
def tw18281787608196418944:=Nat
def tw18336465902143175666:=Nat
def tw1846959893167467294:=Nat
def tw1872203505896750354:=Nat
def tw207157359017771961:=Nat
def tw2076126865977624720:=Nat
def tw212589877674094922:=Nat
def tw2126110733682965319:=Nat
def tw2173673515033358876:=Nat
def tw2187812748052342663:=Nat
def tw2209443834490147273:=Nat
def tw2236061559399342086:=Nat
def tw224734036329503005:=Nat
def tw2274542705437357821:=Nat
def tw2304937872241136165:=Nat
def tw2319879450417932520:=Nat
def tw2465289457578416006:=Nat
def tw2512453985275824811:=Nat
def tw253535879398859606:=Nat
def tw2647740453163688062:=Nat
def tw2657205628090320984:=Nat
def tw2681258277394389741:=Nat
def tw2916812298708535862:=Nat
def tw2952378789943829639:=Nat
def tw2953206600854143133:=Nat
def tw2987325970473413105:=Nat
def tw3023501927608592247:=Nat
def tw3154395469730383912:=Nat
def tw3182332430166587108:=Nat
def tw3257174605139902601:=Nat
def tw3359182588533450111:=Nat
def tw3435903054940416127:=Nat
def tw3451217426527192547:=Nat
def tw3517386437699892846:=Nat
def tw3783260182294629566:=Nat
def tw3787906863809230487:=Nat
def tw3793802360194622361:=Nat
def tw3822027454908704554:=Nat
def tw3883191508073969883:=Nat
def tw3906632901891995686:=Nat
def tw4262057386079477229:=Nat
def tw4306855551460260520:=Nat
def tw4439537950654488727:=Nat
def tw4499254428371110411:=Nat
def tw4642664445992710845:=Nat
def tw4694043359897195472:=Nat
def tw4699332566970443967:=Nat
def tw4878846214592048437:=Nat
def tw4940968304483055148:=Nat
def tw4948646487454705607:=Nat
def tw5105091732049034692:=Nat
def tw518155357318851940:=Nat
def tw5285323085203935294:=Nat
def tw5287617436168515455:=Nat
def tw5308195729523842838:=Nat
def tw5481470975300230414:=Nat
def tw5560950255547894073:=Nat
def tw5570732237816634502:=Nat
def tw5590108394205400838:=Nat
def tw5682201333130335983:=Nat
def tw5742998519459309752:=Nat
def tw5957387508151691300:=Nat
def tw5972428930996942702:=Nat
def tw5980453385232884358:=Nat
def tw6023523849293673115:=Nat
def tw610945698274503653:=Nat
def tw6110221086238625637:=Nat
def tw6117224692964978606:=Nat
def tw6160732392701839631:=Nat
def tw6362308724939289776:=Nat
def tw6558952591826789807:=Nat
def tw670801739036282899:=Nat
def tw6730128656399678234:=Nat
def tw7029494950609508334:=Nat
def tw7171845239106195168:=Nat
def tw7175333574021659651:=Nat
def tw7255841271760407380:=Nat
def tw7321171519223487538:=Nat
def tw740113896773063146:=Nat
def tw7563617027076537114:=Nat
def tw7828619510154430211:=Nat
def tw7860594274785931367:=Nat
def tw7870246012768409153:=Nat
def tw7890396920076077529:=Nat
def tw790570814903990280:=Nat
def tw7992645557933724930:=Nat
def tw8028312277192860760:=Nat
def tw8046840097292801608:=Nat
def tw8177660675799810905:=Nat
def tw8404691929219512412:=Nat
def tw8447946237071662788:=Nat
def tw8709421324043320066:=Nat
def tw8852174525401153235:=Nat
def tw896470188957922848:=Nat
def tw9013912029120491232:=Nat
def tw9032469535626816437:=Nat
def tw9161214223785223348:=Nat
def tw9174860807114108597:=Nat
def tw9179967938809129165:=Nat
def tw9260047115765296825:=Nat
def tw9433437025307882112:=Nat
def tw9587744201611229515:=Nat
def tw9651241710554410932:=Nat
def tw9762456087695052690:=Nat
def tw9799810658858226995:=Nat
def tw9856583731669267727:=Nat
def tw9894932573855798226:=Nat
def tw9987225753008713859:=Nat
def tw9995615426141453112:=Nat
end PySem.W.Fast
open PySem PySem.W PyProof.Rows
set_option maxRecDepth 100000 in
set_option maxHeartbeats 0 in
theorem PySem.Challenge.cw_wordwishes_k52_words_put_in_and_taken_ou_holds : PySem.Challenge.rw_wordwishes_k52_words_put_in_and_taken_ou.Holds := by
 w_on;o_law;z_head;(case hw=>w_witness2)
 k_fill
 refine L2.vh (fun _=>rfl) ?_;refine L2.Ec (S:=My.S_law) My.DX (k:=13) (x:="_law_script") (l:=PySem.Challenge.rw_wordwishes_k52_words_put_in_and_taken_ou) ⟨rfl,by decide,by decide⟩ rfl rfl (fun w h Y=>Y) ?F
 case F =>
  intro w g e h b G a
  refine' My.AG b G a ?_ ?_ ?_ ?_ ?_ ?_ ?_ ?_ ?_ ?_ ?_ ?_ ?_ ?_ ?_ ?_ ?_ ?_ ?_ ?_ ?_ ?_ ?_ ?_ ?_ ?_ ?_ ?_ ?_ ?_ ?_ ?_ ?_ ?_ ?_ ?_ ?_ ?_ ?_ ?_ ?_ ?_ ?_ ?_ ?_ ?_ ?_ ?_ ?_ ?_ ?_ ?_ ?_ ?_ ?_ ?_ ?_ ?_ ?_ ?_ ?_ ?_ ?_ ?_ ?_ ?_ ?_ ?_ ?_ ?_ ?_ ?_ ?_ ?_ ?_ ?_ ?_ ?_ ?_ ?_ ?_ ?_ ?_ ?_ ?_ ?_ ?_ ?_ ?_ ?_ ?_ ?_ ?_ ?_ ?_ ?_ ?_ ?_ ?_ ?_ ?_ ?_ ?_ ?_ ?_ ?_ ?_ ?_ ?_ ?_ ?_
  all_goals try first|exact L2.Dm (by k_is) (by k_is) (by k_is) (by k_is)|exact L2.rP (by k_is) (by k_is) (by k_is)|k_is|exact rfl
