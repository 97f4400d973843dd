import PyProof.Rows.All
import Wide.All
import OpenK.AllK
import Wide.FinOn
import Lean
import PyProof.EqAt
import PyProof.EqKinds
import PyProof.TupleCall
import KE.KRevIter
import PyProof.NeKinds
import PyProof.Draws
import PyProof.EnumMake
import KE.KSortTup
import PyProof.ZipIter
import KE.KDictList
import PyProof.AttrMissHeap
import KE.KDictOf
import PyProof.Rows.SetFrom
import PyProof.Rows.SortRunsK
import PyProof.IsRules
import PyProof.SetRoads
import KE.KSortKey
import PyProof.RulesDel
import PyProof.DelItemList
import PySem.Challenge.RW_wordwishes_k51_mirrored_drawings_refused
set_option Elab.async false
set_option linter.all false
set_option maxRecDepth 100000
set_option maxHeartbeats 4000000
set_option bootstrap.genMatcherCode false
set_option compiler.extract_closed false
noncomputable section
open PySem renaming wpAny_bind->o0,Value->E1,wpAny_pure->E5,Shared->E6,starEach->E9,Addr->F0,sizeLine->F2,wpAny->H0,mainGlobals->J3,Heap->J6,FuncData->J7,Builtin->K1,Program->K3,model->K7,Expr->K8,Spec->L4,compareOp->L8,Around->M9,wpAny_mono->O1,wpAny_truthy_bool->O2,foldedSetIterable->O3,wpAny_newObj_type->O4,wpAny_field->P1,wpAny_holding->P2,World->Q5,wpAny_callSpecial?_slot->R0,wpAny_ite_false->R3,NameKind->S2,mem_of_lookup->S4,excClassObj->S6,wpAny_loadPart_at->S9,PassesOwn->T0,wpAny_pyIter_list->U2,backTo->U3,attributeBase->U6,wpAny_call_entry->V0,assignEach->V5,bootBuiltins->W0,binaryOp->W3,wpAny_Call_Name_kw->W4,Stmt->W8,wpAny_seqItems->X4,eval->X7,wpAny_setField_rec->aa1,codeAny_call_builtin->aa8,wpAny_passesOwn->aa9,wpAny_getItem_str_slice->ab6,Paired->ac0,wpAny_pyIter_tuple->ac3,Scope->ac4,wpAny_execs_nil->ac6,wpAny_loadPart'->ac9,sliceBounds->ad0,keywordEach->ad1,behindInMarks->ad2,wpAny_standAt->ad3,IsPair->ae4,sizeLine_eq->ae7,Keyword->ae8,wpAny_isSubtype_exc->ae9,wpAny_call->af3,codeAny_mono->af4,call_meets->af5,swapsWith->af9,letOwnedTupleGo->ag0,wpAny_onRaise->ag4,wpAny_attempt->ag5,wpAny_setField->ah4,wpAny_ite_true->ah5,wpAny_loadPart->ah6,codeAny->ai0,Comprehension->ai3,rawInt->ai5,lastMarks->ai6,post_val_or_str->aj0,codeAny_builtin->aj1,wpAny_load'->aj5,assign->aj8,wpAny_typeOf->ak0,backToKw->ak1,holding->ak4,firstArgMember->ak6,wpAny_rule->ak9,evalPart_none->al4,standAt->am1,getItem->am2,DictEntry->am3,noteFrame->am4,typeIs_int->am9,CmpOp->an2,callerA->an3,wpAny_of_eq->an6,IsZip->an7,wpAny_letGo->an8,OwnTail->an9,GenState->ao0,pyNext->ao1,cLine->ao2,IsPart->ao3,ZipApart->ao5,sysModules->ao6,BindsTo->ao7,pyIter->ap0,nsFind->ap1,Model->ap2,Operator->ap3,Data->ap4,compEnvC->ap5,storeName->ap7,inplaceOp->ap8,cellsFrom->ap9,slicePick->aq0,valueAt->aq2,Code->aq4,call->aq5
open PySem.Heap renaming get?_push_of_some->u8,lt_size->F8,get?_push_size->F9,get?_update_other->K5,get?_update_self->P5,get?_none_of_le->T3,SameBut->Z6,size_push->aa4
open PySem.W renaming Frag->E2,kitOne->J4,nsIn->L5,mg_none_of->N6,findIn->O6,mg_of->P3,keepIn->T8,hideAll_get->V4,hideAll_none->W6,fnOf->Z8,mroIn->ad8,of_hideAll->af8,callWith_K->ag1,specialIn->ah2,codeIn->ah3,hideAll->ai4,Looks->aj7,clsIn->al8
open List renaming length_map->E3,getElem?_eq_getElem->E4,length_append->E7,size_toArray->E8,replicate->F3,getElem?_map->F4,mem_of_getElem?->F7,mem_cons->I0,map_cons->J1,getElem?_eq_some_iff->J8,mem_append->K0,mem_cons_of_mem->K2,getD_eq_getElem?_getD->K6,mem_append_right->K9,nil_append->L6,getElem?_append_left->L9,lookup_cons->M0,map_append->N1,all_eq_true->N3,getElem?_set_self->N5,mem_append_left->N7,mem_map->O0,length_take->O8,mem_singleton->O9,getElem_mem->P0,replicate_succ->P8,filter_eq_self->Q0,range->Q4,length_cons->Q6,length_singleton->Q9,take_add_one->R5,flatMap_cons->R6,take_of_length_le->R8,mem_cons_self->R9,zip_cons_cons->S0,append_nil->S3,map_map->S5,not_mem_nil->S7,getElem?_set_ne->T4,mem_of_mem_take->T6,cons->T9,length_drop->U0,mem_iff_getElem->U8,mem_of_mem_drop->U9,all_map->V1,getElem?_append_right->V3,all_cons->V7,mem_filterMap->W1,getElem?_replicate->W9,any_cons->X0,getElem?_cons_succ->X1,flatten_cons->X5,filterMap_cons->X8,length_set->X9,find?_cons->Z0,length_nil->Z1,length_replicate->Z7,mem_range->aa2,length->aa3,drop_eq_getElem_cons->aa5,getElem?_zip_eq_some->aa6,mem_or_eq_of_mem_set->aa7,nodup_cons->ab0,filter_cons_of_neg->ab8,filter_cons_of_pos->ab9,any_eq_true->ac1,drop_eq_nil_of_le->ac2,append_assoc->ad4,map_take->ae0,take_length->ae6,length_flatMap->af1,length_pos_iff->af2,mem_filter->af7,map_drop->ag8,reverse_cons->ah1,of_mem_zip->ai7,map_nil->ak2,range'->al6,any_map->am7,lookup->an4,Perm->ao4,foldl->ao9
open Bool renaming false_eq_true->F1,and_eq_true->J9,false_ne_true->O7,eq_iff_iff->P6,false_and->U4,not_eq_true'->ad7,true_and->ad9,and_false->ae3,false_xor->ak7,not_true->al7
open Nat renaming le_refl->F5,lt_of_lt_of_le->F6,ne_of_lt->K4,zero_le->P9,le_trans->Q8,lt_irrefl->W7,lt_succ_of_lt->X6,le_of_lt->ac5,ne_of_gt->ac7,le_add_right->ae5,lt_succ_self->ai1,lt_or_ge->ak3,le_succ->an5
open PySem.Value renaming ref->J0,none->J5,type->N9,builtin->ag3,bool->ag9,int->ah7,str->al9
open Or renaming inl->L7,inr->ai9
open PyProof.Rows renaming slot_tuple_getitem->M7,callWith_type1->U5,KeyOrd->aa0,envOfC->ab4,AllBare->ah9,kindOf->aj9,slicePart_none->ak5,seqObj->al1,tupleItemsOf_->al3,IsTup->am0,Subscript_->ao8,SortKind->ap6,IntsAre->aq1
open List.cons renaming injEq->N0
open PySem.Builtin.Tuple renaming tupleExact->N4,tupleItemsOf->Z4
open PySem.Builtin.SmallTypes renaming nextOf->N8,ownedTupleIsFree->U1
open PySem.PassesOwn renaming never->O5
open Int renaming toNat_natCast->P4,toNat_of_nonneg->V6,eq_ofNat_of_zero_le->X3,zero_add->af6,emod_nonneg->ag6,emod_lt_of_pos->ag7
open Array renaming length_toList->P7,getElem?_eq_some_iff->T1,getD->al0
open Bind renaming bind->Q7
open Option.some renaming inj->R1
open PySem.Builtin.Slice renaming slicePlaces->R4,sliceApplied->Z3
open PySem.Str renaming ofString->R7
open False renaming elim->S1
open PySem.SeqAt renaming EqAt->S8
open Option renaming some->T5,bind_some->V2,isSome_iff_exists->W5
open Ne renaming symm->T7
open ForInStep renaming yield->U7
open PySem.NameKind renaming free->V8,cell->ag2
open PySem.Obj renaming mapFields->V9,data_mapFields->Z9,dropNameByArray->af0,mapSeq->ah0,dropName_eq->aj6
open PySem.F renaming slot_tuple_iterator_next->Z5,plainAttrs_list->ab7,excAttr_ValueError->ae1,slot_int_rmul->ai8,slot_zip_next->aj2
open PySem.Builtin.List renaming listTooLong->ab1
open PyProof.Rows.KeyOrd renaming kle_refl->ab3,kle_of_klt->ad6,kle_trans->ai2
open PySem.Builtin.Str renaming occurrences->ab5
open PySem.Data renaming fields->ac8,dict->ak8,seq->al5
open PySem.Code renaming compLoop->ad5
open Pure renaming pure->ae2
open PySem.W.Looks renaming here->ah8
open PySem.Shared renaming heap->aj3
open Eq renaming refl->aj4
open PySem.Txt renaming slice->am5,slice_le->am6
open ToString renaming toString->am8
open Sum renaming inl->an0,inr->an1
open LawfulMonad renaming pure_bind->aq3
set_option compiler.extract_closed false
namespace L2
open PySem PySem.Spec PyProof.Rows
abbrev Key:=Sum Int Str
def zL:Key->E1->Bool
 |.inl k,v=>E1.isInt k v
 |.inr x,v=>E1.isStrOf x v
noncomputable def D1(w:Q5):Key->Int
 |.inl k=>hashInt k
 |.inr x=>hashStr w x
theorem bz:∀{k:Key}{v:E1},zL k v=true->(∃i t,k=an0 i/\v=ah7 i t)∨(∃x t,k=an1 x/\v=al9 x t)
 |.inl i,v,h=>by
  obtain⟨t,e⟩:=E1.isInt_shape (k:=i) (v:=v) h;exact .inl ⟨i,t,rfl,e⟩
 |.inr x,v,h=>by
  obtain⟨t,e⟩:=E1.isStrOf_shape (x:=x) (v:=v) h;exact .inr ⟨x,t,rfl,e⟩
theorem A1(a b:Int):decide ((an0 a:Key)=an0 b)=(a==b):=by
 by_cases e:a=b
 ·subst e;simp
 ·have h:¬ (an0 a:Key)=an0 b:=λq=>e (an0.inj q);rw[decide_eq_false h];exact(beq_eq_false_iff_ne.mpr e).symm
theorem Ap(a b:Str):decide ((an1 a:Key)=an1 b)=decide (a=b):=by
 by_cases e:a=b
 ·subst e;simp
 ·have h:¬ (an1 a:Key)=an1 b:=λq=>e (an1.inj q);rw[decide_eq_false h,decide_eq_false e]
theorem Bu(a:Int)(b:Str):decide ((an0 a:Key)=an1 b)=false:=decide_eq_false (λq=>nomatch q)
theorem BE(a:Str)(b:Int):decide ((an1 a:Key)=an0 b)=false:=decide_eq_false (λq=>nomatch q)
def tR(prog:K3)(w:Q5):PySem.KeyKind prog w Key where
 is:=zL
 hash:=D1 w
 inj:=λv a b n l=>by
  rcases bz n with⟨i,t,rfl,rfl⟩|⟨x,t,rfl,rfl⟩
  ·rcases bz l with⟨j,u,rfl,e⟩|⟨y,u,rfl,e⟩
   ·injection e with f _;rw[f]
   ·exact nomatch e
  ·rcases bz l with⟨j,u,rfl,e⟩|⟨y,u,rfl,e⟩
   ·exact nomatch e
   ·injection e with f _;rw[f]
 byValue:=λk v h=>by
  rcases bz h with⟨i,t,rfl,rfl⟩|⟨x,t,rfl,rfl⟩<;>rfl
 pyHash:=λg h=>by
  rcases bz g with⟨i,t,rfl,rfl⟩|⟨x,t,rfl,rfl⟩
  ·exact wpAny_pyHash_int h
  ·exact wpAny_pyHash_str h
 eqBool:=λm g h=>by
  rcases bz m with⟨i,t,rfl,rfl⟩|⟨x,t,rfl,rfl⟩
  ·rcases bz g with⟨j,u,rfl,rfl⟩|⟨y,u,rfl,rfl⟩
   ·rw[A1]at h;exact wpAny_eqBool_int h
   ·rw[Bu]at h;exact S8.int_str i t y u _ _ _ _ h
  ·rcases bz g with⟨j,u,rfl,rfl⟩|⟨y,u,rfl,rfl⟩
   ·rw[BE]at h;exact S8.str_int x t j u _ _ _ _ h
   ·rw[Ap]at h;exact wpAny_eqBool_str h
 «strs»:=λk x t v h=>by
  rcases bz h with⟨i,u,rfl,e⟩|⟨y,u,rfl,e⟩
  ·exact nomatch e
  ·injection e with f _
   subst f;cases v<;>rfl
inductive V where
 |non|bl (b:Bool)|int (i:Int)|str (x:Str)|byt (b:Array UInt8)|flt (b:UInt64)|ref (a:F0)|ty (n:String)
 deriving DecidableEq
def aO:V->E1->Prop
 |.non,u=>u=J5
 |.bl b,u=>u=ag9 b
 |.int i,u=>∃t,u=ah7 i t
 |.str x,u=>∃t,u=al9 x t
 |.byt b,u=>∃t,u=E1.bytes b t
 |.flt b,u=>∃t,u=E1.float b t
 |.ref a,u=>u=J0 a
 |.ty n,u=>u=N9 n
abbrev aA:List V->List E1->Prop:=ac0 aO
theorem aA.length{xs:List V}{us:List E1}(r:aA xs us):xs.length=us.length:=ac0.length r
theorem aA.get:∀{xs:List V}{us:List E1}{i:Nat}{x:V},aA xs us->xs[i]?=some x->∃u,us[i]?=some u/\aO x u
 |_,_,_,_,.nil,e=>by simp at e
 |_,_,0,_,.cons r _,e=>by simp at e;subst e;exact⟨_,rfl,r⟩
 |_,_,i+1,x,.cons _ t,e=>by
  obtain⟨u,b,a⟩:=aA.get (i:=i) (x:=x) t (by simpa using e);exact⟨u,by simpa using b,a⟩
theorem aA.set{x:V}{u:E1}(r:aO x u):∀{xs:List V}{us:List E1}(i:Nat),aA xs us->aA (xs.set i x) (us.set i u)
 |_,_,_,.nil=>.nil
 |_,_,0,.cons _ t=>.cons r t
 |_,_,i+1,.cons q t=>.cons q (aA.set r i t)
theorem aA.append:∀{xs a:List V}{us ws:List E1},aA xs us->aA a ws->aA (xs++a) (us++ws)
 |_,_,_,_,.nil,s=>s
 |_,_,_,_,.cons r t,s=>.cons r (aA.append t s)
theorem aA.take:∀{xs:List V}{us:List E1}(n:Nat),aA xs us->aA (xs.take n) (us.take n)
 |_,_,0,_=>.nil
 |_,_,_+1,.nil=>.nil
 |_,_,n+1,.cons r t=>.cons r (aA.take n t)
theorem aA.drop:∀{xs:List V}{us:List E1}(n:Nat),aA xs us->aA (xs.drop n) (us.drop n)
 |_,_,0,r=>r
 |_,_,_+1,.nil=>.nil
 |_,_,n+1,.cons _ t=>aA.drop n t
def xH:Option V->Option E1->Prop
 |some v,some u=>aO v u
 |none,none=>True
 |_,_=>False
def KV{κ:Type}:List (κ×V)->List (κ×E1)->Prop:=ac0 λ(p:κ×V) (q:κ×E1)=>p.1=q.1/\aO p.2 q.2
def kV:Key->V
 |.inl i=>.int i
 |.inr x=>.str x
inductive HO where
 |lst (xs:List V)
 |tup (xs:List V)
 |dK (kvs:List (Key×V))|dT (kvs:List (List Key×V))
 |set (S:Int->Bool) (n:Nat)
 |ins (C dx:F0) (fs:List (Str×V))
 |own (x:F0)
 |xd (fs:List (Str×V))
 |met (f x:F0)
 |rng (lo hi:Int)
 |frz (o:Obj) (u:HO)
 |tbl (ps:Array E1)
 |ext (φ:J6->Prop)
abbrev Hp:=F0->Option HO
def upd(H:Hp)(a:F0)(o:HO):Hp:=λb=>if b=a then some o else H b
theorem aY{H:Hp}{a:F0}{o:HO}:upd H a o a=some o:=by unfold upd;rw[if_pos rfl]
theorem aJ{H:Hp}{a b:F0}{o:HO}(h:b≠a):upd H a o b=H b:=by unfold upd;rw[if_neg h]
theorem zD{H:Hp}{a:F0}{o u:HO}:upd (upd H a o) a u=upd H a u:=by
 funext b;unfold upd;split<;>rfl
theorem cH{H:Hp}{a b:F0}{o:HO}(h:H a=some o)(h':H b=none):a≠b:=by
 intro e;subst e;rw[h]at h';cases h'
def jJ(h:J6)(a:F0)(xs:Array E1):Prop:=∃o,h.get? a=some o/\o.cls=.type "tuple"/\(∃n,o.data=.seq xs n)/\o.dict=none
theorem jJ.tup{h:J6}{a:F0}{xs:Array E1}(x:jJ h a xs):am0 h a xs:=let⟨o,e,c,d,_⟩:=x;⟨o,e,c,d⟩
theorem jJ.lt{h:J6}{a:F0}{xs:Array E1}(x:jJ h a xs):a<h.objs.size:=let⟨_,e,_⟩:=x;F8 e
theorem jJ.new(h:J6)(xs:Array E1):jJ (h.push { cls:=.type "tuple",data:=.seq xs }) h.objs.size xs:=⟨_,F9 h rfl,rfl,⟨_,rfl⟩,rfl⟩
section
variable(P:K3) (w:Q5)
def bP(H:Hp)(h:J6)(a:F0):HO->Prop
 |.lst g=>g.length<=F2/\∃(e:List E1) (n:Nat),aA g e/\h.get? a=some { cls:=.type "list",data:=.seq e.toArray n }
 |.tup g=>g.length<=F2/\∃e:List E1,aA g e/\jJ h a e.toArray
 |.dK b=>b.length<=F2/\(a==ao6)=false/\∃s,KV b s/\h.DictOf (tR P w) a s
 | .dT b => b.length ≤ F2 ∧ (a == ao6) = false ∧ ∃ g:List (List Key × F0 × E1),
   ac0 (λ(p:List Key×V) (q:List Key×F0×E1)=>p.1=q.1/\H q.2.1=some (.tup (p.1.map kV))/\aO p.2 q.2.2) b g /\
   ∃o m E,h.get? a=some o/\o.ExactDict/\o.data=.dict m E/\m.toList=g.map (entryOfKey (tupleKind (tR P w)))/\(g.map (·.1)).Nodup
 |.set S n=>h.SetOf (intKind P w) a S n
 | .ins C j fs => H j = some (.own a) ∧ fs.length ≤ 1000 ∧ j ≠ a ∧ h.get? a = some (PySem.W.instObj C j) ∧
   ∃i,h.Ns1 j i/\(∀f,xH (fs.lookup f) (i f))/\PySem.Within i (fs.map (·.1))
 |.own _=>∃o,h.get? a=some o
 |.xd fs=>∃i,h.Ns1 a i/\∀f,xH (fs.lookup f) (i f)
 |.rng lo B=>∃t u v,h.get? a=some { cls:=.type "range",data:=.fields #[.int lo t,.int B u,.int 1 v] }
 |.frz o u=>h.get? a=some o/\bP H h a u
 |.tbl G=>h.get? a=some { cls:=.none,data:=.fields G }
 |.met f x=>h.get? a=some (PySem.W.methodObj (.ref f) (.ref x))
 |.ext l=>l h/\(∃o,h.get? a=some o)/\∀z A:J6,l z->(∀o,z.get? a=some o->A.get? a=some o)->l A
def HOk(H:Hp)(h:J6):Prop:=∀a o,H a=some o->bP P w H h a o
end
section
variable{P:K3}{w:Q5}{H g:Hp}{h h':J6}{a:F0}{o:HO}
theorem bP.lt(x:bP P w H h a o):a<h.objs.size:=by
 cases o with
 |lst g=>obtain⟨_,_,_,_,e⟩:=x;exact F8 e
 |tup g=>obtain⟨_,_,_,p⟩:=x;exact p.lt
 |dK b=>obtain⟨_,_,_,_,o,_,_,e,_⟩:=x;exact F8 e
 |dT b=>obtain⟨_,_,_,_,o,_,_,e,_⟩:=x;exact F8 e
 |set S n=>obtain⟨o,_,_,_,e,_⟩:=x;exact F8 e
 |ins C l fs=>obtain⟨_,_,_,e,_⟩:=x;exact F8 e
 |own y=>obtain⟨_,e⟩:=x;exact F8 e
 |xd fs=>obtain⟨_,⟨_,_,_,e,_⟩,_⟩:=x;exact F8 e
 |rng lo m=>obtain⟨_,_,_,e⟩:=x;exact F8 e
 |frz q u=>obtain⟨e,_⟩:=x;exact F8 e
 |tbl j=>exact F8 (show h.get? a=some _ from x)
 |met f y=>exact F8 (show h.get? a=some _ from x)
 |ext i=>obtain⟨_,⟨_,e⟩,_⟩:=x;exact F8 e
theorem ac0.mapP{i h:Type}{F G:i->h->Prop}:∀{e:List i}{g:List h},ac0 F e g->(∀a b,F a b->G a b)->ac0 G e g
 |_,_,.nil,_=>.nil
 |_,_,.cons r t,f=>.cons (f _ _ r) (ac0.mapP t f)
theorem ac0.imp'{i h:Type}{F G:i->h->Prop}(f:∀a b,F a b->G a b){e:List i}{g:List h}(r:ac0 F e g):ac0 G e g:=ac0.mapP r f
theorem bP.stay(x:bP P w H h a o)(k:∀b u,(b=a∨H b=some (.own a))->h.get? b=some u->h'.get? b=some u)
  (I:∀b,H b=some (.own a)->g b=some (.own a)) (G:∀b xs,H b=some (.tup xs)->g b=some (.tup xs)):bP P w g h' a o:=by
 induction o with
 |lst xs=>obtain⟨z,m,n,r,e⟩:=x;exact⟨z,m,n,r,k _ _ (.inl rfl) e⟩
 |tup xs=>obtain⟨z,m,r,i,e,c⟩:=x;exact⟨z,m,r,i,k _ _ (.inl rfl) e,c⟩
 |dK B=>obtain⟨z,y,L,r,i,l,j,e,c⟩:=x;exact⟨z,y,L,r,i,l,j,k _ _ (.inl rfl) e,c⟩
 |dT B =>
  obtain⟨z,y,xs,r,i,l,j,e,c⟩:=x;exact⟨z,y,xs,ac0.mapP r λp q z=>⟨z.1,G _ _ z.2.1,z.2.2⟩,i,l,j,k _ _ (.inl rfl) e,c⟩
 |set S n=>obtain⟨i,l,j,t,e,c⟩:=x;exact⟨i,l,j,t,k _ _ (.inl rfl) e,c⟩
 |ins C N fs =>
  obtain⟨d,z,J,e,s,⟨A,l,j,M,c⟩,r⟩:=x;exact⟨I _ d,z,J,k _ _ (.inl rfl) e,s,⟨A,l,j,k _ _ (.inr d) M,c⟩,r⟩
 |own y=>obtain⟨i,e⟩:=x;exact⟨i,k _ _ (.inl rfl) e⟩
 |xd fs=>obtain⟨s,⟨A,l,j,e,c⟩,r⟩:=x;exact⟨s,⟨A,l,j,k _ _ (.inl rfl) e,c⟩,r⟩
 |rng lo Q=>obtain⟨t,u,v,e⟩:=x;exact⟨t,u,v,k _ _ (.inl rfl) e⟩
 |frz i u ih=>obtain⟨e,q⟩:=x;exact⟨k _ _ (.inl rfl) e,ih q⟩
 |tbl E =>
  have e:h.get? a=some { cls:=.none,data:=.fields E }:=x;show h'.get? a=some { cls:=.none,data:=.fields E };exact k a _ (.inl rfl) e
 |met f y =>
  have e:h.get? a=some (PySem.W.methodObj (.ref f) (.ref y)):=x;show h'.get? a=some (PySem.W.methodObj (.ref f) (.ref y));exact k a _ (.inl rfl) e
 |ext O=>obtain⟨p,⟨o,e⟩,st⟩:=x;exact⟨st _ _ p λo q=>k _ _ (.inl rfl) q,⟨o,k _ _ (.inl rfl) e⟩,st⟩
theorem HOk.lt(x:HOk P w H h)(e:H a=some o):a<h.objs.size:=(x a o e).lt
theorem HOk.fresh(x:HOk P w H h)(e:h.objs.size<=a):H a=none:=by
 cases q:H a with
 |none=>rfl
 |some u=>exact absurd (F6 (x.lt q) e) (W7 _)
theorem HOk.kept(x:HOk P w H h)(k:∀b u,h.get? b=some u->h'.get? b=some u):HOk P w H h':=λa o e =>
 (x a o e).stay (λb u _ q=>k b u q) (λ_ q=>q) λ_ _ q=>q
theorem HOk.laid(x:HOk P w H h)(k:∀b u,h.get? b=some u->h'.get? b=some u)(i:h.objs.size<=a)(new:bP P w (upd H a o) h' a o):HOk P w (upd H a o) h':=λb u e=>by
 have f:=x.fresh i
 by_cases g:b=a
 ·subst g;rw[aY]at e;cases e;exact new
 ·rw[aJ g]at e;exact(x b u e).stay (λc v _ q=>k c v q) (λc q=>by rw[aJ (cH q f)];exact q) λc j q=>by rw[aJ (cH q f)];exact q
end
def Rd(H:Hp)(a:F0)(u:HO):Prop:=H a=some u∨∃o,H a=some (.frz o u)
theorem Rd.of{H:Hp}{a:F0}{u:HO}(h:H a=some u):Rd H a u:=.inl h
theorem Rd.ok{P:K3}{w:Q5}{H:Hp}{h:J6}{a:F0}{u:HO}(r:Rd H a u)(x:HOk P w H h):bP P w H h a u:=by
 rcases r with r|⟨o,r⟩
 ·exact x a u r
 ·obtain⟨_,q⟩:=x a _ r;exact q
def Mut:Option HO->Prop
 |some (.lst _)=>True
 |some (.dK _)=>True
 |some (.dT _)=>True
 |some (.set _ _)=>True
 |some (.ins _ _ _)=>True
 |some (.ext _)=>True
 |_=>False
section
variable{P:K3}{w:Q5}{H:Hp}{h h':J6}{x e:F0}{g:HO}
theorem HOk.write(ok:HOk P w H h)(n:Mut (H x))(he:e=x∨H e=some (.own x))(k:∀b u,b≠e->h.get? b=some u->h'.get? b=some u)(o:∃u,h'.get? e=some u)
  (new:bP P w (upd H x g) h' x g):HOk P w (upd H x g) h':=λb u q=>by
 have f:∀c y,H c=some (.own y)->c≠x:=λc y r z=>by subst z;rw[r]at n;exact n
 have i:∀c m,H c=some (.tup m)->c≠x:=λc m r z=>by subst z;rw[r]at n;exact n
 by_cases j:b=x
 ·subst j;rw[aY]at q;cases q;exact new
 ·rw[aJ j]at q
  by_cases a:b=e
  ·have p:H b=some (.own x):=by
    rcases he with z|z
    ·exact absurd (a.trans z) j
    ·rw[a];exact z
   rw[q]at p;cases p;obtain⟨v,s⟩:=o;exact⟨v,by rw[a];exact s⟩
  ·refine(ok b u q).stay (λc v l r=>k c v ?_ r) (λc r=>by rw[aJ (f c b r)];exact r) λc m r=>by rw[aJ (i c m r)];exact r
   rcases l with rfl|l
   ·exact a
   ·rintro rfl;rcases he with z|z
    ·exact f c b l z
    ·rw[l]at z;cases z;exact j rfl
end
structure Un(fs ex:List F0) (H H':Hp) (h h':J6):Prop where
 keep:∀b o,h.get? b=some o->H b=none->b∉fs->b∉ex->h'.get? b=some o
 slot:∀b o,h.get? b=some o->H b=none->b∈fs->b∉ex->∃sl,h'.get? b=some { o with slots:=sl }
 free:∀b o,h.get? b=some o->H b=none->b∉ex->H' b=none
 there:∀b o,h.get? b=some o->b∉ex->∃o',h'.get? b=some o'
 tups:∀b xs,H b=some (.tup xs)->H' b=some (.tup xs)
 frzs:∀b o u,H b=some (.frz o u)->H' b=some (.frz o u)
 tbls:∀b ps,H b=some (.tbl ps)->∃more,H' b=some (.tbl (ps++more))
section
variable{fs B g E:List F0}{H G I:Hp}{h y W h':J6}{a x e:F0}{o:HO}
theorem Un.any(u:Un fs g H G h y){b:F0}{a:Obj}(q:h.get? b=some a)(n:H b=none)(e:b∉g):∃i,y.get? b=some { a with slots:=i }:=by
 by_cases f:b∈fs
 ·exact u.slot b a q n f e
 ·exact⟨a.slots,u.keep b a q n f e⟩
theorem Un.kept(k:∀b u,h.get? b=some u->h'.get? b=some u):Un fs g H H h h' :=
 ⟨λb a q _ _ _=>k b a q,λb a q _ _ _=>⟨a.slots,k b a q⟩,λ_ _ _ n _=>n,λb a q _=>⟨a,k b a q⟩,λ_ _ q=>q,λ_ _ _ q=>q,λ_ e q=>⟨#[],by rw[q];simp⟩⟩
theorem Un.refl:Un fs g H H h h:=Un.kept λ_ _ q=>q
theorem Un.laid(k:∀b u,h.get? b=some u->h'.get? b=some u)(i:h.objs.size<=a)(e:H a=none):Un fs g H (upd H a o) h h' where
 keep:=λb u q _ _ _=>k b u q
 slot:=λb u q _ _ _=>⟨u.slots,k b u q⟩
 free:=λb u q n _=>by rw[aJ (K4 (F6 (F8 q) i))];exact n
 there:=λb u q _=>⟨u,k b u q⟩
 tups:=λb f q=>by rw[aJ (cH q e)];exact q
 frzs:=λb u f q=>by rw[aJ (cH q e)];exact q
 tbls:=λb j q=>⟨#[],by rw[aJ (cH q e),q];simp⟩
theorem Un.write(f:Mut (H x))(he:e=x∨H e=some (.own x))(k:∀b u,b≠e->h.get? b=some u->h'.get? b=some u)(i:∃u,h'.get? e=some u):Un fs g H (upd H x o) h h':=by
 have l:∀b,H b=none->b≠x:=λb n z=>by subst z;rw[n]at f;exact f
 have m:∀b,H b=none->b≠e:=λb n z=>by
  subst z;rcases he with r|r
  ·exact l b n r
  ·rw[n]at r;cases r
 have j:∀b u,H b=some u->¬ Mut (some u)->b≠x:=λb u q s z=>by subst z;rw[q]at f;exact s f
 refine⟨λb u q n _ _=>k b u (m b n) q,λb u q n _ _=>⟨u.slots,k b u (m b n) q⟩,λb u q n _=>by rw[aJ (l b n)];exact n,λb u q _=>?_,
  λb p q=>by rw[aJ (j b _ q λz=>z)];exact q,λb u p q=>by rw[aJ (j b _ q λz=>z)];exact q,λb t q=>⟨#[],by rw[aJ (j b _ q λz=>z),q];simp⟩⟩
 by_cases a:b=e
 ·subst a;exact i
 ·exact⟨u,k b u a q⟩
end
def trk(h:J6)(H:Hp):List F0:=(Q4 h.objs.size).filter λa=>(H a).isSome
def oC(h:J6)(H:Hp):J6:=ai4 h (trk h H)
theorem uc(h:J6)(H:Hp):(oC h H).objs.size=h.objs.size:=PySem.W.hideAll_size _ _
theorem wL{h:J6}{H:Hp}{b:F0}{o:Obj}(e:h.get? b=some o)(n:H b=none):(oC h H).get? b=some o :=
 V4 _ e λa=>by
  have q:(H b).isSome=true:=(af7.mp a).2;rw[n]at q;simp at q
theorem yN{h:J6}{H:Hp}{b:F0}{o:Obj}(e:(oC h H).get? b=some o):h.get? b=some o/\H b=none:=by
 have a:h.get? b=some o:=af8 (trk h H) e;refine⟨a,?_⟩;cases q:H b with
 |none=>rfl
 |some x =>
  have f:b∈trk h H:=af7.mpr ⟨aa2.mpr (F8 a),by simp[q]⟩;have z:(oC h H).get? b=none:=W6 (trk h H) f;rw[z]at e;cases e
noncomputable def zf(g h:J6)(L:F0):List (F0×Obj):=(Q4 h.objs.size).filterMap λa=>if a=L∨(g.get? a).isSome=true then none else(h.get? a).map λo=>(a,o)
def rest(g h:J6)(L d:F0):List (F0×Obj):=(zf g h L).filter λp=>decide (p.1≠d)
structure Mod(K:E2) (mg:Str->Option E1) (base:J6):Prop where
 kin:K.In base
 glob:base.Ns J3 mg
 blt:∃mb,base.Ns builtinsNs mb/\∀x:Str,x≠"__name__"->mb x=W0 x
 nolimit:base.NoLimit
structure Cx where
 prog:K3
 w:Q5
 K:E2
 mg:Str->Option E1
 base:J6
 A:M9
 N:List Str
 s₀:E6
 H₀:Hp
 env:Env
 outer:List Env
 stack:List Env
 ex:List F0
 fn:Str->Bool
 calm:Bool
 pn:List (F0×Obj)
 xe:E1->E6->Prop
def frs(l:List Env):List F0:=l.filterMap (·.frame)
abbrev Cx.fs(X:Cx):List F0:=frs X.outer
def Vis(a:ac4)(x:Str):Prop:=a.names.lookup x=some .local∨a.names.lookup x=some .cell∨a.names.lookup x=some .free
def Loc(a:ac4)(x:Str):Prop:=a.names.lookup x=some .local∨a.names.lookup x=some .cell
def Ee(env:Env)(h:J6)(m:Str->Option E1)(x:Str)(u:E1):Prop :=
 (env.kindOf x=some .local/\m x=some u)∨((env.kindOf x=some .cell∨env.kindOf x=some .free)/\∃c,env.cells.lookup x=some c/\h.IsCell c (some u))
structure Cx.Ok(X:Cx):Prop where
 mod:Mod X.K X.mg X.base
 kind:X.env.scope.kind=.function
 glob:X.env.globals=J3
 blt:X.env.builtins=builtinsNs
 above:X.s₀.heap.objs.size<=X.env.locals
 inj:∀x y c,X.env.cells.lookup x=some c->X.env.cells.lookup y=some c->x=y
 has:∀x,(X.env.kindOf x=some .cell∨X.env.kindOf x=some .free)->∃c,X.env.cells.lookup x=some c
 cab:∀x c,X.fn x=true->X.env.cells.lookup x=some c->X.s₀.heap.objs.size<=c
 hd:X.calm=true->X.A.handled=none
 frames:X.A.frames=some X.stack
 stk:X.stack=X.outer∨(X.stack=X.env::X.outer/\X.env.frame=some X.env.locals)
 exf:∀b∈X.ex,b≠X.env.locals/\∀x c,X.env.cells.lookup x=some c->c≠b
 bs:∀b o,X.base.get? b=some o->X.s₀.heap.get? b=some o/\X.H₀ b=none
 bsz:X.base.objs.size<=X.s₀.heap.objs.size
 noex:∀b o,X.base.get? b=some o->b∉X.ex
 exfs:∀b∈X.ex,b∉X.fs
 funs:X.s₀.heap.FunFrames X.base X.outer
 frf:∀b∈X.fs,X.H₀ b=none
structure Inv(X:Cx) (af:List (F0×Obj)) (σ:List (Option V)) (H:Hp) (s:E6):Prop where
 ok:X.Ok
 os:s.os=X.s₀.os
 bare:ah9 s.gens
 base:Un X.fs X.ex X.H₀ H X.s₀.heap s.heap
 loc:∃m,s.heap.Ns X.env.locals m/\∀(i:Nat) (x:Str) (v:V),X.N[i]?=some x->σ[i]?=some (some v)->Vis X.env.scope x->∃u,aO v u/\Ee X.env s.heap m x u
 cell:∀x c,X.env.cells.lookup x=some c->∃v,s.heap.IsCell c v
 free:H X.env.locals=none
 freeC:∀x c,X.env.cells.lookup x=some c->H c=none
 pin:∀p∈X.pn++af,s.heap.get? p.1=some p.2/\H p.1=none/\p.1≠X.env.locals/\p.1∉X.fs/\∀v,p.2.data≠.cell v
 hok:HOk X.prog X.w H s.heap
 len:σ.length=X.N.length
section
variable{X:Cx}{g:List (F0×Obj)}{σ:List (Option V)}{H B:Hp}{s:E6}{h':J6}
theorem Cx.Ok.nofr(ok:X.Ok){b:F0}{o:Obj}(e:X.base.get? b=some o):b∉X.fs:=λa=>by
 have:=(ok.funs.mem a).1;rw[e]at this;cases this
theorem Inv.bs(I:Inv X g σ H s):∀b o,X.base.get? b=some o->s.heap.get? b=some o/\H b=none:=λb o e =>
 ⟨I.base.keep b o (I.ok.bs b o e).1 (I.ok.bs b o e).2 (I.ok.nofr e) (I.ok.noex b o e),I.base.free b o (I.ok.bs b o e).1 (I.ok.bs b o e).2 (I.ok.noex b o e)⟩
theorem Inv.bk(I:Inv X g σ H s):∀b o,X.base.get? b=some o->s.heap.get? b=some o:=λb o e=>(I.bs b o e).1
theorem Inv.mod(I:Inv X g σ H s):Mod X.K X.mg X.base:=I.ok.mod
theorem Inv.kIn(I:Inv X g σ H s):X.K.In s.heap:=I.ok.mod.kin.keeps I.bk
theorem Inv.lt(I:Inv X g σ H s):X.env.locals<s.heap.objs.size:=let⟨_,a,_⟩:=I.loc;a.lt
theorem Inv.sz(I:Inv X g σ H s):X.s₀.heap.objs.size<=s.heap.objs.size:=Q8 I.ok.above (ac5 I.lt)
theorem Inv.nofs(I:Inv X g σ H s){a:F0}(h:s.heap.objs.size<=a):a∉X.fs:=λe=>by
 obtain⟨_,o,b,_⟩:=I.ok.funs.mem e;exact absurd (F6 (F8 b) (Q8 I.sz h)) (W7 _)
theorem Inv.cne(I:Inv X g σ H s):∀x c,X.env.cells.lookup x=some c->c≠X.env.locals:=λx c e z=>by
 obtain⟨v,o,h,f⟩:=I.cell x c e;obtain⟨m,⟨l,j,i,a,b,_⟩,_⟩:=I.loc;rw[z,a]at h;cases h;rw[b]at f;cases f
theorem Inv.funs(I:Inv X g σ H s):s.heap.FunFrames X.base X.outer:=by
 have all:∀(l:List Env),(∀b∈frs l,b∈X.fs)->X.s₀.heap.FunFrames X.base l->s.heap.FunFrames X.base l:=by
  intro l
  induction l with
  |nil=>intro _ _;trivial
  |cons u r ih =>
   intro i n;obtain⟨q,⟨L,o,a,t,m,p⟩,j⟩:=n;have h:L∈X.fs:=i L (by unfold frs;rw[X8,a];exact R9);obtain⟨w,e⟩:=I.base.slot L o m (I.ok.frf L h) h λz=>I.ok.exfs L z h;exact⟨q,⟨L,_,a,t,e,p⟩,ih (λb f=>i b (by unfold frs;rw[X8,a];exact K2 _ f)) j⟩
 exact all X.outer (λ_ f=>f) I.ok.funs
theorem Inv.stack(I:Inv X g σ H s):s.heap.FunFrames X.base X.stack:=by
 rcases I.ok.stk with e|⟨e,a⟩
 ·rw[e];exact I.funs
 ·rw[e];obtain⟨m,b,_⟩:=I.loc;refine .cons (by rw[I.ok.kind];decide) a b ?_ I.funs;exact T3 (Q8 I.ok.bsz I.ok.above)
theorem Inv.stkSub(I:Inv X g σ H s):∀b∈frs X.stack,b∈X.env.locals::X.fs:=λb a=>by
 rcases I.ok.stk with e|⟨e,f⟩
 ·rw[e]at a;exact K2 _ a
 ·rw[e]at a;unfold frs at a;rw[X8,f]at a;exact a
theorem Inv.stkFree(I:Inv X g σ H s):∀b∈frs X.stack,H b=none:=λb a=>by
 rcases I0.mp (I.stkSub b a)with e|a
 ·rw[e];exact I.free
 ·obtain⟨_,o,f,_⟩:=I.ok.funs.mem a;exact I.base.free b o f (I.ok.frf b a) λz=>I.ok.exfs b z a
theorem Inv.step{g':Array ao0}{t':Nat}{d':Drawn}{ch:List F0}(I:Inv X g σ H s)
  (h:∀b∈ch,(b∈X.ex∨X.s₀.heap.objs.size<=b)/\b≠X.env.locals/\(∀x c,X.env.cells.lookup x=some c->c≠b)/\∀p∈X.pn++g,p.1≠b)
  (keep:∀b o,b≠X.env.locals->b∉X.fs->b∉ch->s.heap.get? b=some o->H b=none->h'.get? b=some o)
  (slot:∀b o,b≠X.env.locals->b∈X.fs->b∉ch->s.heap.get? b=some o->H b=none->∃R,h'.get? b=some { o with slots:=R }) (free:∀b o,b∉ch->s.heap.get? b=some o->H b=none->B b=none)
  (A:∀b o,b∉ch->s.heap.get? b=some o->∃J,h'.get? b=some J)
  (L:∀b xs,H b=some (.tup xs)->B b=some (.tup xs)) (G:∀b o u,H b=some (.frz o u)->B b=some (.frz o u)) (M:∀b ps,H b=some (.tbl ps)->∃more,B b=some (.tbl (ps++more)))
  (ns:∀m,s.heap.Ns X.env.locals m->h'.Ns X.env.locals m) (P:HOk X.prog X.w B h') (hg:ah9 g') :
  Inv X g σ B { s with heap:=h',gens:=g',drawn:=d',toks:=t' }:=by
 have O:∀b o,X.s₀.heap.get? b=some o->b≠X.env.locals:=λb o e=>K4 (F6 (F8 e) I.ok.above);have w:∀b o,X.s₀.heap.get? b=some o->b∉X.ex->b∉ch:=λb o e a C=>by
  rcases(h b C).1 with z|z
  ·exact a z
  ·exact absurd (F6 (F8 e) z) (W7 _)
 have j:∀x c,X.env.cells.lookup x=some c->∀v,s.heap.IsCell c v->h'.IsCell c v:=λx c e v ⟨o,E,S⟩=>by
  have f:c∉ch:=λz=>(h c z).2.2.1 x c e rfl
  by_cases U:c∈X.fs
  ·obtain⟨R,q⟩:=slot c o (I.cne x c e) U f E (I.freeC x c e);exact⟨_,q,S⟩
  ·exact⟨o,keep c o (I.cne x c e) U f E (I.freeC x c e),S⟩
 refine⟨I.ok,I.os,hg,⟨λb o e n C a=>?_,λb o e n C a=>?_,λb o e n a=>?_,λb o e a=>?_,λb xs e=>L b xs (I.base.tups b xs e),λb o xs e=>G b o xs (I.base.frzs b o xs e),λb ps e=>?_⟩,?_,λx c e=>?_,?_,λx c e=>?_,λp Y=>?_,P,I.len⟩
 ·exact keep b o (O b o e) C (w b o e a) (I.base.keep b o e n C a) (I.base.free b o e n a)
 ·obtain⟨R,t⟩:=I.base.slot b o e n C a;obtain⟨Q,N⟩:=slot b _ (O b o e) C (w b o e a) t (I.base.free b o e n a);exact⟨Q,N⟩
 ·obtain⟨J,t⟩:=I.base.there b o e a;exact free b J (w b o e a) t (I.base.free b o e n a)
 ·obtain⟨J,t⟩:=I.base.there b o e a;exact A b J (w b o e a) t
 ·obtain⟨m1,t⟩:=I.base.tbls b ps e;obtain⟨m2,N⟩:=M b _ t;exact⟨m1++m2,by rw[N,Array.append_assoc]⟩
 ·obtain⟨m,hn,hl⟩:=I.loc;refine⟨m,ns m hn,λi x v t N e3=>?_⟩;obtain⟨u,r,l⟩:=hl i x v t N e3;refine⟨u,r,?_⟩;rcases l with l|⟨k,c,e,z⟩
  ·exact .inl l
  ·exact .inr ⟨k,c,e,j x c e _ z⟩
 ·obtain⟨v,z⟩:=I.cell x c e;exact⟨v,j x c e v z⟩
 ·obtain⟨m,⟨o,_,_,E,_⟩,_⟩:=I.loc;exact free _ o (λz=>(h _ z).2.1 rfl) E I.free
 ·obtain⟨v,o,E,S⟩:=I.cell x c e;exact free c o (λz=>(h c z).2.2.1 x c e rfl) E (I.freeC x c e)
 ·obtain⟨e,n,Z,T,d⟩:=I.pin p Y;have f:p.1∉ch:=λz=>(h p.1 z).2.2.2 p Y rfl;exact⟨keep p.1 p.2 Z T f e n,free p.1 p.2 f e n,Z,T,d⟩
theorem Inv.un{t':Nat}(I:Inv X g σ H s)(u:Un X.fs [] H B s.heap h')(i:HOk X.prog X.w B h'):Inv X g σ B { s with heap:=h',toks:=t' }:=by
 obtain⟨m,⟨o,C,A,l,r⟩,_⟩:=id I.loc;obtain⟨E,q⟩:=u.any l I.free (by simp);exact I.step (g':=s.gens) (d':=s.drawn) (ch:=[]) (λ_ z=>nomatch z) (λb o _ h _ e n=>u.keep b o e n h (by simp)) (λb o _ h _ e n=>u.slot b o e n h (by simp)) (λb o _ e n=>u.free b o e n (by simp)) (λb o _ e=>u.there b o e (by simp)) u.tups u.frzs u.tbls (λx p=>by
  obtain⟨w,j,f,a,t⟩:=p;rw[l]at a;cases a;exact⟨_,j,f,q,t⟩) i I.bare
theorem Inv.call{g':Array ao0}{t':Nat}{d':Drawn}{ch:List F0}(I:Inv X g σ H s)(u:Un (frs X.stack) ch H B s.heap h')(j:HOk X.prog X.w B h')(hg:ah9 g')
  (f:∀b∈ch,(b∈X.ex∨X.s₀.heap.objs.size<=b)/\b≠X.env.locals/\(∀x c,X.env.cells.lookup x=some c->c≠b)/\∀p∈X.pn++g,p.1≠b) :
  Inv X g σ B { s with heap:=h',gens:=g',drawn:=d',toks:=t' }:=by
 obtain⟨m,⟨o,L,J,t,r⟩,_⟩:=id I.loc;obtain⟨M,l⟩:=u.any t I.free λz=>(f _ z).2.1 rfl;exact I.step (ch:=ch) f (λb o l A a e n=>u.keep b o e n (λz=>(I0.mp (I.stkSub b z)).elim l A) a) (λb o _ _ a e n=>u.any e n a) (λb o a e n=>u.free b o e n a) (λb o a e=>u.there b o e a) u.tups u.frzs u.tbls (λG w=>by
  obtain⟨E,q,i,h,C⟩:=w;rw[t]at h;cases h;exact⟨_,q,i,l,C⟩) j hg
theorem Inv.turned{t':Nat}{it:F0}(I:Inv X g σ H s)(k:∀b o,b≠it->s.heap.get? b=some o->h'.get? b=some o)(A:H it=none)(h:it≠X.env.locals)
  (E:it∈X.ex∨X.s₀.heap.objs.size<=it) (C:∀x c,X.env.cells.lookup x=some c->c≠it) (j:∀p∈X.pn++g,p.1≠it):Inv X g σ H { s with heap:=h',toks:=t' }:=by
 have f:∀b u,H b=some u->b≠it:=λb u e z=>by rw[z,A]at e;cases e
 refine I.step (g':=s.gens) (d':=s.drawn) (ch:=[it]) (λb t=>?_) (λb o _ _ a e _=>k b o (λz=>a (by simp[z])) e) (λb o _ _ a e _=>⟨o.slots,k b o (λz=>a (by simp[z])) e⟩) (λ_ _ _ _ n=>n)
  (λb o a e=>⟨o,k b o (λz=>a (by simp[z])) e⟩) (λ_ _ e=>e) (λ_ _ _ e=>e) (λb G e=>⟨#[],by rw[e];simp⟩) (λm l=>?_) (λb u e=>?_) I.bare
 ·have e:b=it:=by simpa using t
  subst e;exact⟨E,h,C,j⟩
 ·obtain⟨o,B,w,i,r⟩:=l;exact⟨o,B,w,k _ o (T7 h) i,r⟩
 ·refine(I.hok b u e).stay (λc v a q=>k c v ?_ q) (λ_ q=>q) λ_ _ q=>q;rcases a with z|z
  ·rw[z];exact f b u e
  ·exact f c _ z
theorem Inv.tok(I:Inv X g σ H s)(t:Nat):Inv X g σ H { s with toks:=t }:=I.un (h':=s.heap) (t':=t) Un.refl I.hok
theorem Inv.kept{t':Nat}(I:Inv X g σ H s)(k:∀b u,s.heap.get? b=some u->h'.get? b=some u):Inv X g σ H { s with heap:=h',toks:=t' }:=I.un (Un.kept k) (I.hok.kept k)
theorem Inv.laid{a:F0}{o:HO}{t':Nat}(I:Inv X g σ H s)(k:∀b u,s.heap.get? b=some u->h'.get? b=some u)(e:s.heap.objs.size<=a)(new:bP X.prog X.w (upd H a o) h' a o):
  Inv X g σ (upd H a o) { s with heap:=h',toks:=t' }:=I.un (Un.laid k e (I.hok.fresh e)) (I.hok.laid k e new)
theorem Inv.write{x e:F0}{o:HO}{t':Nat}(I:Inv X g σ H s)(f:Mut (H x))(he:e=x∨H e=some (.own x))(k:∀b u,b≠e->s.heap.get? b=some u->h'.get? b=some u)(a:∃u,h'.get? e=some u)
  (new:bP X.prog X.w (upd H x o) h' x o):Inv X g σ (upd H x o) { s with heap:=h',toks:=t' }:=I.un (Un.write f he k a) (I.hok.write f he k a new)
theorem Inv.pins_of{a:List (F0×Obj)}(I:Inv X g σ H s)(h:∀p∈a,s.heap.get? p.1=some p.2/\H p.1=none/\p.1≠X.env.locals/\p.1∉X.fs/\∀v,p.2.data≠.cell v):Inv X a σ H s :=
 ⟨I.ok,I.os,I.bare,I.base,I.loc,I.cell,I.free,I.freeC,λp b=>(K0.mp b).elim (λz=>I.pin p (N7 _ z)) (h p),I.hok,I.len⟩
theorem lF{N:List Str}(f:N.Nodup){i j:Nat}{x:Str}(a:N[i]?=some x)(b:N[j]?=some x):i=j:=by
 obtain⟨l,e⟩:=J8.mp a;obtain⟨h,g⟩:=J8.mp b;exact(List.getElem_inj f).mp (e.trans g.symm)
theorem nM{M:ap2}{A:M9}{E:E1->E6->Prop}{i:Nat}{x:Str}{v:V}{u:E1}{Q:Unit->E6->Prop}(I:Inv X g σ H s)(hN:X.N.Nodup)(hi:X.N[i]?=some x)(B:Loc X.env.scope x)(r:aO v u)
  (h:∀s',Inv X g (σ.set i (some v)) H s'->(∃a,Z6 a s.heap s'.heap/\(a=X.env.locals∨X.env.cells.lookup x=some a))->Q () s') (hf:X.fn x=true∨X.env.scope.names.lookup x=some .local:=by first|exact .inl rfl|exact .inr rfl|assumption):H0 M A (ap7 X.env x u) Q E s:=by
 obtain⟨m,hn,hl⟩:=id I.loc;have R:(X.env.scope.kind==.class || (X.env.scope.kind==.module&&X.env.locals != X.env.globals))=false:=by rw[I.ok.kind];rfl
 have J:i<σ.length:=by rw[I.len];exact(J8.mp hi).1
 have cne:=I.cne;have t:∀{a:F0} {h':J6},(∃o,s.heap.get? a=some o/\H a=none)->Z6 a s.heap h'->HOk X.prog X.w H h':=λ{a h'} ha f b ob e=>by
  obtain⟨_,_,C⟩:=ha;refine(I.hok b ob e).stay (λc Z w q=>(f.2 c ?_).trans q) (λ_ q=>q) λ_ _ q=>q;rintro rfl;rcases w with rfl|w
  ·rw[C]at e;cases e
  ·rw[C]at w;cases w
 rcases B with L|L
 ·refine wpAny_storeName_local L hn (λh' a0 f=>?_) R;obtain⟨oL,_,_,a1,_⟩:=id hn;refine h _ ⟨I.ok,I.os,I.bare,⟨λb o e n P B=>?_,λb o e n P B=>?_,I.base.free,λb o e B=>?_,I.base.tups,I.base.frzs,I.base.tbls⟩,⟨_,a0,λj y v' l G e3=>?_⟩,λy c e=>?_,I.free,I.freeC,λp hp=>?_,t ⟨oL,a1,I.free⟩ f,by simpa using I.len⟩ ⟨_,f,.inl rfl⟩
  ·exact(f.2 b (K4 (F6 (F8 e) I.ok.above))).trans (I.base.keep b o e n P B)
  ·obtain⟨sl,l⟩:=I.base.slot b o e n P B;exact⟨sl,(f.2 b (K4 (F6 (F8 e) I.ok.above))).trans l⟩
  ·obtain⟨o',l⟩:=I.base.there b o e B;exact⟨o',(f.2 b (K4 (F6 (F8 e) I.ok.above))).trans l⟩
  ·by_cases O:j=i
   ·subst O;rw[hi]at l;cases l;rw[N5 J]at G;cases G;exact⟨u,r,.inl ⟨L,by simp⟩⟩
   ·rw[T4 (T7 O)]at G;obtain⟨u',r',q⟩:=hl j y v' l G e3;refine⟨u',r',?_⟩;rcases q with⟨k,e⟩|⟨k,c,e,z⟩
    ·refine .inl ⟨k,?_⟩;have:y≠x:=λe=>O (lF hN l (e▸hi));simp[this,e]
    ·exact .inr ⟨k,c,e,z.sameBut f (cne y c e)⟩
  ·obtain⟨Z,z⟩:=I.cell y c e;exact⟨Z,z.sameBut f (cne y c e)⟩
  ·obtain⟨e,n,ne,nf,d⟩:=I.pin p hp;exact⟨(f.2 p.1 ne).trans e,n,ne,nf,d⟩
 ·have N:X.fn x=true:=by
   rcases hf with z|z
   ·exact z
   ·rw[z]at L;cases L
  obtain⟨c,w⟩:=I.ok.has x (.inl L);obtain⟨Z,z⟩:=I.cell x c w;refine wpAny_storeName_cell I.ok.kind L w z (λh' S f=>?_);obtain⟨oc,T,U⟩:=id z;refine h { s with heap:=h' } ⟨I.ok,I.os,I.bare,⟨λb o e n P B=>?_,λb o e n P B=>?_,I.base.free,λb o e B=>?_,I.base.tups,I.base.frzs,I.base.tbls⟩,⟨m,hn.sameBut f (T7 (cne x c w)),λj y v' l G e3=>?_⟩,λy c' e=>?_,I.free,I.freeC,λp hp=>?_,t ⟨oc,T,I.freeC x c w⟩ f,by simpa using I.len⟩ ⟨c,f,.inr w⟩
  ·exact(f.2 b (K4 (F6 (F8 e) (I.ok.cab x c N w)))).trans (I.base.keep b o e n P B)
  ·obtain⟨sl,l⟩:=I.base.slot b o e n P B;exact⟨sl,(f.2 b (K4 (F6 (F8 e) (I.ok.cab x c N w)))).trans l⟩
  ·obtain⟨o',l⟩:=I.base.there b o e B;exact⟨o',(f.2 b (K4 (F6 (F8 e) (I.ok.cab x c N w)))).trans l⟩
  ·by_cases O:j=i
   ·subst O;rw[hi]at l;cases l;rw[N5 J]at G;cases G;exact⟨u,r,.inr ⟨.inl L,c,w,S⟩⟩
   ·rw[T4 (T7 O)]at G;obtain⟨u',r',q⟩:=hl j y v' l G e3;refine⟨u',r',?_⟩;rcases q with q|⟨k,c',e,z'⟩
    ·exact .inl q
    ·refine .inr ⟨k,c',e,z'.sameBut f ?_⟩;rintro rfl;exact O (lF hN l (I.ok.inj _ _ _ e w▸hi))
  ·by_cases Y:c'=c
   ·subst Y;exact⟨_,S⟩
   ·obtain⟨w2,z2⟩:=I.cell y c' e;exact⟨w2,z2.sameBut f Y⟩
  ·obtain⟨e,n,ne,nf,d⟩:=I.pin p hp;refine⟨(f.2 p.1 ?_).trans e,n,ne,nf,d⟩;intro q;rw[q,T]at e;have q':oc=p.2:=R1 e;exact d Z (by rw[<-q'];exact U)
theorem fJ{M:ap2}{A:M9}{E:E1->E6->Prop}{i:Nat}{x:Str}{v:V}{u:E1}{Q:Unit->E6->Prop}(I:Inv X g σ H s)(e:X.N.Nodup)(hi:X.N[i]?=some x)(b:Loc X.env.scope x)(r:aO v u)
  (h:∀s',Inv X g (σ.set i (some v)) H s'->Q () s') (a:X.fn x=true∨X.env.scope.names.lookup x=some .local:=by first|exact .inl rfl|exact .inr rfl|assumption):H0 M A (ap7 X.env x u) Q E s :=
 nM I e hi b r (λs' f _=>h s' f) a
theorem Inv.call'{s':E6}{ch:List F0}(I:Inv X g σ H s)(m:s'.os=s.os)(u:Un (frs X.stack) ch H B s.heap s'.heap)(f:HOk X.prog X.w B s'.heap)(hg:ah9 s'.gens)
  (a:∀b∈ch,(b∈X.ex∨X.s₀.heap.objs.size<=b)/\b≠X.env.locals/\(∀x c,X.env.cells.lookup x=some c->c≠b)/\∀p∈X.pn++g,p.1≠b):Inv X g σ B s':=by
 obtain⟨h',i,j,h,l⟩:=s';have e:l=s.os:=m;subst e;exact I.call (g':=i) (t':=h) (d':=j) u f hg a
end
abbrev XK:=E1->Option F0->Hp->Prop
noncomputable abbrev St:=List (Option V)
abbrev VK:=V->Hp->Prop
abbrev TE:=St->Hp->VK->Prop
abbrev TT:=St->Hp->(Bool->Hp->Prop)->Prop
abbrev TA:=St->Hp->(List V->Hp->Prop)->Prop
structure m5 where
 nx:St->Hp->Prop
 rt:VK
 bk:St->Hp->Prop:=λ_ _=>False
 ct:St->Hp->Prop:=λ_ _=>False
abbrev TS:=m5->St->Hp->Prop
def EP(X:Cx)(b:List (F0×Obj))(σ:St)(Q:VK)(u:E1)(s':E6):Prop:=∃v a,Inv X b σ a s'/\aO v u/\Q v a
def TP(X:Cx)(e:List (F0×Obj))(σ:St)(Q:Bool->Hp->Prop)(b:Bool)(s':E6):Prop:=∃a,Inv X e σ a s'/\Q b a
def AP(X:Cx)(e:List (F0×Obj))(σ:St)(Q:List V->Hp->Prop)(us:List E1)(s':E6):Prop:=∃b a,Inv X e σ a s'/\aA b us/\Q b a
theorem EP.el{X:Cx}{e:List (F0×Obj)}{σ:St}{Q:VK}{u:E1}{s:E6}{P:Prop}(h:EP X e σ Q u s)(f:∀(v:V) (H:Hp),Inv X e σ H s->aO v u->Q v H->P):P:=by
 obtain⟨i,g,a,b,c⟩:=h;exact f i g a b c
theorem AP.el{X:Cx}{e:List (F0×Obj)}{σ:St}{Q:List V->Hp->Prop}{u:List E1}{s:E6}{P:Prop}(h:AP X e σ Q u s)(f:∀(v:List V) (H:Hp),Inv X e σ H s->aA v u->Q v H->P):P:=by
 obtain⟨i,g,a,b,c⟩:=h;exact f i g a b c
theorem TP.el{X:Cx}{e:List (F0×Obj)}{σ:St}{Q:Bool->Hp->Prop}{u:Bool}{s:E6}{P:Prop}(h:TP X e σ Q u s)(f:∀(H:Hp),Inv X e σ H s->Q u H->P):P:=by
 obtain⟨g,a,b⟩:=h;exact f g a b
def SP(X:Cx)(e:List (F0×Obj))(D:m5)(f:Flow)(s':E6):Prop :=
 match f with
 |.next=>∃ a b,Inv X e a b s'/\D.nx a b
 |.brk=>∃ a b,Inv X e a b s'/\D.bk a b
 |.cont=>∃ a b,Inv X e a b s'/\D.ct a b
 |.ret u=>∃v a b,Inv X e a b s'/\aO v u/\D.rt v b
def PE(X:Cx)(e:K8)(t:TE):Prop :=
 ∀(b:List (F0×Obj)) (s:E6) (a:St) (H:Hp) (Q:VK),Inv X b a H s->t a H Q->H0 (K7 X.prog X.w) X.A (X7 e X.env) (EP X b a Q) X.xe s
def PT(X:Cx)(e:K8)(t:TT):Prop :=
 ∀(b:List (F0×Obj)) (s:E6) (a:St) (H:Hp) (Q:Bool->Hp->Prop),Inv X b a H s->t a H Q->H0 (K7 X.prog X.w) X.A (isTrue e X.env (X7 e X.env)) (TP X b a Q) X.xe s
def PW(X:Cx)(e:K8)(t:TT):Prop :=
 ∀(a:Sem E1) (f:List (F0×Obj)) (s:E6) (b:St) (H:Hp) (Q:Bool->Hp->Prop),Inv X f b H s->t b H Q->H0 (K7 X.prog X.w) X.A (isTrue e X.env a) (TP X f b Q) X.xe s
theorem PW.pt{X:Cx}{e:K8}{t:TT}(h:PW X e t):PT X e t:=h _
def PA(X:Cx)(f:List K8)(t:TA):Prop :=
 ∀(a:Pos) (e:List (F0×Obj)) (s:E6) (b:St) (H:Hp) (Q:List V->Hp->Prop),Inv X e b H s->t b H Q->H0 (K7 X.prog X.w) X.A (spliced (U3 a (E9 f X.env))) (AP X e b Q) X.xe s
def PS(X:Cx)(st:W8)(t:TS):Prop :=
 ∀(b:List (F0×Obj)) (s:E6) (a:St) (H:Hp) (D:m5),Inv X b a H s->t D a H->H0 (K7 X.prog X.w) X.A (exec st X.env) (SP X b D) X.xe s
def PSs(X:Cx)(st:List W8)(t:TS):Prop :=
 ∀(b:List (F0×Obj)) (s:E6) (a:St) (H:Hp) (D:m5),Inv X b a H s->t D a H->H0 (K7 X.prog X.w) X.A (execs st X.env) (SP X b D) X.xe s
theorem thn{b:Type}{t:Sem b}{Q e:b->E6->Prop}{M:ap2}{A:M9}{E:E1->E6->Prop}{s:E6}(h:H0 M A t Q E s)(f:∀a s,Q a s->e a s):H0 M A t e E s:=O1 h f λ_ _ x=>x
section
variable{X:Cx}
def ue(i:Nat):TE:=λa H Q=>∃v,a[i]?=some (some v)/\Q v H
def tC(v:V):TE:=λ_ H Q=>Q v H
theorem wF{i:Nat}{x:Str}{pos:Pos}(t:X.N[i]?=some x)(o:Vis X.env.scope x)(g:(x==("__debug__":Str))=false:=by decide)(j:(x==("__classdict__":Str))=false:=by decide):PE X (.Name x pos) (ue i):=by
 intro w s p H Q I h;obtain⟨v,e,h⟩:=h;obtain⟨m,q,z⟩:=I.loc;obtain⟨u,r,l⟩:=z i x v t e o;have f:EP X w p Q u s:=⟨v,H,I,r,h⟩;rcases l with⟨b,A⟩|⟨b,c,n,a⟩
 ·exact wpAny_Name (wpAny_loadName_local I.ok.kind b q A f) g
 ·rcases b with b|b
  ·exact wpAny_Name (wpAny_loadName_cell I.ok.kind b n a f) g
  ·exact wpAny_Name (wpAny_loadName_free I.ok.kind b n a f j) g
theorem BM{i j pos}:PE X (.Constant (.int i) j pos) (tC (.int i)):=λ_ _ _ H _ I h=>wpAny_Constant_int ⟨.int i,H,I.tok _,⟨_,rfl⟩,h⟩
theorem Cz{b j pos}:PE X (.Constant (.bool b) j pos) (tC (.bl b)):=λ_ _ _ H _ I h=>Constant_bool ⟨.bl b,H,I,rfl,h⟩
theorem BP{j pos}:PE X (.Constant .none j pos) (tC .non):=λ_ _ _ H _ I h=>Constant_none ⟨.non,H,I,rfl,h⟩
theorem wm{x j pos}:PE X (.Constant (.str x) j pos) (tC (.str x)):=λ_ _ _ H _ I h=>Calls.Constant_str ⟨.str x,H,I.tok _,⟨_,rfl⟩,h⟩
def Gl(X:Cx)(x:Str):Prop:=X.env.kindOf x=some .globalImplicit
theorem il{E:E1->E6->Prop}{b:List (F0×Obj)}{s:E6}{σ:St}{H:Hp}{x:Str}{u:E1}{pos:Pos}{Q:E1->E6->Prop}(I:Inv X b σ H s)(hg:Gl X x)(e:X.mg x=some u)(h:Q u s)
  (a:(x==("__debug__":Str))=false:=by decide):H0 (K7 X.prog X.w) X.A (X7 (.Name x pos) X.env) Q E s :=
 Calls.Name_function_global I.ok.kind hg (Calls.loadGlobal_global (by rw[I.ok.glob];exact I.mod.glob.keeps I.bk) e h) a
theorem jh{E:E1->E6->Prop}{b:List (F0×Obj)}{s:E6}{σ:St}{H:Hp}{x:Str}{u:E1}{pos:Pos}{Q:E1->E6->Prop}(I:Inv X b σ H s)(hg:Gl X x)(e:X.mg x=none)(a:W0 x=some u)(h:Q u s)
  (g:x≠"__name__":=by decide) (f:(x==("__debug__":Str))=false:=by decide):H0 (K7 X.prog X.w) X.A (X7 (.Name x pos) X.env) Q E s:=by
 obtain⟨l,j,i⟩:=I.mod.blt;exact Calls.Name_function_global I.ok.kind hg (Calls.loadGlobal_builtin (by rw[I.ok.glob];exact I.mod.glob.keeps I.bk) e (by rw[I.ok.blt];exact j.keeps I.bk) ((i x g).trans a) h) f
theorem oD{x:Str}{v:V}{u:E1}{pos:Pos}(hg:Gl X x)(b:X.mg x=some u)(r:aO v u)(a:(x==("__debug__":Str))=false:=by decide):PE X (.Name x pos) (tC v) :=
 λ_ _ _ H _ I h=>il I hg b ⟨v,H,I,r,h⟩ a
theorem sM{x:Str}{v:V}{u:E1}{pos:Pos}(hg:Gl X x)(f:X.mg x=none)(a:W0 x=some u)(r:aO v u)(e:x≠"__name__":=by decide)(b:(x==("__debug__":Str))=false:=by decide):PE X (.Name x pos) (tC v) :=
 λ_ _ _ H _ I h=>jh I hg f a ⟨v,H,I,r,h⟩ e b
variable{a b:K8}{g B:TE}{pos:Pos}
theorem vH(b:K8){a:an2}(h:a≠.In)(f:a≠.NotIn):ad2 a b=false:=by
 have e:(a==an2.In)=false:=by cases a<;>first|rfl|exact absurd rfl h
 have g:(a==an2.NotIn)=false:=by cases a<;>first|rfl|exact absurd rfl f
 cases b<;>simp[ad2,e,g]
def tB(t:TE):TT:=λa H Q=>t a H λx b=>∃c,x=.bl c/\Q c b
theorem Ai{e:K8}{t:TE}(h:PE X e t)(he:∀a,isTrue e X.env a=(do let v <-a;am1 e.pos;ak4 [v] (truthy v)):=by intro _;rfl):PT X e (tB t):=by
 intro i s j H Q I m;refine isTrue_plain (thn (h i s j H _ I m) λv o b=>b.el λx f l g n=>?_) (he _);obtain⟨d,rfl,q⟩:=n;cases g;exact O2 ⟨f,l,q⟩
variable{y z:TT}{rest:List K8}
def Ej(t u:TT):TT:=λa H Q=>t a H λc b=>if c=true then u a b Q else Q false b
def tOr(t u:TT):TT:=λa H Q=>t a H λc b=>if c=true then Q true b else u a b Q
def EC(t:TT):TT:=λa H Q=>t a H λc b=>Q (!c) b
theorem yz(ha:PT X a y):PW X (.BoolOp .And [a] pos) y:=by
 intro g f s b H Q I h;refine isTrue_and (thn (ha f s b H Q I h) λc i e=>?_);cases c with
 |true=>exact isTrue_and_nil e
 |false=>exact e
theorem A6(ha:PT X a y):PW X (.BoolOp .Or [a] pos) y:=by
 intro g f s b H Q I h;refine isTrue_or (thn (ha f s b H Q I h) λc i e=>?_);cases c with
 |false=>exact isTrue_or_nil e
 |true=>exact e
theorem Bc(ha:PT X a y)(n:PW X (.BoolOp .And (b::rest) pos) z):PW X (.BoolOp .And (a::b::rest) pos) (Ej y z):=by
 intro m g s i H Q I h;refine isTrue_and (thn (ha g s i H _ I h) λc o e=>e.el λf j l=>?_);cases c with
 |true=>exact n m g o i f Q j l
 |false=>exact⟨f,j,l⟩
theorem CP(ha:PT X a y)(n:PW X (.BoolOp .Or (b::rest) pos) z):PW X (.BoolOp .Or (a::b::rest) pos) (tOr y z):=by
 intro m g s i H Q I h;refine isTrue_or (thn (ha g s i H _ I h) λc o e=>e.el λf j l=>?_);cases c with
 |true=>exact⟨f,j,l⟩
 |false=>exact n m g o i f Q j l
theorem Az(ha:PT X a y):PT X (.UnaryOp .Not a pos) (EC y):=by
 intro f s b H Q I h;exact isTrue_not (ha f s b H (λc e=>Q (!c) e) I h)
def Dm(g B:TE):TE:=λa H Q=>g a H λx b=>∃c,x=.bl c/\if c=true then B a b Q else Q (.bl false) b
def B9(g:TE):TE:=λa H Q=>g a H λx b=>∃c,x=.bl c/\Q (.bl (!c)) b
theorem Bb{op}{t:TE}(h:PE X a t):PE X (.BoolOp op [a] pos) t:=λf s b H Q I e=>BoolOp_one (h f s b H Q I e)
theorem AU(ha:PE X a g)(o:PE X (.BoolOp .And (b::rest) pos) B):PE X (.BoolOp .And (a::b::rest) pos) (Dm g B):=by
 intro j s l H Q I h;refine BoolOp_and (thn (ha j s l H _ I h) λv p f=>f.el λx i m n e=>?_);obtain⟨c,rfl,e⟩:=e;cases n;refine O2 ?_;cases c with
 |true=>exact o j p l i Q m e
 |false=>exact⟨.bl false,i,m,rfl,e⟩
theorem BJ(ha:PE X a g):PE X (.UnaryOp .Not a pos) (B9 g):=by
 intro m s f H Q I h;refine UnaryOp_ (thn (ha m s f H _ I h) λv n b=>b.el λx i l j e=>?_);obtain⟨c,rfl,e⟩:=e;cases j;exact not_of (O2 ⟨.bl (!c),i,l,rfl,e⟩)
def tIf(t:TT)(g B:TE):TE:=λa H Q=>t a H λc b=>if c=true then g a b Q else B a b Q
theorem wX{c:K8}(p:PT X c y)(ha:PE X a g)(o:PE X b B):PE X (.IfExp c a b pos) (tIf y g B):=by
 intro f s i H Q I h;refine wpAny_IfExp (thn (p f s i H _ I h) λd l e=>e.el λj m n=>?_);cases d with
 |true=>exact ha f l i j Q m n
 |false=>exact o f l i j Q m n
end
def SqL(K:E2)(H:Hp)(a:F0)(xs:List V):Prop :=
 Rd H a (.lst xs) ∨
  ∃(o:Obj) (b:Array E1) (n:Nat),K.lookup a=some o/\o.cls=.type "list"/\o.dict=none/\o.data=.seq b n/\b.size<=F2/\aA xs b.toList
def SqT(K:E2)(H:Hp)(a:F0)(xs:List V):Prop :=
 Rd H a (.tup xs) ∨
  ∃(o:Obj) (b:Array E1) (n:Nat),K.lookup a=some o/\(o.cls=.type "tuple"/\o.dict=none)/\o.data=.seq b n/\b.size<=F2/\aA xs b.toList
noncomputable def D6:E1->Option V
 |.none=>some .non
 |.bool b=>some (.bl b)
 |.int i _=>some (.int i)
 |.str x _=>some (.str x)
 |.bytes b _=>some (.byt b)
 |.float b _=>some (.flt b)
 |.ref a=>some (.ref a)
 |.type n=>some (.ty n)
 |_=>none
theorem aO.abs{x:V}{u:E1}(r:aO x u):D6 u=some x:=by
 cases x with
 |non=>cases r;rfl
 |bl _=>cases r;rfl
 |int _=>obtain⟨t,rfl⟩:=r;rfl
 |str _=>obtain⟨t,rfl⟩:=r;rfl
 |byt _=>obtain⟨t,rfl⟩:=r;rfl
 |flt _=>obtain⟨t,rfl⟩:=r;rfl
 |ref _=>cases r;rfl
 |ty _=>cases r;rfl
theorem aO.inj{x y:V}{u:E1}(r:aO x u)(q:aO y u):x=y:=R1 (r.abs.symm.trans q.abs)
theorem aA.inj:∀{xs a:List V}{us:List E1},aA xs us->aA a us->xs=a
 |_,_,_,.nil,.nil=>rfl
 |_,_,_,.cons r t,.cons e b=>by rw[r.inj e,aA.inj t b]
section
variable{X:Cx}{g:List (F0×Obj)}{σ:St}{H:Hp}{s:E6}{a:F0}{xs y:List V}
theorem SqL.of{K:E2}(h:H a=some (.lst xs)):SqL K H a xs:=.inl (.inl h)
theorem SqT.of{K:E2}(h:H a=some (.tup xs)):SqT K H a xs:=.inl (.inl h)
theorem Inv.list(I:Inv X g σ H s)(h:SqL X.K H a xs):∃b:List E1,aA xs b/\PlainL s.heap a b.toArray/\xs.length<=F2:=by
 rcases h with h|⟨o,b,n,i,l,f,j,m,r⟩
 ·obtain⟨z,b,n,r,e⟩:=h.ok I.hok;exact⟨b,r,⟨_,n,e,rfl,rfl,rfl⟩,z⟩
 ·refine⟨b.toList,r,⟨o,n,I.kIn a o i,l,f,by simpa using j⟩,?_⟩;have e:=r.length;simp only[P7]at e
  lia
theorem Inv.tuple(I:Inv X g σ H s)(h:SqT X.K H a xs):∃b:List E1,aA xs b/\am0 s.heap a b.toArray/\xs.length<=F2:=by
 rcases h with h|⟨o,b,n,f,j,i,l,r⟩
 ·obtain⟨z,b,r,p⟩:=h.ok I.hok;exact⟨b,r,p.tup,z⟩
 ·refine⟨b.toList,r,⟨o,I.kIn a o f,j.1,n,by simpa using i⟩,?_⟩;have e:=r.length;simp only[P7]at e
  lia
theorem Inv.tupN(I:Inv X g σ H s)(h:SqT X.K H a xs):∃b:List E1,aA xs b/\jJ s.heap a b.toArray/\xs.length<=F2:=by
 rcases h with h|⟨o,b,n,i,f,j,l,r⟩
 ·obtain⟨z,b,r,p⟩:=h.ok I.hok;exact⟨b,r,p,z⟩
 ·refine⟨b.toList,r,⟨o,I.kIn a o i,f.1,⟨n,by simpa using j⟩,f.2⟩,?_⟩;have e:=r.length;have m:b.toList.length=b.size:=P7
  lia
theorem Inv.list_inj(I:Inv X g σ H s)(h:SqL X.K H a xs)(h':SqL X.K H a y):xs=y:=by
 obtain⟨f,r,⟨o,n,e,_,_,d⟩,_⟩:=I.list h;obtain⟨b,m,⟨p,q,j,_,_,i⟩,_⟩:=I.list h';rw[e]at j;cases j;rw[d]at i;injection i with l _
 have:f=b:=by simpa using congrArg Array.toList l
 subst this;exact r.inj m
theorem Inv.tuple_inj(I:Inv X g σ H s)(h:SqT X.K H a xs)(h':SqT X.K H a y):xs=y:=by
 obtain⟨f,r,⟨o,e,_,n,d⟩,_⟩:=I.tuple h;obtain⟨b,m,⟨p,j,_,q,i⟩,_⟩:=I.tuple h';rw[e]at j;cases j;rw[d]at i;injection i with l _
 have:f=b:=by simpa using congrArg Array.toList l
 subst this;exact r.inj m
end
abbrev Cx.wish(X:Cx)(E:E1->E6->Prop):Cx:={ X with xe:=E }
abbrev Cx.nox(X:Cx):Cx:=X.wish λ_ _=>False
theorem Cx.Ok.wish{X:Cx}(ok:X.Ok)(E:E1->E6->Prop):(X.wish E).Ok :=
 ⟨ok.mod,ok.kind,ok.glob,ok.blt,ok.above,ok.inj,ok.has,ok.cab,ok.hd,ok.frames,ok.stk,ok.exf,ok.bs,ok.bsz,ok.noex,ok.exfs,ok.funs,ok.frf⟩
theorem Cx.Ok.unwish{X:Cx}{E:E1->E6->Prop}(ok:(X.wish E).Ok):X.Ok :=
 ⟨ok.mod,ok.kind,ok.glob,ok.blt,ok.above,ok.inj,ok.has,ok.cab,ok.hd,ok.frames,ok.stk,ok.exf,ok.bs,ok.bsz,ok.noex,ok.exfs,ok.funs,ok.frf⟩
section
variable{X:Cx}{g:List (F0×Obj)}{σ:St}{H:Hp}{s:E6}{E:E1->E6->Prop}
theorem Inv.wish(I:Inv X g σ H s)(E:E1->E6->Prop):Inv (X.wish E) g σ H s:=⟨I.ok.wish E,I.os,I.bare,I.base,I.loc,I.cell,I.free,I.freeC,I.pin,I.hok,I.len⟩
theorem Inv.unwish(I:Inv (X.wish E) g σ H s):Inv X g σ H s:=⟨I.ok.unwish,I.os,I.bare,I.base,I.loc,I.cell,I.free,I.freeC,I.pin,I.hok,I.len⟩
theorem SP.unwish{D:m5}{f:Flow}{s':E6}(h:SP (X.wish E) g D f s'):SP X g D f s':=by
 cases f with
 |next=>obtain⟨a,b,I,q⟩:=h;exact⟨a,b,I.unwish,q⟩
 |brk=>obtain⟨a,b,I,q⟩:=h;exact⟨a,b,I.unwish,q⟩
 |cont=>obtain⟨a,b,I,q⟩:=h;exact⟨a,b,I.unwish,q⟩
 |ret u=>obtain⟨v,a,b,I,r,q⟩:=h;exact⟨v,a,b,I.unwish,r,q⟩
theorem PSs.nox{st:List W8}{t:TS}(h:PSs X.nox st t):PSs X st t:=λg s σ H D I a =>
 O1 (h g s σ H D (I.wish _) a) (λ_ _ q=>q.unwish) λ_ _ z=>S1 z
end
section
variable{X:Cx}{st:W8}{rest:List W8}{t u:TS}{e:K8}{te:TE}{pos:Pos}
def Cb:TS:=λD a H=>D.nx a H
def D9(t u:TS):TS:=λD a H=>t { D with nx:=u D } a H
theorem sP:PSs X [] Cb:=λ_ _ a H _ I h=>ac6 ⟨a,H,I,h⟩
theorem mz(m:PS X st t)(i:PSs X rest u):PSs X (st::rest) (D9 t u):=by
 intro b s g H D I h;refine wpAny_execs_cons (thn (m b s g H { D with nx:=u D } I h) λf e q=>?_);cases f with
 |next =>
  obtain⟨a,l,j,q⟩:=q;exact i b e a l D j q
 |ret v=>exact q
 |brk=>exact q
 |cont=>exact q
theorem pe(b:PS X st t):PSs X [st] t:=by
 intro e s a H D I h;refine wpAny_execs_cons (thn (b e s a H D I h) λf g q=>?_);cases f with
 |next=>exact ac6 q
 |ret v=>exact q
 |brk=>exact q
 |cont=>exact q
theorem Inv.quiet{a:List (F0×Obj)}{σ:St}{H:Hp}{s:E6}(I:Inv X a σ H s):interactive X.env=false:=by simp[interactive,I.ok.kind]
def Ca(te:TE):TS:=λD a H=>te a H λ_ b=>D.nx a b
theorem oW(he:PE X e te)(g:af9 e none pos.line X.env=ae2 false:=by rfl):PS X (.Expr e pos) (Ca te):=by
 intro l s b H D I h;exact wpAny_Expr_any (thn (he l s b H _ I h) λv n a=>a.el λx f j m i=>⟨b,f,j,i⟩) I.quiet g
def Ef(te:TE):TS:=λD a H=>te a H D.rt
theorem qM(he:PE X e te):PS X (.Return (some e) pos) (Ef te):=by
 intro l s b H D I h;exact wpAny_Return_some (thn (he l s b H _ I h) λv m a=>a.el λx f j g i=>⟨x,b,f,j,g,i⟩)
def EA(c:TT)(t u:TS):TS:=λD a H=>c a H λb e=>if b=true then t D a e else u D a e
theorem Ad{c:K8}{a b:List W8}{tc:TT}(n:PT X c tc)(ha:PSs X a t)(o:PSs X b u):PS X (.If c a b pos) (EA tc t u):=by
 intro g s e H D I h;refine wpAny_If (thn (n g s e H _ I h) λd j f=>f.el λi l m=>?_);cases d with
 |true=>exact ha g j e i D l m
 |false=>exact o g j e i D l m
end
abbrev TG:=V->St->Hp->(St->Hp->Prop)->Prop
abbrev TGs:=List V->St->Hp->(St->Hp->Prop)->Prop
def PG(X:Cx)(a:K8)(t:TG):Prop :=
 ∀(g:List (F0×Obj)) (s:E6) (e:St) (H:Hp) (v:V) (u:E1) (Q:St->Hp->Prop),Inv X g e H s->aO v u->t v e H Q ->
  H0 (K7 X.prog X.w) X.A (aj8 a X.env u) (λ_ h=>∃ b f,Inv X g b f h/\Q b f) X.xe s
def PGs(X:Cx)(i:List K8)(t:TGs):Prop :=
 ∀(h:List (F0×Obj)) (s:E6) (b:St) (H:Hp) (e:List V) (f:List E1) (Q:St->Hp->Prop),Inv X h b H s->aA e f->t e b H Q ->
  H0 (K7 X.prog X.w) X.A (assignInOrder ((V5 i X.env).map (·.2)) f) (λ_ j=>∃ a g,Inv X h a g j/\Q a g) X.xe s
abbrev BB:=V->V->V->Hp->(Hp->Prop)->Prop
def DV(X:Cx)(t:BB):Prop :=
 ∀(g:List (F0×Obj)) (s:E6) (a:St) (H:Hp) (o i v:V) (f b u:E1) (Q:Hp->Prop),Inv X g a H s->aO o f->aO i b->aO v u->t o i v H Q ->
  H0 (K7 X.prog X.w) X.A (setItem f b u) (λ_ h=>∃e,Inv X g a e h/\Q e) X.xe s
abbrev TIp:=V->V->Hp->VK->Prop
def PIp(X:Cx)(e:ap3)(t:TIp):Prop :=
 ∀(b:List (F0×Obj)) (s:E6) (a:St) (H:Hp) (x y:V) (v u:E1) (Q:VK),Inv X b a H s->aO x v->aO y u->t x y H Q ->
  H0 (K7 X.prog X.w) X.A (ap8 e v u) (EP X b a Q) X.xe s
section
variable{X:Cx}{pos:Pos}
def pH(i:Nat):TG:=λv a H Q=>Q (a.set i (some v)) H
theorem sT{i:Nat}{x:Str}(b:X.N.Nodup)(hi:X.N[i]?=some x)(e:Loc X.env.scope x)(a:X.fn x=true∨X.env.scope.names.lookup x=some .local:=by first|exact .inl rfl|exact .inr rfl|assumption):PG X (.Name x pos) (pH i):=by
 intro j s g H v u Q I r h;exact wpAny_assign_Name (fJ I b hi e r (λl f=>⟨_,H,f,h⟩) a)
def Bh:TGs:=λa b H Q=>a=[]/\Q b H
def xJ(t:TG)(u:TGs):TGs:=λe b H Q=>∃v r,e=v::r/\t v b H λa f=>u r a f Q
theorem sX:PGs X [] Bh:=by
 intro g s a H b f Q I r h;obtain⟨e,h⟩:=h;subst e;cases r;exact assignInOrder_nil ⟨a,H,I,h⟩
theorem qv{e:K8}{a:List K8}{t:TG}{u:TGs}(q:PG X e t)(o:PGs X a u)
  (p:(V5 (e::a) X.env).map (·.2)=aj8 e X.env::(V5 a X.env).map (·.2):=by rfl):PGs X (e::a) (xJ t u):=by
 intro f s g H A x Q I r h;obtain⟨v,z,i,h⟩:=h;subst i;cases r with
 |cons r l =>
  rw[p];refine assignInOrder_cons (thn (q f s g H _ _ _ I r h) λ_ m ⟨b,j,n,w⟩=>?_);exact o f m b j _ _ Q n l w
def BQ(K:E2)(n:Nat)(t:TGs):TG:=λv e H Q=>∃a b,v=.ref a/\SqT K H a b/\b.length=n/\t b e H Q
theorem wG{f:List K8}{k:Nat}{t:TGs}{n:Nat}(z:X.calm=true)(h:PGs X f t)
  (q:(V5 f X.env).length=n:=by rfl) (g:(V5 f X.env).findIdx? (·.1)=none:=by rfl):PG X (.Tuple f k pos) (BQ X.K n t):=by
 intro l s j H v u Q I r i;obtain⟨a,B,p,C,E,i⟩:=i;subst p;cases r;obtain⟨J,m,w,L⟩:=I.tuple C;refine assign_Tuple_tuple (I.ok.hd z) w (by simp[q,<-E,m.length]) g λG x=>?_;have A:Inv X l j H { s with heap:=G }:=I.kept (t':=s.toks) λb o e=>x b o (K4 (F8 e)) e;exact h l _ j H B _ Q A (by simpa using m) i
def D5(b g:TE)(t:BB):TG:=λv a H Q=>b a H λo e=>g a e λi f=>t o i v f λh=>Q a h
theorem AD{o i:K8}{j l:TE}{t:BB}(n:PE X o j)(hi:PE X i l)(A:DV X t)
  (ha:∀ v,aj8 (.Subscript o i pos) X.env v = (do
   let b <-ak4 [v] (X7 o X.env)
   let e <-ak4 [v,b] (X7 i X.env)
   am1 pos
   ak4 [v,b,e] (setItem b e v)
   release [v,b,e] []):=by intro _;rfl):PG X (.Subscript o i pos) (D5 j l t):=by
 intro g s f H v u Q I r h;rw[ha];refine o0 (P2 (thn (n g s f H _ I h) λb C a=>a.el λx m G p N=>?_));refine o0 (P2 (thn (hi g C f m _ G N) λe w a=>a.el λy L E J z=>?_));refine o0 (ad3 (o0 (P2 (thn (A g w f L x y v b e u _ E p J r z) λ_ O ⟨B,q,M⟩=>?_))));exact wpAny_release ⟨f,B,q,M⟩
def Ay(te:TE)(g:TG):TS:=λD a H=>te a H λx b=>g x a b D.nx
theorem xq{a e:K8}{te:TE}{g:TG}(he:PE X e te)(hg:PG X a g)(m:swapsWithSole [a] e pos.line X.env=ae2 false:=by rfl)(p:swappedStores [a] e X.env=ae2 none:=by rfl)
  (t:(V5 [a] X.env).map (·.2)=[aj8 a X.env]:=by rfl):PS X (.Assign [a] e pos) (Ay te g):=by
 intro f s i H D I h;refine wpAny_Assign_stores (thn (he f s i H _ I h) λv n b=>b.el λx j o l u=>?_) m p;rw[t];exact thn (hg f n i j x v _ o l u) λ_ w q=>q
theorem BN{i:Nat}{x:Str}{e:K8}{te:TE}{a:Pos}(q:X.N.Nodup)(hi:X.N[i]?=some x)(l:Loc X.env.scope x)(he:PE X e te)(n:af9 e (some (.Name x a)) pos.line X.env=ae2 false:=by rfl)(g:X.fn x=true∨X.env.scope.names.lookup x=some .local:=by first|exact .inl rfl|exact .inr rfl|assumption):
  PS X (.Assign [.Name x a] e pos) (Ay te (pH i)):=by
 intro m s p H D I h;refine wpAny_Assign_Name (thn (he m s p H _ I h) λv z b=>b.el λy f t j u=>?_) n;exact fJ t q hi l j (λw o=>⟨_,f,o,u⟩) g
def Em(i:Nat)(te:TE)(f:TIp):TS:=λD a H=>∃x,a[i]?=some (some x)/\te a H λy b=>f x y b λz e=>D.nx (a.set i (some z)) e
theorem AJ{i:Nat}{x:Str}{e:K8}{te:TE}{q:ap3}{B:TIp}{j:Pos}(T:X.N.Nodup)(hi:X.N[i]?=some x)(o:Loc X.env.scope x)(he:PE X e te)(J:PIp X q B)(G:X.fn x=true∨X.env.scope.names.lookup x=some .local:=by first|exact .inl rfl|exact .inr rfl|assumption):
  PS X (.AugAssign (.Name x j) q e pos) (Em i te B):=by
 intro p s A H D I h;obtain⟨v,E,h⟩:=h;obtain⟨m,S,N⟩:=I.loc;have t:Vis X.env.scope x:=by rcases o with k|k;exact .inl k;exact .inr (.inl k)
 obtain⟨u,r,l⟩:=N i x v hi E t;refine wpAny_AugAssign_Name ?_;have go:H0 (K7 X.prog X.w) X.A (X7 e X.env) (λw n=>H0 (K7 X.prog X.w) X.A (ap8 q u w) (λr g=>H0 (K7 X.prog X.w) X.A (ap7 X.env x r) (λ_=>SP X p D .next) X.xe g) X.xe n) X.xe s:=by
  refine thn (he p s A H _ I h) λw Q b=>b.el λy C Y L q1=>?_;refine thn (J p Q A C v y u w _ Y r L q1) λz s2 b=>b.el λzv H2 R Z O=>?_;exact fJ R T hi o Z (λs3 M=>⟨_,H2,M,O⟩) G
 rcases l with⟨a,P⟩|⟨a,c,U,f⟩
 ·exact wpAny_loadName_local I.ok.kind a S P go
 ·rcases a with a|a
  ·exact wpAny_loadName_cell I.ok.kind a U f go
  ·rcases o with k|k
   ·have:X.env.scope.names.lookup x=some .free:=a;rw[k]at this;cases this
   ·have:X.env.scope.names.lookup x=some .free:=a;rw[k]at this;cases this
def ipI(f:Int->Int->Int):TIp:=λx y H Q=>∃i j,x=.int i/\y=.int j/\Q (.int (f i j)) H
theorem Bs:PIp X .Add (ipI λi j=>i+j):=by
 intro g s f H x y v u Q I r1 r2 h;obtain⟨i,j,a,b,q⟩:=h;subst a;subst b;obtain⟨t,rfl⟩:=r1;obtain⟨e,rfl⟩:=r2;exact iadd_int ⟨.int _,H,I.tok _,⟨_,rfl⟩,q⟩
end
section
variable{X:Cx}{pos:Pos}
def Bj(c:TT)(i:TS):TS:=λD a H=>∃W:Nat->St->Hp->Prop,(∃m,W m a H)/\∀m a H,W m a H ->
 c a H λb g=>if b=true then ∃N:St->Hp->Prop,(∀ e h,N e h->∃f,f<m/\W f e h)/\i { D with nx:=N,ct:=N,bk:=D.nx } a g else D.nx a g
theorem wu{c:K8}{g:List W8}{tc:TT}{B:TS}(E:T0 (K7 X.prog X.w) X.A X.env X.xe)(P:PT X c tc)(T:PSs X g B):PS X (.While c g [] pos) (Bj tc B):=by
 intro w s Y H D I h;obtain⟨W,⟨U,S⟩,j⟩:=h;refine wpAny_While (codeAny_whileLoop (λn Q=>∃ i L,Inv X w i L Q/\W n i L) ?_ U ⟨Y,H,I,S⟩);rintro n M ⟨e,C,Z,O⟩;refine aa9 E (thn (P w M e C _ Z (j n e C O)) λb R p=>p.el λA G m=>?_);cases b with
 |true =>
  obtain⟨N,J,m⟩:=m;rw[if_pos rfl];refine aa9 E (thn (T w R e A _ G m) λf s3 o=>?_);cases f with
  |next =>
   obtain⟨a,l,t,x⟩:=o;obtain⟨q,u,z⟩:=J a l x;exact⟨q,u,a,l,t,z⟩
  |cont =>
   obtain⟨a,l,t,x⟩:=o;obtain⟨q,u,z⟩:=J a l x;exact⟨q,u,a,l,t,z⟩
  |brk=>exact o
  |ret v=>exact o
 |false =>
  rw[if_neg O7];exact ac6 ⟨e,A,G,m⟩
end
structure It where
 go:Nat->Hp->Prop
 yld:Nat->Hp->V->Hp->Prop
 stop:Nat->Hp->Prop
def gI(X:Cx)(a:List (F0×Obj))(H:Hp)(b:F0):Prop :=
 H b=none/\b≠X.env.locals/\b∉X.fs/\(b∈X.ex∨X.s₀.heap.objs.size<=b)/\(∀x c,X.env.cells.lookup x=some c->c≠b)/\∀p∈X.pn++a,p.1≠b
theorem Inv.fpOk{X:Cx}{g:List (F0×Obj)}{σ:St}{H f:Hp}{s:E6}{b:F0}(I:Inv X g σ H s)(a:s.heap.objs.size<=b)(h:f b=none):gI X g f b:=by
 refine⟨h,ac7 (F6 I.lt a),I.nofs a,.inr (Q8 I.sz a),λx c e z=>?_,λp i z=>?_⟩
 ·obtain⟨v,q⟩:=I.cell x c e;exact absurd (F6 q.lt (by rw[z];exact a)) (W7 _)
 ·exact absurd (F6 (F8 (I.pin p i).1) (by rw[z];exact a)) (W7 _)
structure oV(P:K3) (w:Q5) (K:E2) (tg:K8) (J:It) (fp:List F0) (it:F0) (tn:Nat->J6->Prop):Prop where
 mem:it∈fp
 obj:∀i h,tn i h->∀b∈fp,∃o,h.get? b=some o/\∀v,o.data≠.cell v
 keep:∀i h h',tn i h->(∀b∈fp,∀o,h.get? b=some o->h'.get? b=some o)->tn i h'
 item:∀(X:Cx),X.prog=P->X.w=w->X.K=K->X.calm=true->∀(i:Nat) (af:List (F0×Obj)) (s:E6) (σ:St) (H:Hp) (E:E1->E6->Prop),Inv X af σ H s->(∀b∈fp,gI X af H b)->tn i s.heap->J.go i H ->
  H0 (K7 P w) X.A (ao1 (.ref it)) (λr s1=>∃u,r=some u /\
   H0 (K7 P w) X.A (ag0 tg (.ref it) u) (λ_ s2=>∃x H',Inv X af σ H' s2/\aO x u/\J.yld i H x H'/\tn (i+1) s2.heap/\∀b∈fp,H' b=none) E s1) E s
 done:∀(X:Cx),X.prog=P->X.w=w->X.K=K->X.calm=true->∀(i:Nat) (af:List (F0×Obj)) (s:E6) (σ:St) (H:Hp) (E:E1->E6->Prop),Inv X af σ H s->(∀b∈fp,gI X af H b)->tn i s.heap->J.stop i H ->
  H0 (K7 P w) X.A (ao1 (.ref it)) (λr s1=>r=none/\Inv X af σ H s1) E s
 self:∀(A:M9) (i:Nat) (s:E6) (Q:E1->E6->Prop) (E:E1->E6->Prop),tn i s.heap->Q (.ref it) s->H0 (K7 P w) A (ap0 (.ref it)) Q E s
abbrev TI:=St->Hp->(It->Hp->Prop)->Prop
def PIE(X:Cx)(j:List (F0×Obj))(σ:St)(l:K8)(R:It->Hp->Prop)(a:E1)(h:E6):Prop :=
 ∃(g:F0) (f:List F0) (i:Nat->J6->Prop) (J:It) (e:Hp),a=.ref g/\Inv X j σ e h/\oV X.prog X.w X.K l J f g i/\i 0 h.heap/\(∀b∈f,gI X j e b)/\R J e
def PI(X:Cx)(f iter:K8)(e:TI):Prop :=
 ∀(b:List (F0×Obj)) (s:E6) (a:St) (H:Hp) (R:It->Hp->Prop),Inv X b a H s->e a H R ->
  H0 (K7 X.prog X.w) X.A (X7 iter X.env) (λv g=>H0 (K7 X.prog X.w) X.A (ap0 v) (PIE X b a f R) X.xe g) X.xe s
theorem sZ{M:ap2}{A:M9}{E:E1->E6->Prop}{s:E6}{e:K8}{it:F0}{u:E1}{o:Obj}{n:String}{b:Array E1}{Q:Unit->E6->Prop}(j:s.heap.get? it=some o)(i:o.cls=.type n)(f:o.data=.fields b)
    (g:["enumerate","zip","dict_itemiterator","dict_reverseitemiterator","odict_iterator","itertools.zip_longest","itertools.pairwise"].contains n=false) (a:Q () s):H0 M A (ag0 e (.ref it) u) Q E s:=by
  unfold ag0;cases e<;>first
    |exact E5 a
    |(cases u<;>first
        |exact E5 a
        | (refine o0 (wpAny_load j ?_)
           rw[i,f];show H0 M A (if(["enumerate","zip","dict_itemiterator","dict_reverseitemiterator","odict_iterator","itertools.zip_longest","itertools.pairwise"].contains n&&b[0]?==some (ai5 _))=true then _ else _) Q E s;rw[if_neg (by intro h;rw[g,U4]at h;cases h)];exact E5 a))
def Itl(K:E2)(a:F0):It :=
 ⟨λi H=>∃b x,SqL K H a b/\b[i]?=some x,λi H x e=>e=H/\∀b,SqL K H a b->b[i]?=some x,λi H=>∃b,SqL K H a b/\b.length<=i⟩
def Itt(K:E2)(a:F0):It :=
 ⟨λi H=>∃b x,SqT K H a b/\b[i]?=some x,λi H x e=>e=H/\∀b,SqT K H a b->b[i]?=some x,λi H=>∃b,SqT K H a b/\b.length<=i⟩
def Itr(lo:Int)(n:Nat):It:=⟨λi _=>i<n,λi H x a=>a=H/\x=.int (lo+i),λi _=>n<=i⟩
theorem nY{P:K3}{w:Q5}{K:E2}{T:K8}(a it:F0):oV P w K T (Itl K a) [it] it (λi h=>h.IsListIter it a i) where
 mem:=by simp
 obj:=λi h st b f=>by
  have e:b=it:=by simpa using f
  subst e;obtain⟨o,e,c,d⟩:=st;exact⟨o,e,λv z=>by rw[d]at z;cases z⟩
 keep:=λi h l st k=>st.at λo e=>k it (by simp) o e
 item:=by
  intro X L t hK O i Q s R H E I j st B;subst L t hK;obtain⟨xs,x,m,J⟩:=B;obtain⟨C,N,p,Y⟩:=I.list m;obtain⟨u,Z,ru⟩:=N.get J;obtain⟨n,G,U,q,A,M⟩:=j it (by simp);refine wpAny_pyNext_list_item st p.isList (x:=u) (by simpa using Z) λl g sb=>?_;have I1:Inv X Q R H { s with heap:=l }:=I.turned (t':=s.toks) (λb o f e=>(sb.2 b f).trans e) n G q A M;obtain⟨o,e,c,d⟩:=id g;exact⟨u,rfl,sZ (s:={ s with heap:=l }) e c d (by decide) ⟨x,H,I1,ru,⟨rfl,λys hy=>by rw[I.list_inj hy m];exact J⟩,g,λb f=>(j b f).1⟩⟩
 done:=by
  intro X L t hK O i Q s R H E I j st B;subst L t hK;obtain⟨xs,m,J⟩:=B;obtain⟨C,N,p,Y⟩:=I.list m;obtain⟨n,G,U,q,A,M⟩:=j it (by simp);have hl:=N.length;exact wpAny_pyNext_list_end (I.ok.hd O) st p.isList (by simp;lia) λl S=>⟨rfl,I.turned (t':=s.toks) (λb o f e=>S b o f e) n G q A M⟩
 self:=λ_ _ _ _ _ st h=>wpAny_pyIter_listiter st h
theorem rS{P:K3}{w:Q5}{K:E2}{T:K8}(a it:F0):oV P w K T (Itt K a) [it] it (λi h=>h.IsTupleIter it a i) where
 mem:=by simp
 obj:=λi h st b g=>by
  have e:b=it:=by simpa using g
  subst e;obtain⟨o,e,c,d⟩:=st;exact⟨o,e,λv z=>by rw[d]at z;cases z⟩
 keep:=λi h m st k=>st.at λo e=>k it (by simp) o e
 item:=by
  intro X L A hK O i Q s R H E I l st C;subst L A hK;obtain⟨xs,x,n,J⟩:=C;obtain⟨f,N,p,Y⟩:=I.tuple n;obtain⟨u,Z,ru⟩:=N.get J;obtain⟨q,G,U,t,B,M⟩:=l it (by simp);refine wpAny_pyNext_tuple_item st (show s.heap.IsTuple a f.toArray from p) (x:=u) (by simpa using Z) λm j sb=>?_;have I1:Inv X Q R H { s with heap:=m }:=I.turned (t':=s.toks) (λb o g e=>(sb.2 b g).trans e) q G t B M;obtain⟨o,e,c,d⟩:=id j;exact⟨u,rfl,sZ (s:={ s with heap:=m }) e c d (by decide) ⟨x,H,I1,ru,⟨rfl,λys hy=>by rw[I.tuple_inj hy n];exact J⟩,j,λb g=>(l b g).1⟩⟩
 done:=by
  intro X L A hK O i Q s R H E I l st C;subst L A hK;obtain⟨xs,n,J⟩:=C;obtain⟨f,N,p,Y⟩:=I.tuple n;obtain⟨q,G,U,t,B,M⟩:=l it (by simp);have hl:=N.length;exact wpAny_pyNext_tuple_end (I.ok.hd O) st (show s.heap.IsTuple a f.toArray from p) (by simp;lia) λm S=>⟨rfl,I.turned (t':=s.toks) (λb o g e=>S b o g e) q G t B M⟩
 self:=λ_ _ _ _ _ st h=>wpAny_pyIter_tupleiter st h
theorem rq{P:K3}{w:Q5}{K:E2}{O:K8}(it:F0)(lo:Int)(n:Nat):oV P w K O (Itr lo n) [it] it (λi h=>IsRangeIter h it (lo+(i:Nat)*1) ((n:Int)-(i:Nat)) 1) where
 mem:=by simp
 obj:=λi h st b a=>by
  have e:b=it:=by simpa using a
  subst e;exact⟨_,st,λv z=>by
   have R:ac8 _=ap4.cell v:=z;cases R⟩
 keep:=λi h j st k=>k it (by simp) _ st
 item:=by
  intro X B q hK p i J s L H E I g st x;subst B q hK;obtain⟨l,A,Q,m,u,C⟩:=g it (by simp);have W:=Walks.range (prog:=X.prog) (w:=X.w) (I.ok.hd p) it lo 1 n;refine W.item i s _ _ x st λv j G M f S=>?_;obtain⟨t,rfl⟩:=M;have T:Inv X J L H { s with heap:=j,toks:=G }:=I.turned (λb o a e=>S b o (by simpa using a) e) l A m u C;refine⟨_,rfl,sZ (s:={ s with heap:=j,toks:=G }) (n:="range_iterator") f rfl rfl (by decide) ⟨.int (lo+i),H,T,⟨t,?_⟩,⟨rfl,rfl⟩,f,λb a=>(g b a).1⟩⟩;rw[Int.mul_one]
 done:=by
  intro X B q hK p i J s L H E I g st x;subst B q hK;obtain⟨l,A,Q,m,u,C⟩:=g it (by simp);exact wpAny_pyNext_range_end (I.ok.hd p) st (by have:n<=i:=x;lia) λj N=>⟨rfl,I.turned (t':=s.toks) (λb o a e=>N b o a e) l A m u C⟩
 self:=λ_ _ _ _ _ st h=>wpAny_pyIter_rangeiter st h
section
variable{X:Cx}{y:K8}
theorem xn{a:List (F0×Obj)}{σ:St}{H:Hp}{s:E6}{R:It->Hp->Prop}{E:E1->E6->Prop}{lo hi:Int}{t u v:Tok}{f:Nat}(I:Inv X a σ H s)(p:-(2 ^ 62)<=lo)(m:lo<2 ^ 62)(i:-(2 ^ 62)<=hi)(l:hi<2 ^ 62)
  (q:R (Itr lo (hi-lo).toNat) H):H0 (K7 X.prog X.w) X.A (ap0 (.ref s.heap.objs.size)) (PIE X a σ y R) E { s with heap:=s.heap.push { cls:=.type "range",data:=.fields #[.int lo t,.int hi u,.int 1 v] },toks:=f }:=by
 refine wpAny_pyIter_range (IsRange.new ..) (small_one p m i l) ?_;have g:Inv X a σ H { s with heap:=s.heap.push { cls:=.type "range",data:=.fields #[.int lo t,.int hi u,.int 1 v] },toks:=f }:=I.kept λb o e=>u8 _ e;refine⟨(s.heap.push { cls:=.type "range",data:=.fields #[.int lo t,.int hi u,.int 1 v] }).objs.size,[(s.heap.push { cls:=.type "range",data:=.fields #[.int lo t,.int hi u,.int 1 v] }).objs.size],_,_,H,rfl,
  g.kept (t':=f) λb o e=>u8 _ e,rq _ lo (hi-lo).toNat,?_,λb j=>?_,q⟩
 ·have h:lo+((0:Nat):Int)*1=lo:=by simp
  have n:(((hi-lo).toNat:Nat):Int)-((0:Nat):Int)=K1.Range.rangeSize lo hi 1:=by rw[rangeSize_one];split<;>lia
  show IsRangeIter _ _ (lo+((0:Nat):Int)*1) ((((hi-lo).toNat:Nat):Int)-((0:Nat):Int)) 1;rw[h,n];exact F9 _ rfl
 ·have e:b=(s.heap.push { cls:=.type "range",data:=.fields #[.int lo t,.int hi u,.int 1 v] }).objs.size:=by simpa using j
  subst e;exact g.fpOk (F5 _) (g.hok.fresh (F5 _))
def Cw(a:TA):TI:=λb H R=>a b H λf e=>∃j:Int,f=[.int j]/\-(2 ^ 62)<=j/\j<2 ^ 62/\R (Itr 0 j.toNat) e
theorem uD{a:K8}{g:TA}{p pos:Pos}(hg:Gl X "range")(w:X.mg "range"=none)(ha:PA X [a] g)(x:E9 [a] X.env=[(false,X7 a X.env)]:=by rfl):PI X y (.Call (.Name "range" p) [a] [] pos) (Cw g):=by
 intro o s i H R I h;refine Call_ (jh I hg w boot_range (U5 (thn (ha pos o s i H _ I h) λA B b=>b.el λC z n m f=>?_) x rfl));obtain⟨j,e,f,u,q⟩:=f;subst e;cases m with
 |cons r l =>
  cases l;obtain⟨t,rfl⟩:=r;exact call_range_1 (xn n (by lia) (by lia) f u (by simpa using q))
def Et(l:TI)(g:TG)(o:TS):TS:=λD a H=>l a H λJ j=>∃W:Nat->Nat->St->Hp->Prop,(∃m,W 0 m a j)/\∀i m a H,W i m a H ->
 (J.stop i H/\D.nx a H)∨(J.go i H/\∃N:St->Hp->Prop,(∀ b e,N b e->∃h,h<m/\W (i+1) h b e)/\∀x e,J.yld i H x e->g x a e λf n=>o { D with nx:=N,ct:=N,bk:=D.nx } f n)
def jk(fp:List F0)(h:J6):List (F0×Obj):=fp.filterMap λb=>(h.get? b).map λo=>(b,o)
theorem gp{fp:List F0}{h:J6}{b:F0}{o:Obj}(a:b∈fp)(e:h.get? b=some o):(b,o)∈jk fp h:=W1.mpr ⟨b,a,by rw[e];rfl⟩
theorem nR{fp:List F0}{h:J6}{p:F0×Obj}(a:p∈jk fp h):p.1∈fp/\h.get? p.1=some p.2:=by
 obtain⟨b,g,e⟩:=W1.mp a;cases q:h.get? b with
 |none=>rw[q]at e;cases e
 |some o =>
  rw[q]at e;have f:(b,o)=p:=R1 e;subst f;exact⟨g,q⟩
theorem Inv.pinned{a:List (F0×Obj)}{σ:St}{H:Hp}{s:E6}{fp:List F0}(I:Inv X a σ H s)(h:∀b∈fp,gI X a H b)(i:∀b∈fp,∃o,s.heap.get? b=some o/\∀v,o.data≠.cell v):Inv X (a++jk fp s.heap) σ H s :=
 I.pins_of λp l=>(K0.mp l).elim (λz=>I.pin p (K9 _ z)) λz=>by
  obtain⟨g,e⟩:=nR z;obtain⟨m,j,n,_⟩:=h p.1 g;obtain⟨o,f,d⟩:=i p.1 g;rw[e]at f;cases f;exact⟨e,m,j,n,d⟩
theorem Inv.unpinned{a pl:List (F0×Obj)}{σ:St}{H:Hp}{s:E6}(I:Inv X (a++pl) σ H s):Inv X a σ H s:=I.pins_of λp b=>I.pin p (K9 _ (N7 _ b))
theorem wU{iter:K8}{A:List W8}{wi:TI}{g:TG}{tb:TS}{pos:Pos}(Q:T0 (K7 X.prog X.w) X.A X.env X.xe)(hc:X.calm=true)(hi:PI X y iter wi)(hg:PG X y g)(t:PSs X A tb)
  (hs:∀x,O3 iter X.env x=ae2 x:=by intro _;rfl):PS X (.For y iter A [] pos) (Et wi g tb):=by
 intro E s σ H D I h;refine wpAny_For (thn (hi E s σ H _ I h) λv s1 h1=>thn h1 λa2 s2 h2=>?_) hs;obtain⟨it,P,tn,J,H2,e,I2,T,a1,f2,W,⟨m0,w0⟩,M⟩:=h2;subst e
 -- what stays true of the iterator's objects through the loop
 have w:∀{z:Hp},(∀b∈P,z b=none)->∀b∈P,gI X E z b:=λhn b t=>⟨hn b t,(f2 b t).2⟩;refine codeAny_forLoop_any (λn s'=>∃i l z,Inv X E l z s'/\tn i s'.heap/\(∀b∈P,z b=none)/\W i n l z) ?_ m0 ⟨0,σ,H2,I2,a1,λb t=>(f2 b t).1,w0⟩;rintro n s3 ⟨i,j,R,I3,O,L,w3⟩;rcases M i n j R w3 with⟨stop,qn⟩|⟨go,N,hN,step⟩
 ·refine aa9 Q (thn (T.done X rfl rfl rfl hc i E s3 j R X.xe I3 (w L) O stop) λr s4 ⟨U,I4⟩=>?_);subst U;exact ac6 ⟨j,R,I4,qn⟩
 ·refine aa9 Q (thn (T.item X rfl rfl rfl hc i E s3 j R X.xe I3 (w L) O go) λr s4 ⟨u,U,h4⟩=>?_);subst U;refine aa9 Q (thn h4 λ_ s5 ⟨x,H5,I5,r5,y5,C,Y⟩=>?_);have a0:=I5.pinned (w Y) (T.obj _ _ C);refine aa9 Q (thn (hg _ s5 j H5 x u _ a0 r5 (step x H5 y5)) λ_ s6 ⟨S,H6,I6,q6⟩=>?_);refine aa9 Q (thn (t _ s6 S H6 _ I6 q6) λf Z B=>?_);have again:∀{a:St} {p:Hp},Inv X (E++jk P s5.heap) a p Z->N a p->∃m,m<n/\∃i l z,Inv X E l z Z/\tn i Z.heap/\(∀b∈P,z b=none)/\W i m l z:=λ{a p} q G=>by
   obtain⟨m',hm,w7⟩:=hN a p G;refine⟨m',hm,i+1,a,p,q.unpinned,T.keep _ _ _ C λb t o e=>(q.pin (b,o) (K9 _ (K9 _ (gp t e)))).1,λb t=>?_,w7⟩;obtain⟨o,e,d⟩:=T.obj _ _ C b t;exact(q.pin (b,o) (K9 _ (K9 _ (gp t e)))).2.1
  cases f with
  |next=>obtain⟨a,p,q,G⟩:=B;exact again q G
  |cont=>obtain⟨a,p,q,G⟩:=B;exact again q G
  |brk=>obtain⟨a,p,q,B⟩:=B;exact⟨a,p,q.unpinned,B⟩
  |ret v=>obtain⟨x7,a,p,q,r7,B⟩:=B;exact⟨x7,a,p,q.unpinned,r7,B⟩
end
abbrev R2:=V->V->Hp->VK->Prop
def OpR(X:Cx)(f:E1->E1->Sem E1)(r:R2):Prop :=
 ∀(b:List (F0×Obj)) (s:E6) (a:St) (H:Hp) (x y:V) (v u:E1) (Q:VK),Inv X b a H s->aO x v->aO y u->r x y H Q ->
  H0 (K7 X.prog X.w) X.A (f v u) (EP X b a Q) X.xe s
def UnR(X:Cx)(f:E1->Sem E1)(r:V->Hp->VK->Prop):Prop :=
 ∀(b:List (F0×Obj)) (s:E6) (a:St) (H:Hp) (x:V) (v:E1) (Q:VK),Inv X b a H s->aO x v->r x H Q ->
  H0 (K7 X.prog X.w) X.A (f v) (EP X b a Q) X.xe s
def cL(X:Cx)(f:E1)(r:List V->Hp->VK->Prop):Prop :=
 ∀(g:List (F0×Obj)) (s:E6) (b:St) (H:Hp) (a:List V) (e:List E1) (Q:VK),Inv X g b H s->aA a e->r a H Q ->
  H0 (K7 X.prog X.w) X.A (aq5 f e) (EP X g b Q) X.xe s
def tOp(r:R2)(b g:TE):TE:=λa H Q=>b a H λx e=>g a e λy f=>r x y f Q
def tUn(r:V->Hp->VK->Prop)(a:TE):TE:=λb H Q=>a b H λx e=>r x e Q
def rI(C:Int->Int->Prop)(g:Int->Int->V):R2:=λx y H Q=>∃i j,x=.int i/\y=.int j/\C i j/\Q (g i j) H
def rI0(g:Int->Int->V):R2:=λx y H Q=>∃i j,x=.int i/\y=.int j/\Q (g i j) H
def rU(g:Int->V):V->Hp->VK->Prop:=λx H Q=>∃i,x=.int i/\Q (g i) H
section
variable{X:Cx}{a b c:K8}{z B tc:TE}{pos:Pos}
theorem Am(ha:PE X a z)(t:PE X b B){l:List (F0×Obj)}{s:E6}{σ:St}{H:Hp}{R:V->V->Hp->Prop}(I:Inv X l σ H s)
  (h:z σ H λx n=>B σ n λy g=>R x y g) {Q:E1->E6->Prop} {f:E1->E1->Sem E1}
  (o:∀v u m x y g,Inv X l σ g m->aO x v->aO y u->R x y g->H0 (K7 X.prog X.w) X.A (f v u) Q X.xe m) :
  H0 (K7 X.prog X.w) X.A (X7 a X.env) (λv i=>H0 (K7 X.prog X.w) X.A (X7 b X.env) (λu j=>H0 (K7 X.prog X.w) X.A (f v u) Q X.xe j) X.xe i) X.xe s:=by
 refine thn (ha l s σ H _ I h) λv w e=>e.el λx n C p G=>?_;refine thn (t l w σ n _ C G) λu m e=>e.el λy g A E q=>?_;exact o v u m x y g A p E q
theorem zG{e:ap3}{r:R2}(l:OpR X (W3 e) r)(ha:PE X a z)(p:PE X b B):PE X (.BinOp a e b pos) (tOp r z B):=by
 intro m s g H Q I h;exact wpAny_BinOp (Am ha p I h λv u n x y o f i j q=>l m n g o x y v u Q f i j q)
theorem B4{g:UnaryOp}{r:V->Hp->VK->Prop}(j:UnR X (unaryOp g) r)(ha:PE X a z):PE X (.UnaryOp g a pos) (tUn r z):=by
 intro e s f H Q I h;exact UnaryOp_ (thn (ha e s f H _ I h) λv m b=>b.el λx i n l o=>j e m f i x v Q n l o)
theorem opI{f:E1->E1->Sem E1}{C:Int->Int->Prop}{g:Int->Int->Int}
  (rule:∀(i j:Int) (t u:Tok) (s:E6) (Q:E1->E6->Prop) (E:E1->E6->Prop),C i j->Q (.int (g i j) s.toks) { s with toks:=s.toks+1 }->H0 (K7 X.prog X.w) X.A (f (.int i t) (.int j u)) Q E s) :
  OpR X f (rI C λi j=>.int (g i j)):=by
 intro e s l H x y v u Q I rx ry h;obtain⟨i,j,rfl,rfl,b,q⟩:=h;obtain⟨t,rfl⟩:=rx;obtain⟨a,rfl⟩:=ry;exact rule i j t a s _ _ b ⟨.int (g i j),H,I.tok _,⟨_,rfl⟩,q⟩
theorem B8{f:E1->E1->Sem E1}{g:Int->Int->Int}
  (rule:∀(i j:Int) (t u:Tok) (s:E6) (Q:E1->E6->Prop) (E:E1->E6->Prop),Q (.int (g i j) s.toks) { s with toks:=s.toks+1 }->H0 (K7 X.prog X.w) X.A (f (.int i t) (.int j u)) Q E s) :
  OpR X f (rI0 λi j=>.int (g i j)):=by
 intro b s e H x y v u Q I rx ry h;obtain⟨i,j,rfl,rfl,q⟩:=h;obtain⟨t,rfl⟩:=rx;obtain⟨a,rfl⟩:=ry;exact rule i j t a s _ _ ⟨.int (g i j),H,I.tok _,⟨_,rfl⟩,q⟩
theorem yS{f:E1->E1->Sem E1}{g:Int->Int->Bool}
  (rule:∀(i j:Int) (t u:Tok) (s:E6) (Q:E1->E6->Prop) (E:E1->E6->Prop),Q (.bool (g i j)) s->H0 (K7 X.prog X.w) X.A (f (.int i t) (.int j u)) Q E s) :
  OpR X f (rI0 λi j=>.bl (g i j)):=by
 intro e s b H x y v u Q I rx ry h;obtain⟨i,j,rfl,rfl,q⟩:=h;obtain⟨t,rfl⟩:=rx;obtain⟨a,rfl⟩:=ry;exact rule i j t a s _ _ ⟨.bl (g i j),H,I,rfl,q⟩
def mI(i j:Int):Prop:=0<j/\j<1073741824
def p7(i j:Int):Prop:=0<=j/\j<=1000000/\i.natAbs<2 ^ 64
def jU(i j:Int):Prop:=(-(2 ^ 64)<i/\i<2 ^ 64)∨(-(2 ^ 64)<j/\j<2 ^ 64)
theorem jU.ok{i j:Int}(h:jU i j):IntMulOk i j:=by
 rcases h with⟨b,a⟩|⟨b,a⟩
 ·exact .of_left (intBits_le_64 b a)
 ·exact .of_right (intBits_le_64 b a)
theorem Ah:OpR X (W3 .Add) (rI0 λi j=>.int (i+j)):=B8 λ_ _ _ _ _ _ _ q=>add_int q
theorem AZ:OpR X (W3 .Sub) (rI0 λi j=>.int (i-j)):=B8 λ_ _ _ _ _ _ _ q=>sub_int q
theorem A7:OpR X (W3 .Mult) (rI jU λi j=>.int (i*j)):=opI λ_ _ _ _ _ _ _ a q=>mul_int q a.ok
theorem yw:OpR X (W3 .FloorDiv) (rI mI λi j=>.int (i / j)):=opI λi j _ _ _ _ _ a q=>by
 have e:(0:Int)<j:=a.1;have b:j<1073741824:=a.2;exact floordiv_int (by lia) (by rw[Int.fdiv_eq_ediv_of_nonneg i (by lia)];exact q) (.inl (PyProof.noPylong_small (by lia)))
theorem An:OpR X (W3 .Mod) (rI (λ_ j=>0<j) λi j=>.int (i % j)):=opI λi j _ _ _ _ _ a q=>by
 have b:(0:Int)<j:=a;exact mod_int' (by lia) (by rw[Int.fmod_eq_emod_of_nonneg i (by lia)];exact q)
theorem Ba:OpR X (W3 .Pow) (rI p7 λi j=>.int (i ^ j.toNat)):=opI λ_ _ _ _ _ _ _ a q=>pow_int_small a.1 a.2.1 a.2.2 q
theorem unI{f:E1->Sem E1}{g:Int->Int}
  (rule:∀(i:Int) (t:Tok) (s:E6) (Q:E1->E6->Prop) (E:E1->E6->Prop),Q (.int (g i) s.toks) { s with toks:=s.toks+1 }->H0 (K7 X.prog X.w) X.A (f (.int i t)) Q E s) :
  UnR X f (rU λi=>.int (g i)):=by
 intro b s a H x v Q I rx h;obtain⟨i,rfl,q⟩:=h;obtain⟨t,rfl⟩:=rx;exact rule i t s _ _ ⟨.int (g i),H,I.tok _,⟨_,rfl⟩,q⟩
theorem Bp:UnR X (unaryOp .USub) (rU λi=>.int (-i)):=unI λ_ _ _ _ _ q=>neg_int q
end
section
variable{X:Cx}{a b c:K8}{g B tc:TE}{pos:Pos}
theorem rD{a:List (F0×Obj)}{σ:St}{H:Hp}{s:E6}{Q:VK}{k k':Bool}(I:Inv X a σ H s)(q:Q (.bl k) H)(e:k=k'):EP X a σ Q (.bool k') s:=by
 subst e;exact⟨.bl k,H,I,rfl,q⟩
theorem DG:OpR X (L8 .Lt) (rI0 λi j=>.bl (decide (i<j))):=yS λ_ _ _ _ _ _ _ q=>lt_int q
theorem DS:OpR X (L8 .LtE) (rI0 λi j=>.bl (decide (i<=j))):=yS λ_ _ _ _ _ _ _ q=>le_int q
theorem CZ:OpR X (L8 .Gt) (rI0 λi j=>.bl (decide (j<i))):=yS λ_ _ _ _ _ _ _ q=>gt_int q
theorem B5:OpR X (L8 .GtE) (rI0 λi j=>.bl (decide (j<=i))):=yS λ_ _ _ _ _ _ _ q=>ge_int q
theorem uh:OpR X (L8 .In) (λx y H Q=>∃i j,x=.str i/\y=.str j/\Q (.bl (!(ab5 j i 0 j.length 1).isEmpty)) H):=by
 intro e s b H x y v u Q I rx ry h;obtain⟨i,j,rfl,rfl,q⟩:=h;obtain⟨t,rfl⟩:=rx;obtain⟨a,rfl⟩:=ry;exact in_str (rD I q rfl)
theorem Ag:OpR X (L8 .Is) (λx y H Q=>y=.non/\Q (.bl (decide (x=.non))) H):=by
 intro b s a H x y v u Q I rx ry h;obtain⟨rfl,q⟩:=h;cases ry;refine is_none_gen (rD I q ?_);cases x<;>first
  |(cases rx;rfl)
  |(obtain⟨t,rfl⟩:=rx;rfl)
theorem oz:OpR X (L8 .NotIn) (λx y H Q=>∃i j,x=.str i/\y=.str j/\Q (.bl (!(!(ab5 j i 0 j.length 1).isEmpty))) H):=by
 intro e s b H x y v u Q I rx ry h;obtain⟨i,j,rfl,rfl,q⟩:=h;obtain⟨t,rfl⟩:=rx;obtain⟨a,rfl⟩:=ry;exact notIn_str (rD I q rfl)
theorem yr{e:an2}{r:R2}(m:OpR X (L8 e) r)(ha:PE X a g)(w:PE X b B)(p:ad2 e b=false):PE X (.Compare a [e] [b] pos) (tOp r g B):=by
 intro n s i H Q I h;exact wpAny_Compare1 (Am ha w I h λv u o x y t f j l q=>m n o i t x y v u Q f j l q) p
def tf(t:TE):TT:=λa H Q=>t a H λx b=>∃k,x=.bl k/\Q k b
theorem zu{j:an2}{r:R2}(p:OpR X (L8 j) r)(ha:PE X a g)(N:PE X b B)(J:ad2 j b=false):PT X (.Compare a [j] [b] pos) (tf (tOp r g B)):=by
 intro l s i H Q I h;refine wpAny_isTrue_Compare1 (thn (ha l s i H _ I h) λv t f=>f.el λx n w q P=>thn (N l t i n _ w P) λu E f=>f.el λy L m A G =>
  thn (p l E i L x y v u _ m q A G) λc R ⟨z,O,C,o,k,e,M⟩=>?_) J
 subst e;cases o;exact O2 ⟨O,C,M⟩
def vz(r i:R2)(g B tc:TE):TE:=λa H Q=>g a H λx e=>B a e λy j=>r x y j λz b=>∃k,z=.bl k /\
 (if k=true then tc a b λh f=>i y h f Q else Q (.bl false) b)
theorem uU{m i:an2}{r t:R2}(E:OpR X (L8 m) r)(n:OpR X (L8 i) t)(ha:PE X a g)(S:PE X b B)(hc:PE X c tc)
  (R:ai6 [m,i] [b,c]=false:=by with_unfolding_all rfl):PE X (.Compare a [m,i] [b,c] pos) (vz r t g B tc):=by
 intro j s l H Q I h;refine Compare_chain (thn (ha j s l H _ I h) λv T f=>f.el λx C I1 J q1=>chain_link (thn (S j T l C _ I1 q1) λu N f=>f.el λy H2 U q P =>
  thn (E j N l H2 x y v u _ U J q P) λd s3 ⟨z,p,o,A,k,e,w⟩=>?_)) R
 subst e;cases A;refine O2 ?_;cases k with
 |false=>exact ite_ff ⟨.bl false,p,o,rfl,w⟩
 |true=>exact ite_tt (chain_last (thn (hc j s3 l p _ o w) λO G ⟨Z,H4,Y,L,M⟩=>n j G l H4 y Z u O Q Y q L M))
theorem vk{m i:an2}{r t:R2}(E:OpR X (L8 m) r)(n:OpR X (L8 i) t)(ha:PE X a g)(hb:PE X b B)(hc:PE X c tc)
  (Z:ai6 [m,i] [b,c]=false:=by with_unfolding_all rfl):PT X (.Compare a [m,i] [b,c] pos) (tf (vz r t g B tc)):=by
 intro j s l H Q I h;refine isTrue_chain (thn (ha j s l H _ I h) λv s1 f=>f.el λx C I1 J q1=>test_link (thn (hb j s1 l C _ I1 q1) λu O f=>f.el λy H2 I2 q S =>
  thn (E j O l H2 x y v u _ I2 J q S) λd s3 ⟨z,p,o,A,k,e,w⟩=>?_)) Z
 subst e;cases A;refine O2 ?_;cases k with
 |false =>
  obtain⟨k',Y,T⟩:=w;cases Y;exact ite_ff ⟨p,o,T⟩
 |true =>
  refine ite_tt (test_last (thn (hc j s3 l p _ o w) λP G ⟨z',H4,I4,L,N⟩=>thn (n j G l H4 y z' u P _ I4 q L N) λd' s5 ⟨z2,U,R,M,k2,e2,q5⟩=>?_));subst e2;cases M;exact O2 ⟨U,R,q5⟩
theorem jW:(F2:Nat)<2 ^ 63:=by rw[ae7];decide
theorem rQ:OpR X (W3 .Add) (λx y H Q=>∃i j,x=.str i/\y=.str j/\i.length+j.length<=F2/\Q (.str (i++j)) H):=by
 intro g s e H x y v u Q I rx ry h;obtain⟨i,j,rfl,rfl,a,q⟩:=h;obtain⟨t,rfl⟩:=rx;obtain⟨b,rfl⟩:=ry;exact add_str (λb f=>⟨.str (i++j),H,I.tok _,⟨_,rfl⟩,q⟩) a
theorem nJ{x:V}{us:List E1}(r:aA [x] us):∃u,us=[u]/\aO x u:=by
 cases r with
 |cons a b=>cases b;exact⟨_,rfl,a⟩
theorem CQ{x y:V}{us:List E1}(r:aA [x,y] us):∃u a,us=[u,a]/\aO x u/\aO y a:=by
 cases r with
 |cons e g =>
  cases g with
  |cons b f=>cases f;exact⟨_,_,rfl,e,b⟩
theorem vt:cL X (.builtin "abs") (λxs H Q=>∃i,xs=[.int i]/\Q (.int (if i<0 then -i else i)) H):=by
 intro f s a H xs b Q I r h;obtain⟨i,rfl,q⟩:=h;obtain⟨u,rfl,t,rfl⟩:=nJ r;exact call_abs_int λu e=>⟨.int (if i<0 then -i else i),H,I.tok _,⟨_,rfl⟩,q⟩
theorem uO(b:X.calm=true):cL X (.builtin "max") (λxs H Q=>∃i j,xs=[.int i,.int j]/\Q (.int (if j > i then j else i)) H):=by
 intro g s n H xs f Q I r h;obtain⟨i,j,rfl,q⟩:=h;obtain⟨u,l,rfl,⟨t,rfl⟩,⟨e,rfl⟩⟩:=CQ r;refine max_two_ints (I.ok.hd b) λm o k=>⟨_,H,I.kept k,?_,q⟩
 by_cases a:j > i
 ·rw[if_pos a,if_pos a];exact⟨_,rfl⟩
 ·rw[if_neg a,if_neg a];exact⟨_,rfl⟩
theorem oG:cL X (.type "str") (λxs H Q=>∃i,xs=[.int i]/\i.natAbs.log2<1920/\Q (.str (am8 i)) H):=by
 intro f s b H xs e Q I r h;obtain⟨i,rfl,a,q⟩:=h;obtain⟨u,rfl,t,rfl⟩:=nJ r;exact PySem.P.str_of_int a ⟨.str _,H,I.tok _,⟨_,rfl⟩,q⟩
end
theorem ud{v:V}{u:E1}(r:aO v u):PySem.W.handedIn u=true:=by
 cases v with
 |non=>cases(show u=J5 from r);rfl
 |bl b=>cases(show u=ag9 b from r);rfl
 |int i=>obtain⟨t,e⟩:=(show ∃t,u=ah7 i t from r);cases e;rfl
 |str x=>obtain⟨t,e⟩:=(show ∃t,u=al9 x t from r);cases e;rfl
 |byt b=>obtain⟨t,e⟩:=(show ∃t,u=E1.bytes b t from r);cases e;rfl
 |flt b=>obtain⟨t,e⟩:=(show ∃t,u=E1.float b t from r);cases e;rfl
 |ref a=>cases(show u=J0 a from r);rfl
 |ty n=>cases(show u=N9 n from r);rfl
section
variable{X:Cx}{g:List (F0×Obj)}{σ:St}{H:Hp}{s:E6}{a C y:F0}{fs:List (Str×V)}{f:Str}{v:V}{A:M9}{E:E1->E6->Prop}
theorem xP{prog:K3}{w:Q5}{env:Env}{e:K8}{f:Str}{pos:Pos}{s:E6}{Q:E1->E6->Prop}(b:U6 e f env (X7 e env)=X7 e env)
  (h:H0 (K7 prog w) A (X7 e env) (λo a=>H0 (K7 prog w) A (getAttr o f true) Q E a) E s):H0 (K7 prog w) A (X7 (.Attribute e f pos) env) Q E s :=
 Attribute_any_ h (by rw[arm_eval_Attribute,b])
end
structure cc(k:Nat) (A:M9):Prop where
 hd:A.handled=none
 dp:A.depth+3*k+5<recursionLimit
 un:A.units+16*k+200<ao2
theorem cc.mono{j k:Nat}{A:M9}(r:cc k A)(h:j<=k):cc j A:=⟨r.hd,by have:=r.dp;lia,by have:=r.un;lia⟩
theorem cc.deeper{k:Nat}{A:M9}(r:cc (k+1) A)(env:Env):cc k (A.deeper env) :=
 ⟨r.hd,by have:=r.dp;show A.depth+1+3*k+5<_;lia,by have:=r.un;show A.units+3+16*k+200<_;lia⟩
theorem cc.in1{k:Nat}{A:M9}(r:cc (k+1) A):cc k A.in1 :=
 ⟨r.hd,by have:=r.dp;show A.depth+3*k+5<_;lia,by have:=r.un;show A.units+1+16*k+200<_;lia⟩
theorem rC{A:M9}{C:F0}{us:List E1}{kw:List (Str×E1)}:(A.under (.builtin "type.__call__" ⟨.ref C::us,kw⟩)).depth=A.depth+1:=by
 first|rfl|simp[M9.under,aq4.weight,aq4.isCreation,aq4.isGuard,aq4.isCaller,aq4.frames,aq4.isFrame,guardIds]
theorem rL{A:M9}{C:F0}{us:List E1}{kw:List (Str×E1)}:(A.under (.builtin "type.__call__" ⟨.ref C::us,kw⟩)).units=A.units+1:=by
 first|rfl|simp[M9.under,aq4.cUnits,aq4.frames,aq4.isFrame]
theorem cc.make{k:Nat}{A:M9}(r:cc (k+1) A)(C:F0)(us:List E1)(kw:List (Str×E1)):cc k (A.under (.builtin "type.__call__" ⟨.ref C::us,kw⟩)) :=
 ⟨r.hd,by have:=r.dp;rw[rC];lia,by have:=r.un;rw[rL];lia⟩
theorem cc.depth{k:Nat}{A:M9}(r:cc k A):A.depth<recursionLimit:=by have:=r.dp;lia
theorem cc.units{k:Nat}{A:M9}(r:cc k A):A.units+64<ao2:=by have:=r.un;lia
def zB:TA:=λ_ H Q=>Q [] H
def qC(e:TE)(g:TA):TA:=λa H Q=>e a H λx f=>g a f λb h=>Q (x::b) h
section
variable{X:Cx}{e:K8}{g:List K8}{te:TE}{t:TA}{pos:Pos}
theorem dY:PA X [] zB:=λ_ _ _ _ H Q I h=>Calls.spliced_nil ⟨[],H,I,.nil,h⟩
theorem bF(ha:PE X e te)(hr:PA X g t)(z:E9 (e::g) X.env=(false,X7 e X.env)::E9 g X.env:=by rfl):PA X (e::g) (qC te t):=by
 intro pos f s b H Q I h;rw[z];show H0 _ _ (spliced ((false,X7 e X.env)::U3 pos (E9 g X.env))) _ _ s;refine Calls.spliced_cons (thn (ha f s b H _ I h) λu m a=>a.el λx j n l A=>?_);exact thn (hr pos f m b j _ n A) λB C a=>a.el λp w i o q=>⟨x::p,w,i,.cons l o,q⟩
def Ex(t:TA):TE:=λe H Q=>t e H λa b=>a.length<=F2/\∀p,b p=none->Q (.ref p) (upd b p (.tup a))
def DY(t:TA):TE:=λe H Q=>t e H λa b=>a.length<=F2/\∀p,b p=none->Q (.ref p) (upd b p (.lst a))
theorem BR{x1}(h:PA X g t):PE X (.Tuple g x1 pos) (Ex t):=by
 intro m s n H Q I p;refine wpAny_Tuple_spliced (thn (h pos m s n H _ I p) λl a ⟨o,f,i,r,z,q⟩=>⟨by rw[<-r.length];exact z,?_⟩);have j:f a.heap.objs.size=none:=i.hok.fresh (F5 _);refine⟨.ref a.heap.objs.size,upd f a.heap.objs.size (.tup o),i.laid (t':=a.toks) (λb u e=>u8 _ e) (F5 _) ?_,rfl,q _ j⟩;exact⟨z,l,r,⟨_,F9 _ rfl,rfl,⟨_,rfl⟩,rfl⟩⟩
theorem xE(h:PA X g t):PE X (.List g pos) (DY t):=by
 intro m s n H Q I p;refine wpAny_List_spliced (thn (h pos m s n H _ I p) λl a ⟨o,f,i,r,z,q⟩=>⟨by rw[<-r.length];exact z,?_⟩);have j:f a.heap.objs.size=none:=i.hok.fresh (F5 _);refine⟨.ref a.heap.objs.size,upd f a.heap.objs.size (.lst o),i.laid (t':=a.toks) (λb u e=>u8 _ e) (F5 _) ?_,rfl,q _ j⟩;exact⟨z,l,0,r,F9 _ rfl⟩
end
abbrev Sp:=List V->Hp->VK->XK->Prop
abbrev CXT:=List Env->Hp->E6->XK->E1->E6->Prop
structure mO(P:K3) (w:Q5) (K:E2) (mg:Str->Option E1) (base:J6) (A:M9) (outer:List Env) (s:E6) (H:Hp):Prop where
 frames:A.frames=some outer
 mod:Mod K mg base
 bs:∀b o,base.get? b=some o->s.heap.get? b=some o/\H b=none
 bsz:base.objs.size<=s.heap.objs.size
 funs:s.heap.FunFrames base outer
 frf:∀b∈frs outer,H b=none
 hok:HOk P w H s.heap
 bare:ah9 s.gens
def CE(a:List Env)(P:K3)(w:Q5)(H:Hp)(s:E6)(Q:VK)(u:E1)(s':E6):Prop :=
 ∃v b,s'.os=s.os/\ah9 s'.gens/\Un (frs a) [] H b s.heap s'.heap/\HOk P w b s'.heap/\aO v u/\Q v b
def CR(CX:CXT)(a:List Env)(P:K3)(w:Q5)(H:Hp)(s:E6)(Q:VK)(E:XK)(r:Result)(s':E6):Prop :=
 match r with
 |.ok (.ret u)=>CE a P w H s Q u s'
 |.ok _=>False
 |.error e=>CX a H s E e s'
structure aU(P:K3) (w:Q5) (K:E2) (mg:Str->Option E1) (base:J6) (CX:CXT) (k:Nat) (f:F0) (fd:J7) (ps:List Str) (sp:Sp):Prop where
 len:∀vs H Q E,sp vs H Q E->vs.length=ps.length
 run:∀(A:M9) (outer:List Env) (s:E6) (H:Hp) (args:Args) (us:List E1) (vs:List V) (Q:VK) (E:XK),cc k A->mO P w K mg base A outer s H->ao7 s fd args (ps.zip us)->aA vs us->sp vs H Q E ->
  ai0 (K7 P w) A (.call (.ref f) args) (CR CX outer P w H s Q E) s
theorem mO.make{P:K3}{w:Q5}{K:E2}{b:Str->Option E1}{base:J6}{A:M9}{a:List Env}{s:E6}{H:Hp}(e:mO P w K b base A a s H)(C:F0)(us:List E1)(kw:List (Str×E1)):
  mO P w K b base (A.under (.builtin "type.__call__" ⟨.ref C::us,kw⟩)) a s H:=⟨by first|exact e.frames|(simpa[M9.under,aq4.envs,aq4.isFrame,pushEnvs]using e.frames),e.mod,e.bs,e.bsz,e.funs,e.frf,e.hok,e.bare⟩
theorem mO.in1{P:K3}{w:Q5}{K:E2}{b:Str->Option E1}{base:J6}{A:M9}{a:List Env}{s:E6}{H:Hp}(e:mO P w K b base A a s H):
  mO P w K b base A.in1 a s H:=⟨e.frames,e.mod,e.bs,e.bsz,e.funs,e.frf,e.hok,e.bare⟩
section
variable{X:Cx}{y:List (F0×Obj)}{σ:St}{H:Hp}{s s':E6}
theorem Inv.env0(I:Inv X y σ H s):mO X.prog X.w X.K X.mg X.base X.A X.stack s H :=
 ⟨I.ok.frames,I.ok.mod,I.bs,Q8 I.ok.bsz I.sz,I.stack,I.stkFree,I.hok,I.bare⟩
theorem Inv.after{Q:VK}{u:E1}(I:Inv X y σ H s)(h:CE X.stack X.prog X.w H s Q u s'):EP X y σ Q u s':=by
 obtain⟨v,j,os,a,un,f,r,q⟩:=h;obtain⟨i,g,d,t,e⟩:=s';obtain rfl:e=s.os:=os;exact⟨v,j,I.call (h':=i) (g':=g) (d':=d) (t':=t) (ch:=[]) un f a (λb z=>absurd z (by simp)),r,q⟩
end
def DT(sp:Sp)(a:List V)(E:XK)(t:TA):TE:=λb H Q=>t b H λe f=>sp (e++a) f Q E
def cQ(K:E2)(b:J7)(ps:List Str)(ds:List E1):Prop :=
 ∀(s:E6) (a:List E1),K.In s.heap->(a++ds).length=ps.length->ao7 s b ⟨a,[]⟩ (ps.zip (a++ds))
theorem cQ.all{K:E2}{b:J7}{ps:List Str}(h:∀us:List E1,us.length=ps.length->bindArgs b ⟨us,[]⟩=ae2 (ps.zip us)):cQ K b ps []:=λs us _ a=>by
 rw[S3]at a ⊢;exact .of_eq (h us a)
def jT(CX:CXT)(X:Cx)(E:XK):Prop:=∀(f:List (F0×Obj)) (b:St) (H:Hp) (s:E6) (e:E1) (a:E6),Inv X f b H s->CX X.stack H s E e a->X.xe e a
section
variable{X:Cx}{CX:CXT}{k:Nat}{f C:F0}{z:J7}{ps:List Str}{sp:Sp}{g:List V}{ds:List E1}{E:XK}{x m:Str}{p pos B:Pos}{e o:K8}{y:List K8}{G:TE}{t:TA}
theorem AC{i:List (F0×Obj)}{σ:St}{H:Hp}{s:E6}{Q:VK}{us:List E1}{b:List V}(F:aU X.prog X.w X.K X.mg X.base CX k f z ps sp)(hr:cc k X.A)(o:cQ X.K z ps ds)(p:aA g ds)(l:jT CX X E)
  (I:Inv X i σ H s) (r:aA b us) (h:sp (b++g) H Q E):H0 (K7 X.prog X.w) X.A (aq5 (.ref f) us) (EP X i σ Q) X.xe s:=by
 have j:aA (b++g) (us++ds):=r.append p;have n:(us++ds).length=ps.length:=by rw[<-j.length];exact F.len _ _ _ _ h
 refine af3 (af4 (F.run X.A X.stack s H ⟨us,[]⟩ (us++ds) (b++g) Q E hr I.env0 (o s us I.kIn n) j h) λr q a=>?_);cases r with
 |error e=>exact l i σ H s e q I a
 |ok m =>
  cases m with
  |ret u=>exact I.after a
  |next=>exact S1 a
  |brk=>exact S1 a
  |cont=>exact S1 a
theorem tF(F:aU X.prog X.w X.K X.mg X.base CX k f z ps sp)(hr:cc k X.A)(hg:Gl X x)(l:X.mg x=some (.ref f))(u:T8 X.K (.ref f)=true)(m:cQ X.K z ps ds)(n:aA g ds)(i:jT CX X E)
  (ha:PA X (e::y) t) (hdb:(x==("__debug__":Str))=false:=by decide) (he:E9 (e::y) X.env=(false,X7 e X.env)::E9 y X.env:=by rfl) (hpl:(U3 pos (E9 y X.env)).any (·.1)=false:=by rfl) :
  PE X (.Call (.Name x p) (e::y) [] pos) (DT sp g E t):=by
 intro j s o H Q I h;refine W4 (il I hg l ?_ hdb);refine ag1 (h₀:=X.base) I.ok.mod.kin u (thn (ha pos j s o H _ I h) λA B a=>a.el λC w b r q=>⟨b.kIn,?_⟩) he hpl;exact AC F hr m n i b r q
end
structure ay(N P:List Str) (sc:ac4):Prop where
 kind:sc.kind=.function
 co:sc.isCoroutine=false
 gen:sc.isGenerator=false
 nd:N.Nodup
 pre:N.take P.length=P
 par:∀x∈P,sc.names.lookup x=some .local∨sc.names.lookup x=some .cell
 nofree:∀y∈sc.names,y.2≠.free
theorem nc{aj9:Str->Option S2}{x:Str}:∀{binds:List (Str×E1)}{m:Str->Option E1},(∀v,(x,v)∉binds)->bindL aj9 binds m x=m x
 |[],_,_=>rfl
 |(n,v)::r,m,h=>by
  unfold bindL;rw[nc λw a=>h w (K2 _ a)]
  split
  ·have:x≠n:=by rintro rfl;exact h v R9
   simp[this]
  ·rfl
theorem nB{aj9:Str->Option S2}{x:Str}:∀{binds:List (Str×E1)}{m:Str->Option E1},(∀v,(x,v)∉binds)->bindC aj9 binds m x=m x
 |[],_,_=>rfl
 |(n,v)::r,m,h=>by
  unfold bindC;rw[nB λw a=>h w (K2 _ a)]
  split
  ·rfl
  ·have:x≠n:=by rintro rfl;exact h v R9
   simp[this]
theorem nh{aj9:Str->Option S2}{x:Str}{v:E1}:∀{P:List Str}{a:List E1}{i:Nat}{m:Str->Option E1},P.Nodup->P[i]?=some x->a[i]?=some v->aj9 x=some .local ->
  bindL aj9 (P.zip a) m x=some v
 |[],_,_,_,_,h,_,_=>by simp at h
 |_::_,[],_,_,_,_,h,_=>by simp at h
 |p::P,w::a,0,m,g,e,b,f=>by
  simp at e b;subst e;subst b;show bindL aj9 ((p,w)::P.zip a) m p=_;unfold bindL;rw[nc λv j=>(ab0.mp g).1 (ai7 j).1,if_pos f];simp
 |p::P,w::a,i+1,m,g,e,b,f=>by
  show bindL aj9 ((p,w)::P.zip a) m x=_;unfold bindL;exact nh (i:=i) (ab0.mp g).2 (by simpa using e) (by simpa using b) f
theorem nL{aj9:Str->Option S2}{x:Str}{v:E1}:∀{P:List Str}{a:List E1}{i:Nat}{m:Str->Option E1},P.Nodup->P[i]?=some x->a[i]?=some v->aj9 x≠some .local ->
  bindC aj9 (P.zip a) m x=some v
 |[],_,_,_,_,h,_,_=>by simp at h
 |_::_,[],_,_,_,_,h,_=>by simp at h
 |p::P,w::a,0,m,g,e,b,f=>by
  simp at e b;subst e;subst b;show bindC aj9 ((p,w)::P.zip a) m p=_;unfold bindC;rw[nB λv j=>(ab0.mp g).1 (ai7 j).1,if_neg f];simp
 |p::P,w::a,i+1,m,g,e,b,f=>by
  show bindC aj9 ((p,w)::P.zip a) m x=_;unfold bindC;exact nL (i:=i) (ab0.mp g).2 (by simpa using e) (by simpa using b) f
def gz(N:List Str)(a:List V):St:=a.map some++F3 (N.length-a.length) none
noncomputable def jq(CX:CXT)(P:K3)(w:Q5)(K:E2)(i:Str->Option E1)(base:J6)(N:List Str)(g:Str)(a:ac4)(f:F0)(cd:E1)(A:M9)(b:List Env)(s:E6)(H:Hp)(E:XK):Cx where
 prog:=P
 w:=w
 K:=K
 mg:=i
 base:=base
 A:=A.deeper (ab4 g a s.heap.objs.size f cd)
 N:=N
 s₀:=s
 H₀:=H
 env:=ab4 g a s.heap.objs.size f cd
 outer:=b
 stack:=ab4 g a s.heap.objs.size f cd::b
 ex:=[]
 calm:=true
 fn:=λ_=>true
 pn:=[]
 xe:=λe l=>H0 (K7 P w) (A.deeper (ab4 g a s.heap.objs.size f cd)) (leaving (ab4 g a s.heap.objs.size f cd) e) (λ_ h=>CX b H s E e h) (λj h=>CX b H s E j h) l
theorem pQ{a:ac4}{n:Nat}{x:Str}(h:a.names.lookup x=some .cell):∃c,(ap9 n a.names []).lookup x=some c:=by
 have q:=PySem.W.cellsFrom_some a.names n [] (.inl h);exact W5.mp q
theorem ui{CX:CXT}{P:K3}{w:Q5}{K:E2}{M:Str->Option E1}{base:J6}{N ps:List Str}{l:Str}{g:ac4}{f:F0}{cd:E1}{A:M9}{j:List Env}{s O:E6}{H:Hp}{E:XK}{us:List E1}{B:List V}
  (S:ay N ps g) (X:A.handled=none) (o:mO P w K M base A j s H) (hl:B.length=ps.length) (r:aA B us)
  (x:InCallC s s.heap.objs.size (bindL (ab4 l g s.heap.objs.size f cd).kindOf (ps.zip us) λ_=>none) (ap9 (s.heap.objs.size+1) g.names []) (bindC (ab4 l g s.heap.objs.size f cd).kindOf (ps.zip us) λ_=>none) O) :
  Inv (jq CX P w K M base N l g f cd A j s H E) [] (gz N B) H O:=by
 have T:ps.length<=N.length:=by have:=congrArg aa3 S.pre;rw[O8]at this;lia
 obtain⟨L,tk,rfl,R⟩:=x.done;have C:∀b:F0,b∉(jq CX P w K M base N l g f cd A j s H E).ex:=λb z=>absurd (show b∈([]:List F0)from z) (by simp);refine⟨⟨o.mod,S.kind,rfl,rfl,F5 _,λy z c L m=>?_,λy t=>?_,λy c _ h=>?_,λ_=>X,M9.frames_deeper o.frames,.inr ⟨rfl,rfl⟩,λb z=>absurd z (C b),o.bs,o.bsz,λb _ _=>C b,λb z=>absurd z (C b),o.funs,o.frf⟩,
  rfl,o.bare,Un.kept R,⟨_,x.toInCall.ns,λi y v L m Z=>?_⟩,λy c h=>⟨_,x.cell y c h⟩,o.hok.fresh (F5 _),λy c h=>?_,λp G=>absurd (show p∈([]:List (F0×Obj))from G) (by simp),o.hok.kept R,?_⟩
 ·exact name_of_addr x.apart (S4 L) (S4 m)
 ·have t:g.names.lookup y=some .cell∨g.names.lookup y=some .free:=t;rcases t with t|t
  ·exact pQ t
  ·exact absurd rfl (S.nofree _ (S4 t))
 ·exact ac5 (x.above y c (S4 h))
 ·have J:i<B.length:=by
   unfold gz at m
   by_cases J:i<B.length
   ·exact J
   ·rw[V3 (by simpa using J)]at m;rw[W9]at m
    split at m<;>cases m
  have U:B[i]?=some v:=by
   unfold gz at m;rw[L9 (by simpa using J),F4]at m;cases e:B[i]? with
   |none=>rw[e]at m;cases m
   |some a=>rw[e]at m;cases m;rfl
  obtain⟨u,Q,Y⟩:=r.get U;have G:ps[i]?=some y:=by
   rw[<-S.pre,List.getElem?_take_of_lt (by lia)];exact L
  have I:ps.Nodup:=by rw[<-S.pre];exact S.nd.sublist (List.take_sublist _ _)
  refine⟨u,Y,?_⟩;rcases S.par y (F7 G)with k|k
  ·exact .inl ⟨k,nh I G Q k⟩
  ·obtain⟨c,e⟩:=pQ (n:=s.heap.objs.size+1) k;refine .inr ⟨.inl k,c,e,?_⟩;have q:=x.cell y c e;rw[nL I G Q (by show g.names.lookup y≠_;rw[k];decide)]at q;exact q
 ·exact o.hok.fresh (ac5 (x.above y c (S4 h)))
 ·unfold gz;show _=N.length;rw[E7,E3,Z7]
  lia
theorem Aa{CX:CXT}{P:K3}{w:Q5}{K:E2}{T:Str->Option E1}{base:J6}{k:Nat}{f:F0}{name h:Str}{j:Arguments}{l:List W8}{a:ac4}{dV kV M pm i ct oc:E1}{an od:Option F0}
  {Y:Array (Option E1)} {N ps:List Str} {sp:Sp} (lk:K.lookup f=some ⟨oc,od,.func (Z8 name h j l a dV kV M pm an i ct),Y⟩) (a0:ah3 K i h=true) (S:ay N ps a)
  (len:∀m H Q E,sp m H Q E->m.length=ps.length)
  (C:∀ (A:M9) (g:List Env) (s:E6) (H:Hp) (m:List V) (Q:VK) (E:XK),cc k (A.deeper (ab4 h a s.heap.objs.size f i)) → sp m H Q E →
   ∃t,PSs (jq CX P w K T base N h a f i A g s H E) l t/\t { nx:=λ_ z=>Q .non z,rt:=Q } (gz N m) H) :
  aU P w K T base CX (k+1) f (Z8 name h j l a dV kV M pm an i ct) ps sp:=by
 refine⟨len,λA g s H a2 us m Q E Z O hb r L=>?_⟩;have hl:=len _ _ _ _ L;have KX:K.In s.heap:=O.mod.kin.keeps λb o e=>(O.bs b o e).1;have a1:s.heap.NoLimit:=O.mod.nolimit.keeps λb o e=>(O.bs b o e).1;have B:∀y∈ps.zip us,a.names.lookup y.1=some .local∨(a.names.lookup y.1=some .cell/\((ap9 (s.heap.objs.size+1) a.names []).lookup y.1).isSome=true):=λ⟨n,v⟩ hy=>by
  rcases S.par n (ai7 hy).1 with q|q
  ·exact .inl q
  ·exact .inr ⟨q,PySem.W.cellsFrom_some _ _ _ (.inl q)⟩
 refine codeAny_call_function Z.depth (KX _ _ lk) rfl S.co S.gen rfl (PySem.W.codeRec_of KX a0) (hb _ _ _ _ ?_);refine wpAny_newFunctionEnv_cells S.kind B λa3 he s1 x=>?_;subst he;refine⟨a1.keeps x.toInCall.keep,codeAny_func ?_⟩;obtain⟨t,ht,hq⟩:=C A g s H m Q E (Z.deeper _) L;have I:Inv (jq CX P w K T base N h a f i A g s H E) [] (gz N m) H s1:=ui S Z.hd O hl r x;refine O1 (ht [] s1 (gz N m) H _ I hq) (λfl U G=>?_) λe U G=>G;have R:∀{p:St} {z:Hp} {v:V} {u:E1},Inv (jq CX P w K T base N h a f i A g s H E) [] p z U->aO v u->Q v z->CE g P w H s Q u U :=
  λ{p z v u} J X q=>⟨v,z,J.os,J.bare,J.base,J.hok,X,q⟩
 cases fl with
 |ret u =>
  obtain⟨v,p,z,J,X,q⟩:=G;exact R J X q
 |next =>
  obtain⟨p,z,J,q⟩:=G;exact R (v:=V.non) (u:=J5) J rfl q
 |brk =>
  obtain⟨_,_,_,q⟩:=G;exact S1 q
 |cont =>
  obtain⟨_,_,_,q⟩:=G;exact S1 q
section
variable{X:Cx}{x:Str}{p pos:Pos}{e:K8}{g:List K8}{t:TA}{id T:String}{r:List V->Hp->VK->Prop}
def tCB(r:List V->Hp->VK->Prop)(t:TA):TE:=λa H Q=>t a H λb e=>r b e Q
theorem ic(u:cL X (.builtin id) r)(hg:Gl X x)(n:X.mg x=none)(i:W0 x=some (.builtin id))(ha:PA X (e::g) t)(q:x≠"__name__":=by decide)(hdb:(x==("__debug__":Str))=false:=by decide)
  (he:E9 (e::g) X.env=(false,X7 e X.env)::E9 g X.env:=by rfl) (hpl:(U3 pos (E9 g X.env)).any (·.1)=false:=by rfl):PE X (.Call (.Name x p) (e::g) [] pos) (tCB r t):=by
 intro b s f H Q I h;refine W4 (jh I hg n i ?_ q hdb);exact PyProof.Rows.callWith_builtin1 (thn (ha pos b s f H _ I h) λl o a=>a.el λz j w m A=>u b o f j z l Q w m A) he hpl
theorem nE(u:cL X (.type T) r)(hg:Gl X x)(n:X.mg x=none)(i:W0 x=some (.type T))(ha:PA X (e::g) t)(q:x≠"__name__":=by decide)(hdb:(x==("__debug__":Str))=false:=by decide)
  (he:E9 (e::g) X.env=(false,X7 e X.env)::E9 g X.env:=by rfl) (hpl:(U3 pos (E9 g X.env)).any (·.1)=false:=by rfl):PE X (.Call (.Name x p) (e::g) [] pos) (tCB r t):=by
 intro b s f H Q I h;refine W4 (jh I hg n i ?_ q hdb);exact U5 (thn (ha pos b s f H _ I h) λl o a=>a.el λz j w m A=>u b o f j z l Q w m A) he hpl
end
end L2
namespace HT
open PySem PyProof.Rows
section
open PySem.SeqAt
open PySem.AutoSeq1 (wpAny_loadPart')
open PySem.MeetsSeq PySem.MeetsSeq2 PySem.MeetsSeq3
end
section
variable{prog:K3}{w:Q5}{A:M9}{E:E1->E6->Prop}{s:E6}
theorem cat_tup{t b:F0}{f ws:List E1}{Q:E1->E6->Prop}(G:am0 s.heap t f.toArray)(C:am0 s.heap b ws.toArray)(o:f≠[])
  (H:ws=[]->Q (.ref t) s) (I:ws≠[]->Q (.ref s.heap.objs.size) { s with heap:=s.heap.push { cls:=.type "tuple",data:=.seq (f++ws).toArray } })
  (hsz:f.length+ws.length<=F2):H0 (K7 prog w) A (W3 .Add (.ref t) (.ref b)) Q E s:=by
 obtain⟨⟨cls,x,data,B⟩,l,z,n,u⟩:=id G;obtain⟨⟨q,j,data2,g⟩,a,i,p,h⟩:=id C;simp only at z u i h;subst z u i h;have e:f.toArray++ws.toArray=(f++ws).toArray:=by simp
 by_cases m:ws=[]
 ·exact concat_meets ⟨_,l,rfl⟩ ⟨_,a,rfl⟩ noFill_tuple_add seq_tuple_add PySem.F.slot_tuple_add PySem.F.entry_tuple_add (PySem.F.args_tuple_add_2 _ _)
   (tuple_addW1 t b f.toArray ws.toArray n p x j B g (by simpa using o) (by simp[m])) ⟨l,a,H m⟩
 ·refine concat_meets ⟨_,l,rfl⟩ ⟨_,a,rfl⟩ noFill_tuple_add seq_tuple_add PySem.F.slot_tuple_add PySem.F.entry_tuple_add (PySem.F.args_tuple_add_2 _ _)
   (tuple_addW2 t b f.toArray ws.toArray n p x j B g (by simpa using o) (by simpa using m) (by rw[E8,E8];exact hsz)) ⟨l,a,?_⟩
  rw[e];exact I m
noncomputable def sIx(n d:Nat):Option Int->Nat
 |none=>d
 |some v=>if v<0 then(v+(n:Int)).toNat else min v.toNat n
theorem sIx_none(n d:Nat):sIx n d none=d:=rfl
theorem sIx_nat(n d k:Nat):sIx n d (some (k:Int))=min k n:=by
 show(if(k:Int)<0 then((k:Int)+(n:Int)).toNat else min (k:Int).toNat n)=min k n;rw[if_neg (by lia),P4]
theorem Br(n d:Nat)(b:d<=n)(o:Option Int):sIx n d o<=n:=by
 cases o with
 |none=>exact b
 |some v =>
  show(if v<0 then(v+(n:Int)).toNat else min v.toNat n)<=n
  by_cases a:v<0
  ·rw[if_pos a];lia
  ·rw[if_neg a];exact Nat.min_le_right _ _
theorem sJ(v:Int)(n d:Nat):(if v<0 then max (v+(n:Int)) 0 else min v (n:Int))=((sIx n d (some v):Nat):Int):=by
 show(if v<0 then max (v+(n:Int)) 0 else min v (n:Int))=(((if v<0 then(v+(n:Int)).toNat else min v.toNat n):Nat):Int)
 by_cases a:v<0
 ·simp only[if_pos a];lia
 ·simp only[if_neg a];lia
theorem rR(lo hi:Option Int)(n:Nat):K1.Slice.sliceAdjust lo hi 1 (n:Int)=(((sIx n 0 lo:Nat):Int),((sIx n n hi:Nat):Int)):=by
 have a:¬ ((1:Int)<0):=by lia
 unfold K1.Slice.sliceAdjust;simp only[a,if_false];refine Prod.ext ?_ ?_
 ·cases lo with
  |none=>rfl
  |some v=>exact sJ v n 0
 ·cases hi with
  |none=>rfl
  |some v=>exact sJ v n n
theorem rM(i j:Nat):R4 (i:Int) (j:Int) 1=j-i:=by
 unfold R4;have a:(1:Int) > 0:=by lia
 simp only[a,if_true,Int.ediv_one]
 split<;>lia
theorem lL{v:E1}{o:Option Int}{Q:Option Int->E6->Prop}(p:ao3 v o)(h:Q o s):H0 (K7 prog w) A (K1.Slice.slicePartIndex v) Q E s:=by
 cases p with
 |none=>exact ak5 h
 |int i t=>exact slicePart_int h
theorem fL{g:F0}{e f:E1}{lo hi:Option Int}{n:Nat}{Q:Int×Int×Nat->E6->Prop}(l:s.heap.IsSliceOf g e f .none)(pl:ao3 e lo)(i:ao3 f hi)
  (h:Q (((sIx n 0 lo:Nat):Int),1,sIx n n hi-sIx n 0 lo) s):H0 (K7 prog w) A (Z3 (.ref g) (ae2 (n:Int))) Q E s:=by
 obtain⟨os,b,j,a⟩:=id l;unfold Z3 K1.Slice.sliceFields;refine o0 (o0 (P1 b a (x:=e) rfl (o0 (P1 b a (x:=f) rfl (o0 (P1 b a (x:=.none) rfl (E5 ?_)))))));refine o0 (ak5 ?_);show H0 _ _ (if((1:Int)==0)=true then _ else _) _ _ s;rw[if_neg (by decide)];refine o0 (lL pl (o0 (lL i (o0 (E5 ?_)))));show H0 _ _ (match K1.Slice.sliceAdjust lo hi 1 (n:Int)with|(lo,hi)=>ae2 (lo,(1:Int),R4 lo hi 1)) _ _ s;rw[rR lo hi n];show H0 _ _ (ae2 (((sIx n 0 lo:Nat):Int),(1:Int),R4 ((sIx n 0 lo:Nat):Int) ((sIx n n hi:Nat):Int) 1)) _ _ s;rw[rM];exact E5 h
theorem wI(xs:Array E1)(i k:Nat):((Q4 k).filterMap λ(m:Nat)=>xs[((i:Int)+(m:Int)*1).toNat]?).toArray=((xs.toList.drop i).take k).toArray:=by
 have e:(λ(m:Nat)=>xs[((i:Int)+(m:Int)*1).toNat]?)=λm=>xs[i+m]?:=by
  funext m;have:((i:Int)+(m:Int)*1).toNat=i+m:=by lia
  rw[this]
 rw[e];have:=pick_run xs i k;rw[List.filterMap_map]at this;have a:((λx=>xs[x]?)∘λx=>i+x)=λm=>xs[i+m]?:=rfl;rw[a]at this;rw[this]
theorem getItem_tuple_cut{t l:F0}{a:Array E1}{o p:E1}{lo hi:Option Int}{Q:E1->E6->Prop}(e:am0 s.heap t a)(n:s.heap.IsSliceOf l o p .none)(pl:ao3 o lo)(u:ao3 p hi)
  (z:¬ (sIx a.size 0 lo=0/\sIx a.size a.size hi=a.size))
  (h:Q (.ref s.heap.objs.size) { s with heap:=s.heap.push { cls:=.type "tuple",data:=.seq ((a.toList.drop (sIx a.size 0 lo)).take (sIx a.size a.size hi-sIx a.size 0 lo)).toArray } })
  (hsz:a.size<=F2):H0 (K7 prog w) A (am2 (.ref t) (.ref l)) Q E s:=by
 have b:sizeOk (.seq ((a.toList.drop (sIx a.size 0 lo)).take (sIx a.size a.size hi-sIx a.size 0 lo)).toArray):=by
  show((a.toList.drop (sIx a.size 0 lo)).take (sIx a.size a.size hi-sIx a.size 0 lo)).toArray.size<=F2;rw[E8,O8,U0,P7]
  lia
 have B:sIx a.size a.size hi<=a.size:=Br _ _ (F5 _) hi;obtain⟨os,g,f,x⟩:=id n;have i:s.TypeIs (.ref l) "slice":=⟨os,g,f⟩;unfold am2
 try with_reducible refine P2 ?_
 first|refine o0 (E5 ?_)|skip
 refine o0 (wpAny_sequenceKey e.typeIs (by decide) ?_);refine o0 (R0 (name:=R7 "__getitem__") e.typeIs M7
  (V0 M7 e.typeIs entry_tuple_getitem ?_ (args_tuple_getitem _ _)))
 show H0 _ _ (Z4 (.ref t) >>= _) _ _ s;refine o0 (al3 e ?_);refine o0 (ak0 i ?_);rw[if_pos (by decide)];refine o0 (fL n pl u ?_);have j:¬ ((((sIx a.size 0 lo:Nat):Int)==0&&(1:Int)==1&&(sIx a.size a.size hi-sIx a.size 0 lo)==a.size)=true):=by
  intro q;rw[J9,J9]at q;have G:((sIx a.size 0 lo:Nat):Int)=0:=eq_of_beq q.1.1;have C:sIx a.size a.size hi-sIx a.size 0 lo=a.size:=eq_of_beq q.2;exact z ⟨by lia,by lia⟩
 show H0 _ _ (if(((sIx a.size 0 lo:Nat):Int)==0&&(1:Int)==1&&(sIx a.size a.size hi-sIx a.size 0 lo)==a.size)=true then _ else _) _ _ s;rw[if_neg j,wI]
 first
  |exact o0 (m:=N4 _) (O4 (E5 ⟨_,rfl,E5 h⟩) b)
  |exact o0 (m:=N4 _) (O4 (o0 (E5 (E5 ⟨_,rfl,E5 h⟩))) b)
  |exact o0 (o0 (m:=N4 _) (O4 (E5 (E5 ⟨_,rfl,E5 h⟩)) b))
  |exact o0 (o0 (m:=N4 _) (O4 (E5 ⟨_,rfl,E5 h⟩) b))
end
end HT
namespace L2
open PySem PySem.Spec PyProof.Rows
abbrev TO:=St->Hp->(Option Int->Hp->Prop)->Prop
def PO(X:Cx)(e:Option K8)(t:TO):Prop :=
 ∀(b:List (F0×Obj)) (s:E6) (a:St) (H:Hp) (Q:Option Int->Hp->Prop),Inv X b a H s->t a H Q ->
  H0 (K7 X.prog X.w) X.A (evalPart e X.env) (λu g=>∃o f,Inv X b a f g/\ao3 u o/\Q o f) X.xe s
def yU:TO:=λ_ H Q=>Q none H
def Cu(t:TE):TO:=λa H Q=>t a H λx b=>∃i,x=.int i/\Q (some i) b
section
variable{X:Cx}{e:K8}{te:TE}{lo hi:Option K8}{g B:TO}{pos E:Pos}
theorem yR:PO X none yU:=by
 intro b s a H Q I h;rw[al4];exact E5 ⟨none,H,I,.none,h⟩
theorem yY(h:PE X e te):PO X (some e) (Cu te):=by
 intro g s j H Q I m;rw[evalPart_some];refine thn (h g s j H _ I m) λu o a=>a.el λx b l f n=>?_;obtain⟨i,rfl,q⟩:=n;obtain⟨t,rfl⟩:=f;exact⟨some i,b,l,.int i t,q⟩
def SlR(X:Cx)(r:V->Option Int->Option Int->Hp->VK->Prop):Prop :=
 ∀(e:List (F0×Obj)) (s:E6) (a:St) (H:Hp) (x:V) (v vl vu:E1) (lo hi:Option Int) (b:F0) (Q:VK),Inv X e a H s->aO x v->s.heap.IsSliceOf b vl vu .none->ao3 vl lo->ao3 vu hi->r x lo hi H Q ->
  ∃T id,typeLookup (.type T) "__getitem__"=ae2 (some (.builtin id))/\s.TypeIs v T/\H0 (K7 X.prog X.w) X.A (am2 v (.ref b)) (EP X e a Q) X.xe s
theorem SlR.or{r e:V->Option Int->Option Int->Hp->VK->Prop}(h:SlR X r)(h':SlR X e):SlR X (λx lo hi H Q=>r x lo hi H Q∨e x lo hi H Q):=by
 intro b s a H x v vl vu lo hi sl Q I rx hs pl pu q;rcases q with q|q
 ·exact h b s a H x v vl vu lo hi sl Q I rx hs pl pu q
 ·exact h' b s a H x v vl vu lo hi sl Q I rx hs pl pu q
def tSl(r:V->Option Int->Option Int->Hp->VK->Prop)(te:TE)(g B:TO):TE:=λa H Q=>te a H λx b=>g a b λl e=>B a e λu f=>r x l u f Q
theorem wY{r:V->Option Int->Option Int->Hp->VK->Prop}(hr:SlR X r)(he:PE X e te)(U:PO X lo g)(O:PO X hi B):PE X (.Subscript e (.Slice lo hi none E) pos) (tSl r te g B):=by
 intro f s i H Q I h;refine ao8 (thn (he f s i H _ I h) λv z n=>n.el λx P I1 R N=>?_);refine wpAny_Slice (thn (U f z i P _ I1 N) λj S ⟨l,L,Y,C,w⟩=>thn (O f S i L _ Y w) λm a ⟨u,o,t,G,M⟩=>?_);rw[al4];refine E5 ?_;have Z:Inv X f i o { a with heap:=a.heap.push { cls:=.type "slice",data:=.fields #[j,m,.none] } }:=t.kept (t':=a.toks) λb ob q=>u8 _ q;obtain⟨T,id,p,A,J⟩:=hr f { a with heap:=a.heap.push { cls:=.type "slice",data:=.fields #[j,m,.none] } } i o x v j m l u a.heap.objs.size Q Z R (J6.IsSliceOf.new ..) C G M;show H0 (K7 X.prog X.w) X.A (subscriptTail e (.Slice lo hi none E) v (.ref a.heap.objs.size)) (EP X f i Q) X.xe { a with heap:=a.heap.push { cls:=.type "slice",data:=.fields #[j,m,.none] } };exact tail_any (ops:=[.ref a.heap.objs.size,v]) A p J (by with_unfolding_all rfl)
def o8(xs:List V)(lo hi:Option Int):List V:=(xs.drop (HT.sIx xs.length 0 lo)).take (HT.sIx xs.length xs.length hi-HT.sIx xs.length 0 lo)
theorem kq(xs:List V)(lo hi:Option Int):(o8 xs lo hi).length<=xs.length:=by
 unfold o8;rw[O8,U0]
 lia
def Ec(K:E2):V->Option Int->Option Int->Hp->VK->Prop:=λx lo hi H Q=>∃a b,x=.ref a/\SqT K H a b /\
 ¬ (HT.sIx b.length 0 lo=0/\HT.sIx b.length b.length hi=b.length)/\∀p,H p=none->Q (.ref p) (upd H p (.tup (o8 b lo hi)))
theorem BV:SlR X (Ec X.K):=by
 intro t s n H x v vl vu lo hi sl Q I rx hs pl pu h;obtain⟨a,e,rfl,m,l,q⟩:=h;cases rx;obtain⟨g,r,j,i⟩:=I.tuple m;have f:g.toArray.size=e.length:=by rw[E8];exact r.length.symm
 refine⟨"tuple",_,M7.lookup,j.typeIs,?_⟩;refine HT.getItem_tuple_cut j hs pl pu (by rw[f];exact l) ?_ (by rw[f];exact i);rw[f];refine⟨.ref s.heap.objs.size,_,I.laid (t':=s.toks) (o:=.tup (o8 e lo hi)) (λb p q=>u8 _ q) (F5 _) ?_,rfl,q _ (I.hok.fresh (F5 _))⟩;exact⟨Q8 (kq e lo hi) i,_,(r.drop (HT.sIx e.length 0 lo)).take (HT.sIx e.length e.length hi-HT.sIx e.length 0 lo),jJ.new _ _⟩
def Dr(K:E2):R2:=λx y H Q=>∃a b f e,x=.ref a/\y=.ref b/\SqT K H a f/\SqT K H b e/\f≠[]/\f.length+e.length<=F2 /\
 (e=[]->Q (.ref a) H)/\(e≠[]->∀p,H p=none->Q (.ref p) (upd H p (.tup (f++e))))
theorem aA.nil_iff{xs:List V}{us:List E1}(r:aA xs us):us=[]↔xs=[]:=by
 cases r with
 |nil=>simp
 |cons _ _=>simp
theorem ye:OpR X (W3 .Add) (Dr X.K):=by
 intro G s J H x y v u Q I rx ry h;obtain⟨a,b,A,m,rfl,rfl,j,t,n,i,C,p⟩:=h;cases rx;cases ry;obtain⟨B,f,l,_⟩:=I.tuple j;obtain⟨g,e,E,_⟩:=I.tuple t;refine HT.cat_tup l E (λz=>n (f.nil_iff.mp z)) (λz=>⟨.ref a,H,I,rfl,C (e.nil_iff.mp z)⟩) (λz=>?_) (by rw[<-f.length,<-e.length];exact i);refine⟨.ref s.heap.objs.size,_,I.laid (t':=s.toks) (o:=.tup (A++m)) (λb L q=>u8 _ q) (F5 _) ?_,rfl,p (λw=>z (e.nil_iff.mpr w)) _ (I.hok.fresh (F5 _))⟩;exact⟨by rw[E7];exact i,_,f.append e,jJ.new _ _⟩
end
noncomputable def ixN(n:Nat)(i:Int):Option Nat:=if 0<=i then(if i<n then some i.toNat else none)else if -(n:Int)<=i then some (i+n).toNat else none
def atI{a:Type}(xs:List a)(i:Int):Option a:=(ixN xs.length i).bind λj=>xs[j]?
theorem tS{n:Nat}{i:Int}{j:Nat}(h:ixN n i=some j):seqIndex? i n=some j/\j<n/\-(n:Int)<=i/\i<n:=by
 unfold ixN at h
 by_cases b:0<=i
 ·rw[if_pos b]at h
  by_cases a:i<n
  ·rw[if_pos a]at h;have e:i.toNat=j:=R1 h;exact⟨by rw[seqIndex_of b a,e],by lia,by lia,a⟩
  ·rw[if_neg a]at h;cases h
 ·rw[if_neg b]at h
  by_cases a:-(n:Int)<=i
  ·rw[if_pos a]at h;have e:(i+n).toNat=j:=R1 h;exact⟨by rw[seqIndex_neg (by lia) a,e],by lia,a,by lia⟩
  ·rw[if_neg a]at h;cases h
theorem oR{a:Type}{xs:List a}{i:Int}{v:a}(h:atI xs i=some v):∃j,seqIndex? i xs.length=some j/\xs[j]?=some v/\j<xs.length/\-(xs.length:Int)<=i/\i<xs.length:=by
 unfold atI at h;cases e:ixN xs.length i with
 |none=>rw[e]at h;cases h
 |some j =>
  rw[e]at h;obtain⟨f,g,l,b⟩:=tS e;exact⟨j,f,h,g,l,b⟩
theorem aE{a:Type}{xs:List a}{j:Nat}{v:a}(h:xs[j]?=some v):atI xs (j:Int)=some v:=by
 have b:j<xs.length:=(J8.mp h).1;have e:ixN xs.length (j:Int)=some j:=by
  unfold ixN;rw[if_pos (by lia),if_pos (by lia)];simp
 unfold atI;rw[e];exact h
def r8(b:K8):Prop:=∀o i,subscripted b false o i=operate [o,i] (am2 o i)
def IxR(X:Cx)(r:R2):Prop :=
 ∀(a slice:K8) (e:List (F0×Obj)) (s:E6) (b:St) (H:Hp) (x y:V) (v u:E1) (Q:VK),Inv X e b H s->aO x v->aO y u->r x y H Q ->
  subscripted slice false v u=operate [v,u] (am2 v u)->H0 (K7 X.prog X.w) X.A (subscriptTail a slice v u) (EP X e b Q) X.xe s
def MtR(X:Cx)(id:String)(r:V->List V->Hp->VK->Prop):Prop :=
 ∀(f:List (F0×Obj)) (s:E6) (b:St) (H:Hp) (x:V) (a:List V) (v:E1) (e:List E1) (Q:VK),Inv X f b H s->aO x v->aA a e->r x a H Q ->
  H0 (K7 X.prog X.w) X.A (aq5 (.builtin id) (v::e)) (EP X f b Q) X.xe s
section
variable{X:Cx}{a b:K8}{Y tb:TE}{pos:Pos}
theorem CB{r:R2}(hr:IxR X r)(ha:PE X a Y)(o:PE X b tb)(n:r8 b):PE X (.Subscript a b pos) (tOp r Y tb):=by
 intro j s f H Q I h;exact ao8 (Am ha o I h λv u l x y m e g i q=>hr a b j l f m x y v u Q e g i q (n _ _))
def Ez(K:E2):R2:=λx y H Q=>∃p a i v,x=.ref p/\y=.int i/\SqL K H p a/\atI a i=some v/\Q v H
def D3(K:E2):R2:=λx y H Q=>∃p a i v,x=.ref p/\y=.int i/\SqT K H p a/\atI a i=some v/\Q v H
def Eo:R2:=λx y H Q=>∃z i c,x=.str z/\y=.int i/\z.length<=F2/\atI z.cps.toList i=some c/\Q (.str ⟨#[c]⟩) H
theorem sL:IxR X (Ez X.K):=by
 intro f slice n s A H x y v u Q I rx ry h hs;obtain⟨p,S,i,z,rfl,rfl,J,C,q⟩:=h;cases rx;obtain⟨t,rfl⟩:=ry;obtain⟨m,r,l,R⟩:=I.list J;obtain⟨j,b,M,O,G,L⟩:=oR C;obtain⟨w,o,g⟩:=r.get M;have E:=r.length;have P:=jW;have a:EP X n A Q w s:=⟨z,H,I,g,q⟩
 by_cases B:0<=i
 ·have e:i.toNat=j:=by
   rw[seqIndex_of B L]at b;exact R1 b
  exact item_listR l.isList B (by lia) (by rw[e];simpa using o) a hs
 ·have e:(i+(m.toArray.size:Int)).toNat=j:=by
   rw[seqIndex_neg (by lia) G]at b;rw[E8,<-E];exact R1 b
  exact subscriptTail_builtinR (x:=w) l.isList.typeIs slot_list_getitem.lookup
   (wpAny_getItem_list_neg (Q:=λr N=>r=w/\EP X n A Q r N) l.isList (by lia) (by rw[E8]<;>lia) (by lia) (by rw[e];simpa using o) ⟨rfl,a⟩) hs
theorem BX:IxR X (D3 X.K):=by
 intro a slice f s g H x y v u Q I rx ry h hs;obtain⟨p,O,i,z,rfl,rfl,A,m,q⟩:=h;cases rx;obtain⟨t,rfl⟩:=ry;obtain⟨C,r,l,N⟩:=I.tuple A;obtain⟨j,E,B,J,M,P⟩:=oR m;obtain⟨w,o,b⟩:=r.get B;have n:=r.length;have L:=jW;have e:EP X f g Q w s:=⟨z,H,I,b,q⟩;exact subscriptTail_builtinR (x:=w) l.typeIs slot_tuple_getitem.lookup
  (getItem_tuple (j:=j) (Q:=λr G=>r=w/\EP X f g Q r G) l (by lia) (by lia) (by rw[E8,<-n];exact E) (by simpa using o) ⟨rfl,e⟩) hs
theorem A0:IxR X Eo:=by
 intro a slice A s B H x y v u Q I rx ry h hs;obtain⟨z,i,c,rfl,rfl,E,f,q⟩:=h;obtain⟨t,rfl⟩:=rx;obtain⟨p,rfl⟩:=ry;obtain⟨j,b,n,w,l,m⟩:=oR f;have g:z.cps.toList.length=z.length:=by simp[Str.length]
 rw[g]at b l m;have C:=jW;exact tail_any (typeIs_str s z t) slot_str_getitem.lookup (getItem_str (c:=c) (by
  have e:decide (i < -(2 ^ 63:Int))=false:=decide_eq_false (by lia);have o:decide (i>=2 ^ 63)=false:=decide_eq_false (by lia);rw[e,o,Bool.or_false]) (by rw[b];simpa using n) ⟨.str ⟨#[c]⟩,H,I.tok _,⟨_,rfl⟩,q⟩) hs
theorem rK(a:List E1)(n j:Nat)(u:E1):ah0 (·.setIfInBounds j u) { cls:=.type "list",data:=.seq a.toArray n }={ cls:=.type "list",data:=.seq (a.set j u).toArray n }:=by
 simp[ah0]
theorem Inv.lst{b:List (F0×Obj)}{σ:St}{H:Hp}{s:E6}{p:F0}{xs:List V}(I:Inv X b σ H s)(h:H p=some (.lst xs)):
  ∃(a:List E1) (n:Nat),aA xs a/\s.heap.get? p=some { cls:=.type "list",data:=.seq a.toArray n }/\xs.length<=F2:=by
 obtain⟨z,a,n,r,e⟩:=I.hok p _ h;exact⟨a,n,r,e,z⟩
theorem Inv.lstUpd{l:List (F0×Obj)}{σ:St}{H:Hp}{s:E6}{p:F0}{xs i:List V}{a its':List E1}{n g:Nat}{f:Obj->Obj}(I:Inv X l σ H s)(h:H p=some (.lst xs))
  (m:s.heap.get? p=some { cls:=.type "list",data:=.seq a.toArray n }) (j:f { cls:=.type "list",data:=.seq a.toArray n }={ cls:=.type "list",data:=.seq its'.toArray g }) (r:aA i its') (o:i.length<=F2) (t:Nat) :
  Inv X l σ (upd H p (.lst i)) { s with heap:=s.heap.update p f,toks:=t }:=by
 have e:(s.heap.update p f).get? p=some { cls:=.type "list",data:=.seq its'.toArray g }:=by
  rw[P5 f m (by rw[j]<;>rfl),j]
 refine I.write (x:=p) (e:=p) (by rw[h];trivial) (.inl rfl) (λb u w q=>(K5 _ _ (T7 w)).trans q) ⟨_,e⟩ ?_;exact⟨o,its',g,r,e⟩
def Ce:V->V->V->Hp->(Hp->Prop)->Prop:=λo i v H Q=>∃p a k j,o=.ref p/\i=.int k/\H p=some (.lst a)/\ixN a.length k=some j/\Q (upd H p (.lst (a.set j v)))
theorem vj:DV X Ce:=by
 intro A s C H o i v ov iv u Q I ro ri rv h;obtain⟨p,G,k,j,rfl,rfl,m,B,q⟩:=h;cases ro;obtain⟨t,rfl⟩:=ri;obtain⟨a,n,r,e,E⟩:=I.lst m;obtain⟨b,L,l,w⟩:=tS B;have f:=r.length;have J:=jW;have z:Inv X A C (upd H p (.lst (G.set j v))) { s with heap:=s.heap.update p (ah0 (·.setIfInBounds j u)) } :=
  I.lstUpd m e (rK a n j u) (r.set rv j) (by rw[X9];exact E) s.toks
 by_cases x:0<=k
 ·have g:k.toNat=j:=by
   rw[seqIndex_of x w]at b;exact R1 b
  exact PySem.W.ki_setAt e x (by lia) (by rw[E8,<-f];exact w) (by rw[g];exact⟨_,z,q⟩)
 ·have g:(k+(a.toArray.size:Int)).toNat=j:=by
   rw[seqIndex_neg (by lia) l]at b;rw[E8,<-f];exact R1 b
  exact PySem.W.ki_setBack e (by lia) (by rw[E8,<-f];exact l) (by lia) (by rw[g];exact⟨_,z,q⟩)
theorem oo(lo hi:Option Int)(n:Nat):(ad0 lo hi none n).1=((HT.sIx n 0 lo:Nat):Int)/\(ad0 lo hi none n).2.1=((HT.sIx n n hi:Nat):Int)/\(ad0 lo hi none n).2.2=1:=by
 refine⟨?_,?_,rfl⟩
 ·cases lo with
  |none=>simp[ad0,HT.sIx]
  |some i =>
   simp only[ad0,HT.sIx,Option.getD_none,show(1:Int) > 0 by decide,if_true]
   by_cases h:i<0
   ·simp only[h,if_true]<;>lia
   ·simp only[h,if_false]<;>lia
 ·cases hi with
  |none=>simp[ad0,HT.sIx]
  |some i =>
   simp only[ad0,HT.sIx,Option.getD_none,show(1:Int) > 0 by decide,if_true]
   by_cases h:i<0
   ·simp only[h,if_true]<;>lia
   ·simp only[h,if_false]<;>lia
theorem mH(a:List E1)(lo hi:Option Int):aq0 a.toArray lo hi none=((a.drop (HT.sIx a.length 0 lo)).take (HT.sIx a.length a.length hi-HT.sIx a.length 0 lo)).toArray:=by
 obtain⟨e,b,f⟩:=oo lo hi a.toArray.size;unfold aq0;rw[e,b,f];simp only[sliceRange_one,pick_run,E8]<;>rfl
def Es(K:E2):V->Option Int->Option Int->Hp->VK->Prop:=λx lo e H Q=>∃a b,x=.ref a/\SqL K H a b/\∀p,H p=none->Q (.ref p) (upd H p (.lst (o8 b lo e)))
theorem yj:SlR X (Es X.K):=by
 intro p s m H x v vl vu lo hi sl Q I rx hs pl pu h;obtain⟨a,e,rfl,l,q⟩:=h;cases rx;obtain⟨j,r,f,g⟩:=I.list l;have i:=r.length;refine⟨"list",_,slot_list_getitem.lookup,f.isList.typeIs,?_⟩;refine wpAny_getItem_list_slice f.isList hs pl pu .none (by simp) ?_ (by rw[E8]<;>lia);rw[mH,<-i];refine⟨.ref s.heap.objs.size,_,I.laid (t':=s.toks) (o:=.lst (o8 e lo hi)) (λb n q=>u8 _ q) (F5 _) ?_,rfl,q _ (I.hok.fresh (F5 _))⟩;exact⟨Q8 (kq e lo hi) g,_,0,(r.drop (HT.sIx e.length 0 lo)).take (HT.sIx e.length e.length hi-HT.sIx e.length 0 lo),F9 _ rfl⟩
def gX:V->Bool
 |.non=>true
 |.bl _=>true
 |.int _=>true
 |.str _=>true
 |_=>false
noncomputable def eqV:V->V->Bool
 |.non,.non=>true
 |.bl a,.bl b=>a==b
 |.bl a,.int b=>(if a then 1 else 0)==b
 |.int a,.bl b=>a==(if b then 1 else 0)
 |.int a,.int b=>a==b
 |.str a,.str b=>a==b
 |_,_=>false
theorem Be{A:M9}{s:E6}{y x:V}{u v:E1}(g:aO y u)(e:aO x v)(i:gX y=true)(h:gX x=true):S8 A s u v (eqV y x):=by
 cases y with
 |non =>
  cases g;cases x with
  |non=>cases e;exact S8.same _
  |bl b=>cases e;exact S8.none_bool b
  |int b=>obtain⟨t,rfl⟩:=e;exact S8.none_int b t
  |str b=>obtain⟨t,rfl⟩:=e;exact S8.none_str b t
  |_=>exact absurd (show false=true from h) O7
 |bl a =>
  cases g;cases x with
  |non=>cases e;exact S8.bool_none a
  |bl b=>cases e;exact S8.bool_bool a b
  |int b=>obtain⟨t,rfl⟩:=e;exact S8.bool_int a b t
  |str b=>obtain⟨t,rfl⟩:=e;exact S8.bool_str a b t
  |_=>exact absurd (show false=true from h) O7
 |int a =>
  obtain⟨f,rfl⟩:=g;cases x with
  |non=>cases e;exact S8.int_none a f
  |bl b=>cases e;exact S8.int_bool a f b
  |int b=>obtain⟨t,rfl⟩:=e;exact S8.int_int a f b t
  |str b=>obtain⟨t,rfl⟩:=e;exact S8.int_str a f b t
  |_=>exact absurd (show false=true from h) O7
 |str a =>
  obtain⟨f,rfl⟩:=g;cases x with
  |non=>cases e;exact S8.str_none a f
  |bl b=>cases e;exact S8.str_bool a f b
  |int b=>obtain⟨t,rfl⟩:=e;exact S8.str_int a f b t
  |str b=>obtain⟨t,rfl⟩:=e;exact S8.str_str a f b t
  |_=>exact absurd (show false=true from h) O7
 |_=>exact absurd (show false=true from i) O7
def eqU(x:V)(u:E1):Bool:=match u with
 |.none=>eqV .non x
 |.bool b=>eqV (.bl b) x
 |.int i _=>eqV (.int i) x
 |.str z _=>eqV (.str z) x
 |_=>false
theorem xD{x y:V}{u:E1}(r:aO y u)(f:gX y=true):eqU x u=eqV y x:=by
 cases y with
 |non=>cases r;rfl
 |bl b=>cases r;rfl
 |int i=>obtain⟨t,rfl⟩:=r;rfl
 |str z=>obtain⟨t,rfl⟩:=r;rfl
 |_=>exact absurd (show false=true from f) O7
theorem jG{x:V}:∀{xs:List V}{us:List E1},aA xs us->xs.all gX=true->us.any (eqU x)=xs.any λy=>eqV y x
 |_,_,.nil,_=>rfl
 |y::xs,u::us,.cons r t,f=>by
  rw[V7,J9]at f;rw[X0,X0,xD r f.1,jG t f.2]
theorem gQ{A:M9}{s:E6}{x:V}{v:E1}(b:aO x v)(e:gX x=true):∀{xs:List V}{us:List E1},aA xs us->xs.all gX=true->∀u∈us,S8 A s u v (eqU x u)
 |_,_,.nil,_=>λu a=>by cases a
 |y::xs,u::us,.cons r t,f=>λg a=>by
  rw[V7,J9]at f;rcases I0.mp a with rfl|a
  ·rw[xD r f.1];exact Be r b f.1 e
  ·exact gQ b e t f.2 g a
def inV(x:V)(xs:List V):Bool:=xs.any λy=>eqV y x
def rIn(K:E2)(b:Bool):R2:=λx y H Q=>∃p a,y=.ref p/\(SqL K H p a∨SqT K H p a)/\gX x=true/\a.all gX=true/\Q (.bl (if b then !inV x a else inV x a)) H
theorem uw:OpR X (L8 .In) (rIn X.K false):=by
 intro j s l H x y v u Q I rx ry h;obtain⟨p,m,rfl,b,g,fs,q⟩:=h;cases ry;rcases b with b|b
 ·obtain⟨a,r,e,i⟩:=I.list b;refine SeqAt.in_listAt (eqU x) e.isList (λw f=>gQ rx g r fs w (by simpa using f)) ⟨.bl _,H,I,rfl,?_⟩;rw[show a.toArray.any (eqU x)=a.any (eqU x)by simp,jG r fs];exact q
 ·obtain⟨a,r,e,i⟩:=I.tuple b;refine SeqAt.in_tupleAt (eqU x) e (λw f=>gQ rx g r fs w (by simpa using f)) ⟨.bl _,H,I,rfl,?_⟩;rw[show a.toArray.any (eqU x)=a.any (eqU x)by simp,jG r fs];exact q
theorem oU:OpR X (L8 .NotIn) (rIn X.K true):=by
 intro j s l H x y v u Q I rx ry h;obtain⟨p,m,rfl,b,g,fs,q⟩:=h;cases ry;rcases b with b|b
 ·obtain⟨a,r,e,i⟩:=I.list b;refine SeqAt.notIn_listAt (eqU x) e.isList (λw f=>gQ rx g r fs w (by simpa using f)) ⟨.bl _,H,I,rfl,?_⟩;rw[show a.toArray.any (eqU x)=a.any (eqU x)by simp,jG r fs];exact q
 ·obtain⟨a,r,e,i⟩:=I.tuple b;refine SeqAt.notIn_tupleAt (eqU x) e (λw f=>gQ rx g r fs w (by simpa using f)) ⟨.bl _,H,I,rfl,?_⟩;rw[show a.toArray.any (eqU x)=a.any (eqU x)by simp,jG r fs];exact q
theorem o3:cL X (.builtin "len") (λxs H Q=>∃p a,xs=[.ref p]/\(SqL X.K H p a∨SqT X.K H p a)/\Q (.int a.length) H):=by
 intro n s o H xs m Q I r h;obtain⟨p,a,rfl,b,q⟩:=h;obtain⟨u,rfl,j⟩:=nJ r;cases j;have t:=jW;rcases b with b|b
 ·obtain⟨i,g,f,l⟩:=I.list b;have e:=g.length;exact Calls.call_len_list f.isList (by simp only[E8]<;>lia) ⟨.int a.length,H,I.tok _,⟨s.toks+1,by rw[E8,e]⟩,q⟩
 ·obtain⟨i,g,f,l⟩:=I.tuple b;have e:=g.length;exact len_tuple f (by simp only[E8]<;>lia) ⟨.int a.length,H,I.tok _,⟨s.toks+1,by rw[E8,e]⟩,q⟩
theorem pb:cL X (.builtin "len") (λxs H Q=>∃z,xs=[.str z]/\z.length<=F2/\Q (.int z.length) H):=by
 intro g s b H xs f Q I r h;obtain⟨z,rfl,a,q⟩:=h;obtain⟨u,rfl,t,rfl⟩:=nJ r;have e:=jW;exact len_str (by lia) ⟨.int z.length,H,I.tok _,⟨_,rfl⟩,q⟩
theorem cL.or{f:E1}{r g:List V->Hp->VK->Prop}(h:cL X f r)(h':cL X f g):cL X f (λxs H Q=>r xs H Q∨g xs H Q):=by
 intro e s a H xs b Q I rs q;rcases q with q|q
 ·exact h e s a H xs b Q I rs q
 ·exact h' e s a H xs b Q I rs q
theorem jA:cL X (.type "list") (λxs H Q=>∃p g,xs=[.ref p]/\(SqL X.K H p g∨SqT X.K H p g)/\∀l,H l=none->Q (.ref l) (upd H l (.lst g))):=by
 intro G s J H xs M Q I r h;obtain⟨p,g,rfl,w,q⟩:=h;obtain⟨u,rfl,E⟩:=nJ r;cases E;have m:∀(a:List E1),aA g a->g.length<=F2->∀(f:J6) (i:Nat),(∀b C,s.heap.get? b=some C->f.get? b=some C) ->
   f.get? s.heap.objs.size=some { cls:=.type "list",dict:=none,data:=.seq a.toArray i,slots:=#[] }->EP X G J Q (.ref s.heap.objs.size) { s with heap:=f }:=λa j t f i kp e =>
  ⟨.ref s.heap.objs.size,_,I.laid (t':=s.toks) kp (F5 _) (show bP X.prog X.w _ f _ (.lst g)from⟨t,a,i,j,e⟩),rfl,q _ (I.hok.fresh (F5 _))⟩
 rcases w with w|w
 ·obtain⟨a,j,A,t⟩:=I.list w;have L:=j.length;obtain⟨o,x,B,n,z⟩:=A.isList;exact call_list_seq p (.inl rfl) x B z (λf i kp e=>m a j t f i kp e) (by simp only[E8]<;>lia)
 ·obtain⟨a,j,A,t⟩:=I.tuple w;have L:=j.length;obtain⟨o,x,B,n,z⟩:=A;exact call_list_seq p (.inr rfl) x B z (λf i kp e=>m a j t f i kp e) (by simp only[E8]<;>lia)
theorem mR:cL X (.type "tuple") (λxs H Q=>∃p f,xs=[.ref p]/\((SqL X.K H p f/\∀l,H l=none->Q (.ref l) (upd H l (.tup f)))∨(SqT X.K H p f/\Q (.ref p) H))):=by
 intro n s t H xs B Q I r h;obtain⟨p,f,rfl,h⟩:=h;obtain⟨u,rfl,z⟩:=nJ r;cases z;rcases h with⟨j,q⟩|⟨j,q⟩
 ·obtain⟨a,m,i,x⟩:=I.list j;have C:=m.length;refine call_tuple_list i.isList (λg kp=>?_) (by simp only[E8]<;>lia);have w:Inv X n t H { s with heap:=g }:=I.kept (t':=s.toks) kp;have A:Inv X n t (upd H g.objs.size (.tup f)) { s with heap:=g.push { cls:=.type "tuple",data:=.seq a.toArray } } :=
   w.laid (t':=s.toks) (λb o e=>u8 _ e) (F5 _) (show bP X.prog X.w _ _ _ (.tup f)from⟨x,a,m,jJ.new _ _⟩)
  exact⟨.ref g.objs.size,_,A,rfl,q _ (w.hok.fresh (F5 _))⟩
 ·obtain⟨a,m,i,x⟩:=I.tuple j;exact call_tuple_same i ⟨.ref p,H,I,rfl,q⟩
def tyV(K:E2)(T:String)(x:V)(H:Hp):Prop:=match x with
 |.str _=>T="str"
 |.int _=>T="int"
 | .ref p => (T = "list" ∧ ∃ b,SqL K H p b) ∨ (T = "tuple" ∧ ∃ o,K.lookup p = some o ∧ o.cls = .type "tuple" ∧ o.dict = none) ∨
   (T="dict"/\((∃a,H p=some (.dK a))∨∃a,H p=some (.dT a)))∨(T="set"/\∃S n,H p=some (.set S n))
 |_=>False
theorem v9{q:List (F0×Obj)}{σ:St}{H:Hp}{s:E6}{T:String}{x:V}{v:E1}(I:Inv X q σ H s)(r:aO x v)(ty:tyV X.K T x H):
  s.TypeIs v T/\∀a,v=.ref a->∃m,s.heap.get? a=some m/\m.dict=none:=by
 cases x with
 |str z =>
  obtain⟨t,rfl⟩:=r;cases(show T="str" from ty);exact⟨typeIs_str s z t,λ_ e=>nomatch e⟩
 |int i =>
  obtain⟨t,rfl⟩:=r;cases(show T="int" from ty);exact⟨am9 s i t,λ_ e=>nomatch e⟩
 |ref p =>
  cases r;rcases ty with⟨rfl,B,w⟩|⟨rfl,o,b,u,g⟩|⟨rfl,b⟩|⟨rfl,S,n,b⟩
  ·obtain⟨A,_,l,_⟩:=I.list w;refine⟨l.isList.typeIs,λa e=>?_⟩;cases e;obtain⟨o,n,e,c,g,_⟩:=l;exact⟨o,e,g⟩
  ·refine⟨⟨o,I.kIn p o b,u⟩,λa e=>?_⟩;cases e;exact⟨o,I.kIn _ o b,g⟩
  ·have z:∃o,s.heap.get? p=some o/\o.ExactDict:=by
    rcases b with⟨h,b⟩|⟨h,b⟩
    ·obtain⟨_,_,_,_,o,_,_,e,f,_⟩:=I.hok p _ b;exact⟨o,e,f⟩
    ·obtain⟨_,_,_,_,o,_,_,e,f,_⟩:=I.hok p _ b;exact⟨o,e,f⟩
   obtain⟨o,e,f⟩:=z;refine⟨⟨o,e,f.1⟩,λa j=>?_⟩;cases j;exact⟨o,e,f.2.1⟩
  ·obtain⟨o,_,_,_,e,f,_⟩:=I.hok p _ b;refine⟨⟨o,e,f.1⟩,λa j=>?_⟩;cases j;exact⟨o,e,f.2.1⟩
 |_=>exact S1 ty
def Eg(K:E2)(T:String)(r:V->List V->Hp->VK->Prop)(E:TE):TE:=λb H Q=>E b H λx a=>tyV K T x a/\r x [] a Q
def tBM(K:E2)(T:String)(r:V->List V->Hp->VK->Prop)(E:TE)(t:TA):TE:=λa H Q=>E a H λx b=>tyV K T x b/\t a b λe f=>r x e f Q
variable{o e:K8}{B:List K8}{E:TE}{t:TA}{name:Str}{G g:Pos}{T id:String}{r:V->List V->Hp->VK->Prop}
theorem AX(m:PlainAttrs T)(slot:Slot T name id)(a:typeOf (.builtin id)=ae2 (.type "method_descriptor"))(u:MtR X id r)(n:PE X o E)
  (l:U6 o name X.env (X7 o X.env)=X7 o X.env:=by rfl) (p:(G.endLine==g.line)=true:=by rfl):PE X (.Call (.Attribute o name G) [] [] g) (Eg X.K T r E):=by
 intro i s b H Q I h;refine wpAny_Call_method0_late l p (thn (n i s b H _ I h) λv q ⟨x,j,f,e,ty,z⟩=>?_);obtain⟨w,t⟩:=v9 f e ty;exact⟨T,id,m,slot,a,w,t,Calls.callWith_builtin rfl (PySem.evalArgs_none (u i q b j x [] v [] Q f e .nil z))⟩
theorem vb(O:PlainAttrs T)(slot:Slot T name id)(i:typeOf (.builtin id)=ae2 (.type "method_descriptor"))(J:MtR X id r)(u:PE X o E)(ha:PA X (e::B) t)
  (p:U6 o name X.env (X7 o X.env)=X7 o X.env:=by rfl)
  (w:((U3 g (E9 (e :: B) X.env)).all (λx => !x.1) && (ak1 g (ad1 [] X.env)).all (λx => x.1.isSome)
  &&decide ((e::B).length+([]:List ae8).length+(if([]:List ae8).isEmpty then 0 else 1)<30))=true:=by rfl)
  (P:(G.endLine==g.line)=true:=by rfl) (L:E9 (e::B) X.env=(false,X7 e X.env)::E9 B X.env:=by rfl) (z:(U3 g (E9 B X.env)).any (·.1)=false:=by rfl) :
  PE X (.Call (.Attribute o name G) (e::B) [] g) (tBM X.K T r E t):=by
 intro b s f H Q I h;refine wpAny_Call_method_late p w P rfl (thn (u b s f H _ I h) λv M ⟨x,n,m,l,ty,q1⟩=>?_);obtain⟨Z,U⟩:=v9 m l ty;refine⟨T,id,O,slot,i,Z,U,?_⟩;have j:=ha g b M f n _ m q1;rw[L]at j ⊢;refine Calls.callWith_builtin (by show(false || (U3 g (E9 B X.env)).any (·.1))=false;rw[z]<;>rfl) (Calls.evalArgs_plain ?_);exact thn j λq A a=>a.el λS Y N R C=>J b A f Y x S v q Q N l R C
end
def MtM(X:Cx)(id:String)(r:V->List V->Hp->VK->Prop):Prop :=
 ∀(f:List (F0×Obj)) (s:E6) (b:St) (H:Hp) (x:V) (a:List V) (v:E1) (e:List E1) (Q:VK),Inv X f b H s->aO x v->aA a e->r x a H Q ->
  H0 (K7 X.prog X.w) X.A (aq5 (.builtin id) (v::e)) (EP X f b Q) X.xe s
theorem aA.un{x:V}{xs:List V}{us:List E1}(h:aA (x::xs) us):∃u a,us=u::a/\aO x u/\aA xs a:=by
 cases h with
 |cons r t=>exact⟨_,_,rfl,r,t⟩
theorem aA.one{x:V}{us:List E1}(h:aA [x] us):∃u,us=[u]/\aO x u:=by
 obtain⟨u,a,rfl,r,t⟩:=h.un;cases t;exact⟨u,rfl,r⟩
theorem aA.two{x y:V}{us:List E1}(h:aA [x,y] us):∃u v,us=[u,v]/\aO x u/\aO y v:=by
 obtain⟨u,a,rfl,r,t⟩:=h.un;obtain⟨v,rfl,q⟩:=t.one;exact⟨u,v,rfl,r,q⟩
theorem aA.zero:∀{us:List E1},aA [] us->us=[]
 |_,.nil=>rfl
theorem aA.dropLast{xs:List V}{us:List E1}(h:aA xs us):aA xs.dropLast us.dropLast:=by
 induction h with
 |nil=>exact .nil
 |cons r t ih =>
  cases t with
  |nil=>exact .nil
  |cons q a=>exact .cons r ih
theorem aA.reverse{xs:List V}{us:List E1}(h:aA xs us):aA xs.reverse us.reverse:=by
 induction h with
 |nil=>exact .nil
 |cons r t ih=>rw[ah1,ah1];exact aA.append ih (.cons r .nil)
theorem aA.rep{xs:List V}{us:List E1}(h:aA xs us):∀k:Nat,aA (F3 k xs).flatten (F3 k us).flatten
 |0=>.nil
 |k+1=>by
  rw[P8,P8,X5,X5];exact aA.append h (aA.rep h k)
theorem rN{f:Type}(l:List f):l.eraseIdx (l.length-1)=l.dropLast:=by
 induction l with
 |nil=>rfl
 |cons a r ih =>
  cases r with
  |nil=>rfl
  |cons b r =>
   have e:(a::b::r).length-1=((b::r).length-1)+1:=by
    have h:(a::b::r).length=r.length+2:=rfl;have g:(b::r).length=r.length+1:=rfl
    lia
   rw[e,List.eraseIdx_cons_succ,ih]
   all_goals rfl
theorem ke(b:List E1):∀(k:Nat) (a:List E1),
  ao9 (λh f=>h++f) a.toArray (F3 k b.toArray)=(a++(F3 k b).flatten).toArray
 |0,a=>by simp
 |k+1,a=>by
  have e:a.toArray++b.toArray=(a++b).toArray:=by simp
  have g:(a++b)++(F3 k b).flatten=a++(F3 (k+1) b).flatten:=by
   rw[P8,X5,ad4]
  rw[<-g,<-ke b k (a++b),<-e,P8,List.foldl_cons]
section
variable{X:Cx}{g:List (F0×Obj)}{σ:St}{H:Hp}{s:E6}{l b:F0}{xs y B:List V}
theorem Inv.lset{a its':List E1}{n:Nat}{f:Array E1->Array E1}{t':Nat}(I:Inv X g σ H s)(m:H l=some (.lst xs))
  (e:s.heap.get? l=some { cls:=.type "list",data:=.seq a.toArray n }) (j:f a.toArray=its'.toArray) (b:aA y its') (h:y.length<=F2) :
  Inv X g σ (upd H l (.lst y)) { s with heap:=s.heap.update l (ah0 f),toks:=t' }:=by
 have q:=PySem.IsL.update e f;rw[j]at q;refine I.write (x:=l) (e:=l) (by rw[m];exact trivial) (.inl rfl) (λp u o i=>(K5 s.heap (ah0 f) (T7 o)).trans i) ⟨_,q⟩ ?_;exact⟨h,its',_,b,q⟩
theorem Inv.lnew{a:List E1}{t':Nat}(I:Inv X g σ H s)(b:aA y a)(e:y.length<=F2):
  Inv X g σ (upd H s.heap.objs.size (.lst y)) { s with heap:=s.heap.push { cls:=.type "list",data:=.seq a.toArray },toks:=t' } :=
 I.laid (λ_ _ q=>u8 _ q) (F5 _) ⟨e,a,0,b,F9 _ rfl⟩
theorem Inv.fresh(I:Inv X g σ H s):H s.heap.objs.size=none:=I.hok.fresh (F5 _)
theorem Inv.lstM(I:Inv X g σ H s)(b:H l=some (.lst xs)):xs.length<=F2/\∃(a:List E1) (n:Nat),aA xs a/\xs.length=a.length/\s.heap.get? l=some { cls:=.type "list",data:=.seq a.toArray n }:=by
 obtain⟨z,a,n,r,e⟩:=I.hok l _ b;exact⟨z,a,n,r,r.length,e⟩
theorem pR{n:Nat}(h:n<=F2):ab1 n=false:=by
 unfold ab1;exact decide_eq_false (by lia)
end
section
variable{X:Cx}
def sR:V->List V->Hp->VK->Prop:=λx b H Q=>∃l a y,x=.ref l/\b=[y]/\H l=some (.lst a)/\a.length<F2/\Q .non (upd H l (.lst (a++[y])))
theorem uf:MtM X "list.append" sR:=by
 intro g s j H x p v us Q I rx rv h;obtain⟨l,o,y,rfl,rfl,b,m,q⟩:=h;cases rx;obtain⟨u,rfl,f⟩:=rv.one;obtain⟨z,a,n,r,i,e⟩:=I.lstM b;refine af5 F.slot_list_append ⟨_,e,rfl⟩ F.entry_list_append (F.args_list_append_2 _ _) (PySem.list_append l a.toArray n u (by rw[E8];lia)) ⟨e,?_⟩;refine⟨.non,_,I.lset (its':=a++[u]) b e (by simp) (r.append (.cons f .nil)) ?_,rfl,q⟩;rw[E7,Q9]
 lia
def sy:V->List V->Hp->VK->Prop:=λx f H Q=>∃l b a e,x=.ref l/\f=[.ref b]/\H l=some (.lst a)/\H b=some (.lst e)/\a.length+e.length<=F2/\Q .non (upd H l (.lst (a++e)))
theorem uH:MtM X "list.extend" sy:=by
 intro B s E H x M v us Q I rx rv h;obtain⟨l,b,L,G,rfl,rfl,j,o,J,q⟩:=h;cases rx;obtain⟨u,rfl,w⟩:=rv.one;cases w;obtain⟨z,f,n,r,C,e⟩:=I.lstM j;obtain⟨N,a,m,p,t,A⟩:=I.lstM o;have i:f.toArray.size+a.toArray.size<=F2:=by rw[E8,E8];lia
 have g:¬ (!f.toArray.isEmpty&&ab1 (f.toArray.size+a.toArray.size))=true:=by
  rw[pR i,ae3];exact O7
 refine af5 F.slot_list_extend ⟨_,e,rfl⟩ F.entry_list_extend (F.args_list_extend_2 _ _)
  (AutoSeq1.list_extend_list_list_0 l f.toArray n b a.toArray m g (by rw[E8];lia) (by lia)) ⟨e,A,?_⟩
 refine⟨.non,_,I.lset (its':=f++a) j e (by simp) (r.append p) ?_,rfl,q⟩;rw[E7]
 lia
def CO:V->List V->Hp->VK->Prop:=λx b H Q=>∃l a y,x=.ref l/\b=[]/\H l=some (.lst a)/\a[a.length-1]?=some y/\Q y (upd H l (.lst a.dropLast))
theorem Ao:MtM X "list.pop" CO:=by
 intro p s t H x A v us Q I rx rv h;obtain⟨l,w,y,rfl,rfl,g,j,q⟩:=h;cases rx;have f:=rv.zero;subst f;obtain⟨z,a,n,r,m,e⟩:=I.lstM g;obtain⟨u,i,o⟩:=r.get j;have b:a.toArray[a.toArray.size-1]?=some u:=by
  show a.toArray[a.length-1]?=some u;rw[<-Array.getElem?_toList,<-m];exact i
 refine af5 F.slot_list_pop ⟨_,e,rfl⟩ F.entry_list_pop (F.args_list_pop_1 _) (MeetsSeq.list_pop_last l a.toArray n u b (by rw[E8];lia)) ⟨e,?_⟩;refine⟨y,_,I.lset (its':=a.dropLast) g e ?_ r.dropLast ?_,o,q⟩
 ·show a.toArray.eraseIdxIfInBounds (a.toArray.size-1)=a.dropLast.toArray;rw[E8,List.eraseIdxIfInBounds_toArray,rN]
 ·rw[List.length_dropLast]
  lia
def D0:R2:=λx y H Q=>∃l b a e,x=.ref l/\y=.ref b/\H l=some (.lst a)/\H b=some (.lst e)/\a.length+e.length<=F2/\∀p,H p=none->Q (.ref p) (upd H p (.lst (a++e)))
theorem AQ:OpR X (W3 .Add) D0:=by
 intro w s B H x y v u Q I rx ry h;obtain⟨l,b,G,C,rfl,rfl,i,j,E,q⟩:=h;cases rx;cases ry;obtain⟨z,f,n,r,A,e⟩:=I.lstM i;obtain⟨J,a,t,m,o,p⟩:=I.lstM j;refine PySem.P.add_list e p ?_ (by rw[E8,E8];lia);have g:f.toArray++a.toArray=(f++a).toArray:=by simp
 rw[g];exact⟨.ref _,_,I.lnew (t':=s.toks) (r.append m) (by rw[E7];lia),rfl,q _ I.fresh⟩
def D8:R2:=λx y H Q=>∃l k a,x=.ref l/\y=.int k/\H l=some (.lst a)/\-(2 ^ 63)<=k/\k<2 ^ 63/\a.length*k.toNat<=F2 /\
 ∀p,H p=none->Q (.ref p) (upd H p (.lst (F3 k.toNat a).flatten))
theorem oS{a:Type}(xs:List a)(k:Nat):(F3 k xs).flatten.length=k*xs.length:=by
 induction k with
 |zero=>simp
 |succ k ih=>rw[P8,X5,E7,ih,Nat.succ_mul,Nat.add_comm]
theorem u9:OpR X (W3 .Mult) D8:=by
 intro M s N H x y v u Q I rx ry h;obtain⟨l,k,O,rfl,rfl,C,J,G,w,q⟩:=h;cases rx;obtain⟨t,rfl⟩:=ry;obtain⟨z,b,n,r,A,e⟩:=I.lstM C;have E:b.toArray.size*k.toNat<=F2:=by rw[E8,<-A];exact w
 have i:¬ b.toArray.size*k.toNat > (2 ^ 63-1) / 8:=by
  have:(F2:Nat)<=(2 ^ 63-1) / 8:=by decide
  lia
 have j:¬ (!Builtin.List.listFitsIndex k)=true:=by
  rw[fitsIndex_both J G];exact O7
 have f:¬ ab1 (b.toArray.size*k.toNat)=true:=by
  rw[pR E];exact O7
 have g:ao9 (λo p=>o++p) #[] (F3 (if b.toArray.isEmpty=true then 0 else k.toNat) b.toArray)=(F3 k.toNat b).flatten.toArray:=by
  have B:∀m:Nat,ao9 (λo p=>o++p) #[] (F3 m b.toArray)=(F3 m b).flatten.toArray:=λm=>by
   have:=ke b m [];rw[L6]at this;exact this
  rw[B];cases b with
  |nil=>simp
  |cons a P=>rw[if_neg (by simp)]
 refine wpAny_binaryOp_repeat_ref (T:="list") (U:="int") (by decide) ⟨_,e,rfl⟩ (λL=>am9 L k t) noFill_list_mul F.fills_int_mul ai8 repeat_list F.slot_int_index.lookup
  (af5 ai8 (am9 s k t) F.entry_int_rmul (F.args_int_rmul_2 _ _) (int___rmul___int_list k t l b.toArray n)
   ⟨e,rfl,⟨_,e,rfl⟩,af5 F.slot_list_mul ⟨_,e,rfl⟩ F.entry_list_mul (F.args_list_mul_2 _ _) (AutoListH.list___mul___list_int_3 l b.toArray n k t j i f) ⟨e,?_⟩⟩)
 rw[g];exact⟨.ref _,_,I.lnew (t':=s.toks) (r.rep k.toNat) (by rw[oS,Nat.mul_comm];exact w),rfl,q _ I.fresh⟩
end
end L2
namespace Att
open PySem PySem.W PySem.Calls PyProof.Rows
theorem kJ{P:Params}{h:J6}:∀(ns:List Int) (e:List E1),WellAll P h e (ns.map WData.int)->aq1 e ns:=by
 intro ns
 induction ns with
 |nil =>
  intro e w;rw[ak2]at w;cases w;exact .nil
 |cons n ns ih =>
  intro e w;rw[J1]at w;cases w with
  |cons a b =>
   cases a;exact .cons _ _ (ih _ b)
theorem ug{l:OpenLaw}{n:Nat}(x:l.most=some n){P:Params}{h:J6}{args:List WData}{e:List E1}
  (b:l.row.toRowW.claim.pre args=true) (m:WellAll P h e args) :
  ∃a p ns,e=[J0 a]/\args=[WData.list (ns.map WData.int)]/\h.get? a=some { cls:=.type "list",data:=.seq p.toArray }/\aq1 p ns/\ns.length<=n:=by
 have j:WShape.hasAll [] args [.list .int]=true:=(pre_splitW b).1;have o:l.pre.holds [] { args:=args }=true:=(pre_splitW b).2;obtain⟨d,r,rfl,C,B⟩:=hasAllW_cons j;obtain rfl:=hasAllW_nil B;obtain⟨E,rfl,t⟩:=hasW_list C;obtain⟨ns,rfl⟩:=items_int t;have z:ns.length<=n:=by
  unfold OpenLaw.pre at o;have g:(WTm.not (.lt (.lit (.int (n:Int))) (.len (.arg 0)))).holds [] { args:=[.list (ns.map .int)] }=true:=by
   have g:=(holds_andW o).1;rw[x]at g;exact g
  have i:=condW_of g (w_not (w_lt w_lit (w_len_list (w_arg rfl))));rw[E3]at i;refine Nat.le_of_not_lt λq=>?_;have u:(n:Int)<((ns.length:Nat):Int):=by lia
  first
   |(rw[decide_eq_true u]at i;exact absurd i (by decide))
   |(simp at i;lia)
 cases m with
 |cons w A =>
  cases A;cases w with
  |list s f=>exact⟨_,_,ns,rfl,rfl,s,kJ ns _ f,z⟩
theorem uE(l:OpenLaw)(args:List WData):l.row.toRowW.claim.post args (.bool true) args=true :=
 postW_of (r:=l.row.toRowW) (X:=(true==true))
  (show WShape.has [] (.bool true) .bool=true by first|rfl|decide|simp[WShape.has,WShape.arms,WShape.armsAll])
  (show(WTm.eq .res (.lit (.bool true))).value [] { args:=args,res:=some (.bool true),after:=args }=some (.bool (true==true))from w_eq_bool (w_res rfl) w_lit) rfl
theorem attach_call{l:OpenLaw}{n:Nat}{q:K3}{e:List Str}{E:(Str->Option E1)->J6->Prop}{H:Q5->J6->Prop}{d:DefRec}
  (Q:l.most=some n) (z:d.params.defaults=[])
  (aq5:∀ (w:Q5) (g b:E6) (t x:Str → Option E1) (s:F0) (o:Obj) (C cd i:E1) (a:F0) (j:List E1) (ns:List Int),
   Ground q e [] E w g t x b.heap->H w b.heap ->
   b.heap.get? s=some o->o.data=.func (docDef d.name d.params d.body d.scope C cd i)->b.heap.CodeRec cd d.name->t d.name=some (.ref s) ->
   b.heap.get? a=some { cls:=.type "list",data:=.seq j.toArray }->aq1 j ns->ns.length<=n->b.gens=#[] ->
   ai0 (K7 l.prog w) an3 (.call (.ref s) ⟨[.ref a],[]⟩) (λr s'=>r=.ok (.ret (.bool true))/\OldK b.heap s'.heap/\s'.os=b.os/\ah9 s'.gens) b) :
  WalkO q e E H l.row.toRowW d [] (λf j=>PySem.call f j):=by
 intro w g b t x G Y s o C cd i N kV T Z u J B S I M as m L X A U;obtain rfl:N=.none:=Dflts.none J z;obtain rfl:kV=.none:=Dflts.noKw J;obtain⟨a,j,ns,rfl,rfl,p,h,cG⟩:=ug Q m A;refine enter_call (af4 (aq5 w g b t x s o C cd i a j ns G Y T (fd_plain Z) u B p h cG S) λr s' R=>?_);obtain⟨rfl,h2,O,h4⟩:=R;exact⟨.inl ⟨.bool true,.bool true,[],rfl,λ_=>rfl,.bool true,uE l _,λ_=>⟨List.Pairwise.nil,λ_ P=>(nomatch P)⟩⟩,h2,O,h4⟩
section
variable{prog:K3}{w:Q5}{A:M9}{E:E1->E6->Prop}{s:E6}{K:Frag}
end
end Att
namespace L2
open PySem PySem.Spec PyProof.Rows
theorem nI:∀{a:List E1}{ns:List Int},aq1 a ns->aA (ns.map V.int) a
 |_,_,.nil=>.nil
 |_,_,.cons n t h=>.cons ⟨t,rfl⟩ (nI h)
def yC(H:Hp):Prop:=∀b,H b=none∨∃o a,H b=some (.frz o (.lst a))
theorem xt{P:K3}{w:Q5}{K:E2}{J R:Str->Option E1}{CX:CXT}{k:Nat}{U a:F0}{fd:J7}{x:Str}{sp:Sp}{f:E6}{t:List E1}{ns:List Int}
  (KX:K.In f.heap) (I:f.heap.Ns J3 J) (i:f.heap.Ns builtinsNs R) (Z:∀x:Str,x≠"__name__"->R x=W0 x) (L:f.heap.NoLimit) (hg:f.gens=#[])
  (ha:f.heap.get? a=some { cls:=.type "list",data:=.seq t.toArray }) (hi:aq1 t ns) (hl:ns.length<=F2) (hr:cc k an3)
  (F:∀base:J6,K.In base->base.Ns J3 J->aU P w K J base CX k U fd [x] sp) (p:∀(s:E6) (u:E1),ao7 s fd ⟨[u],[]⟩ [(x,u)])
  (Q:∀H:Hp,yC H->SqL K H a (ns.map V.int)->sp [.ref a] H (λv _=>v=.bl true) λ_ _ _=>False)
  (S:∀H e s',CX [] H f (λ_ _ _=>False) e s'->False) :
  ai0 (K7 P w) an3 (.call (.ref U) ⟨[.ref a],[]⟩) (λr s'=>r=.ok (.ret (.bool true))/\OldK f.heap s'.heap/\s'.os=f.os/\ah9 s'.gens) f:=by
 have rv:=nI hi;have N:=hi.length
 -- from an abstract heap in which nothing but the script may be tracked
 have l:∀H:Hp,yC H->SqL K H a (ns.map V.int)->HOk P w H f.heap->(∀b,H b≠none->b=a)->(H a≠none->K.lookup a=none) ->
   ai0 (K7 P w) an3 (.call (.ref U) ⟨[.ref a],[]⟩) (λr s'=>r=.ok (.ret (.bool true))/\OldK f.heap s'.heap/\s'.os=f.os/\ah9 s'.gens) f:=by
  intro H hO hS B hA hK;have g:∀{b:F0} {o:Obj},f.heap.get? b=some o->H b=none->(oC f.heap H).get? b=some o:=λe n=>wL e n;have Y:∀{b:F0} {o:Obj} {M:Array am3} {C:Nat},f.heap.get? b=some o->o.data=.dict M C->H b=none:=λ{b o M C} e d=>by
   cases q:H b with
   |none=>rfl
   |some u =>
    have T:b=a:=hA b (by rw[q];simp);subst T;rw[ha]at e;cases e;have d':al5 t.toArray _=ak8 M C:=d;cases d'
  have j:∀{b:F0} {m:Str->Option E1},f.heap.Ns b m->(oC f.heap H).Ns b m:=λ{b m} ⟨o,M,C,e,d,r⟩=>⟨o,M,C,g e (Y e d),d,r⟩;have O:K.In (oC f.heap H):=λb o e=>g (KX b o e) (by
   cases q:H b with
   |none=>rfl
   |some u =>
    have T:b=a:=hA b (by rw[q];simp);subst T;rw[hK (by rw[q];simp)]at e;cases e)
  have hM:Mod K J (oC f.heap H):=⟨O,j I,⟨R,j i,Z⟩,let⟨mc,h1,h2⟩:=L;⟨mc,j h1,h2⟩⟩;have e0:mO P w K J (oC f.heap H) an3 [] f H:=⟨rfl,hM,λb o e=>yN e,Nat.le_of_eq (uc _ _),trivial,λb i=>absurd (show b∈([]:List F0)from i) (by simp),B,.of_eq hg⟩;refine af4 ((F _ O (j I)).run an3 [] f H ⟨[.ref a],[]⟩ [.ref a] [.ref a] _ _ hr e0 (p f (.ref a)) (.cons rfl .nil) (Q H hO hS)) λr s' h=>?_;cases r with
  |error e=>exact(S H e s' h).elim
  |ok fl =>
   cases fl with
   |next=>exact S1 h
   |brk=>exact S1 h
   |cont=>exact S1 h
   |ret u =>
    obtain⟨v,H',os,G,un,A,r',q⟩:=h;have q':v=.bl true:=q;subst q';obtain rfl:u=ag9 true:=r';refine⟨rfl,OldK.of_keep λb o e=>?_,os,G⟩;cases q:H b with
    |none=>exact un.keep b o e q (by intro z;exact absurd (show b∈([]:List F0)from z) (by simp)) (by simp)
    |some u =>
     rcases hO b with z|⟨ob,xs,z⟩
     ·rw[q]at z;cases z
     ·have z2:=un.frzs b ob _ z;obtain⟨e1,_⟩:=B b _ z;obtain⟨e2,_⟩:=A b _ z2;rw[e]at e1;cases e1;exact e2
 cases X:K.lookup a with
 |some o =>
  -- the script is one of the module's own objects
  have e:=KX a o X;rw[ha]at e;cases e;refine l (λ_=>none) (λ_=>.inl rfl) (.inr ⟨_,t.toArray,_,X,rfl,rfl,rfl,by rw[E8,N];exact hl,by simpa using rv⟩) (λb u z=>by have E:(none:Option HO)=some u:=z;cases E) (λb z=>absurd rfl z) λz=>absurd rfl z
 |none =>
  refine l (λb=>if b=a then some (.frz { cls:=.type "list",data:=.seq t.toArray } (.lst (ns.map V.int)))else none) (λb=>?_) (.inl (.inr ⟨{ cls:=.type "list",data:=.seq t.toArray },if_pos rfl⟩)) (λb u z=>?_) (λb z=>?_) λ_=>X
  ·by_cases i:b=a
   ·exact .inr ⟨_,_,if_pos i⟩
   ·exact .inl (if_neg i)
  ·by_cases i:b=a
   ·have E:=(if_pos i).symm.trans z;cases E;subst i;exact⟨ha,by rw[E3];exact hl,t,_,rv,ha⟩
   ·have E:=(if_neg i).symm.trans z;cases E
  ·by_cases i:b=a
   ·exact i
   ·exact absurd (if_neg i) z
theorem rY{l:PySem.W.OpenLaw}{n k:Nat}{q:K3}{b:List Str}{P:(Str->Option E1)->J6->Prop}{I:Q5->J6->Prop}{d:DefRec}{K:Params->E2}{CX:Q5->CXT}{sp:Q5->Sp}{x:Str}
  (R:l.most=some n) (B:n<=F2) (A:d.params.defaults=[]) (hr:cc k an3)
  (Q:∀(w:Q5) (h:J6),I w h->(K w.params).In h)
  (F:∀ (w:Q5) (i:Str → Option E1) (p:F0) (h:J6),(K w.params).In h → h.Ns J3 i → i d.name = some (.ref p) →
   ∃z:J7,(∀(s:E6) (u:E1),ao7 s z ⟨[u],[]⟩ [(x,u)]) /\
    ∀base:J6,(K w.params).In base->base.Ns J3 i->aU l.prog w (K w.params) i base (CX w) k p z [x] (sp w))
  (t:∀(w:Q5) (H:Hp) (a:F0) (ns:List Int),ns.length<=n->yC H->SqL (K w.params) H a (ns.map V.int)->sp w [.ref a] H (λv _=>v=.bl true) λ_ _ _=>False)
  (C:∀(w:Q5) (H:Hp) (s:E6) (e:E1) (s':E6),CX w [] H s (λ_ _ _=>False) e s'->False) :
  PySem.W.WalkO q b P I l.row.toRowW d [] (λf M=>PySem.call f M):=by
 refine Att.attach_call R A λw J j i mb p o pm cd T a M ns G Y ho hd O E m g L U=>?_;have N:=Q w _ Y;obtain⟨z,hb,S⟩:=F w i p _ N G.T.g E;exact xt N G.T.g G.T.b G.T.builtins G.T.nolimit U m g (Q8 L B) hr S hb (λH Z X=>t w H a ns L Z X) λH e s'=>C w H j e s'
end L2
/- THE LAST THEOREM (shape; LID,My.* are yours):
   My.Adr: a structure of the addresses that your layer names (classes,functions);My.Txt K t: a structure (Prop) of the equations over K;
   My.txt_mk:{K} {implicit addresses ..} (e1:nsIn K J3 "law"=some (some (.ref f))) (e2:K.lookup f=some ⟨oc,od,.func (fnOf "law" "law" params body scope dV kV doc pm an cdv ct),sl⟩) (e3:codeIn K cdv "law"=true) ..:∃t,My.Txt K t
set_option maxRecDepth 100000 in
set_option maxHeartbeats 0 in
theorem PySem.Challenge.cw_LID_holds : PySem.Challenge.rw_LID.Holds := by
 w_on;o_law;k_head;(case hw=>w_witness2)
 k_fill
 refine L2.rY (l:=PySem.Challenge.rw_LID) (n:=63) (k:=40) (x:="script") (CX:=λw=>..) (sp:=λ_=>My.sp_law) rfl (by decide) rfl ⟨rfl,by decide,by decide⟩ (λw h Y=>PySem.W.kIn_of Y) ?F ?S ?C
 case F =>
  intro w q o h j G i;have T:∃t,My.Txt (L2.KOf j) t:=by
   dsimp only[L2.KOf]                          -- K must stand as «<heap const> w.params» for k_is
   refine' My.txt_mk ?e1 ?e2 ?e3 ..
   (case e1=>PySem.W.k_is)                    -- in the order: a name->its address->its object->its parts
   (case e2=>PySem.W.k_is)
   ..
  obtain⟨t,T⟩:=T;have m:=i.symm.trans (P3 j G T.law);cases m                                       -- o is the law's own address;exact⟨_,λs u=>.of_eq rfl,λe g f=>My.law_fn T g f⟩     -- if «.of_eq rfl» comes too early: refine' ⟨_,?b,λe g f=>My.law_fn T g f⟩;exact λs u=>.of_eq rfl
 case S=>exact λw H a A p z B=>..
 case C=>exact ..
(the tactic k_is has no namespace: write k_is) -/
namespace L2
open PySem PySem.Spec PyProof.Rows
def fj(s:W8):Arguments:=match s with
 |.FunctionDef _ a _ _ _ _ _ _ _ _=>a
 |_=>{ posonlyargs:=[],args:=[],vararg:=none,kwonlyargs:=[],kw_defaults:=[],kwarg:=none,defaults:=[] }
def cD(s:W8):List W8:=match s with
 |.FunctionDef _ _ b _ _ _ _ _ _ _=>b
 |_=>[]
def ak(s:W8):ac4:=match s with
 |.FunctionDef _ _ _ _ _ _ a _ _ _=>a
 |_=>{ kind:=.function,names:=[],isGenerator:=false,isCoroutine:=false }
abbrev CX0:CXT:=λ_ _ _ _ _ _=>False
abbrev E0:XK:=λ_ _ _=>False
theorem Dt{X:Cx}:jT CX0 X E0:=λ_ _ _ _ _ _ _ h=>h.elim
structure Fun(K:E2) (x qual:Str) (st:W8) (f:F0) (fd:J7):Prop where
 ex:∃(oc:E1) (od:Option F0) (kV doc pm:E1) (an:Option F0) (cdv ct:E1) (osl:Array (Option E1)),
  fd=Z8 x qual (fj st) (cD st) (ak st) .none kV doc pm an cdv ct/\K.lookup f=some ⟨oc,od,.func fd,osl⟩/\ah3 K cdv qual=true
 kp:T8 K (.ref f)=true
section
variable{P:K3}{w:Q5}{K:E2}{y:Str->Option E1}{base:J6}{f:F0}{g:J7}
theorem Fun.ok{x b:Str}{st:W8}{f:F0}{g:J7}{N ps:List Str}{k:Nat}{sp:Sp}(F:Fun K x b st f g)(S:ay N ps (ak st))(len:∀j H Q E,sp j H Q E->j.length=ps.length)
  (i:∀ (e:E1) (A:M9) (a:List Env) (s:E6) (H:Hp) (j:List V) (Q:VK) (E:XK),cc k (A.deeper (ab4 b (ak st) s.heap.objs.size f e)) → sp j H Q E →
   ∃t,PSs (jq CX0 P w K y base N b (ak st) f e A a s H E).nox (cD st) t/\t { nx:=λ_ z=>Q .non z,rt:=Q } (gz N j) H):aU P w K y base CX0 (k+1) f g ps sp:=by
 obtain⟨C,I,kV,o,J,G,e,B,u,rfl,p,m⟩:=F.ex;refine Aa p m S len λA a s H j Q E n l=>?_;obtain⟨t,h,q⟩:=i e A a s H j Q E n l;exact⟨t,h.nox,q⟩
theorem Fun.binds{x a:Str}{st:W8}{f:F0}{g:J7}{ps:List Str}(F:Fun K x a st f g)
  (h:∀(kV e j:E1) (i:Option F0) (b ct:E1) (us:List E1),us.length=ps.length->bindArgs (Z8 x a (fj st) (cD st) (ak st) .none kV e j i b ct) ⟨us,[]⟩=ae2 (ps.zip us)):cQ K g ps []:=by
 obtain⟨p,o,kV,e,j,i,b,ct,m,rfl,n,l⟩:=F.ex;exact .all (h kV e j i b ct)
theorem qQ{x a:Str}{st:W8}{f:F0}{j:E1}{m h:Option F0}{g:Array (Option E1)}{kV e i b ct:E1}(l:K.lookup f=some ⟨j,m,.func (Z8 x a (fj st) (cD st) (ak st) .none kV e i h b ct),g⟩)
  (c:ah3 K b a=true) (k:T8 K (.ref f)=true):Fun K x a st f (Z8 x a (fj st) (cD st) (ak st) .none kV e i h b ct):=⟨⟨j,m,kV,e,i,h,b,ct,g,rfl,l,c⟩,k⟩
end
theorem jQ{n:Nat}(h:n<=1000):n<F2:=Nat.lt_of_le_of_lt h (by decide)
section
variable{X:Cx}
theorem pv(i:Nat){x:Str}{pos:Pos}(e:X.N[i]?=some x:=by rfl)(b:Vis X.env.scope x:=by first|exact L7 rfl|exact ai9 (L7 rfl)|exact ai9 (ai9 rfl))(f:(x==("__debug__":Str))=false:=by decide)
  (a:(x==("__classdict__":Str))=false:=by decide):PE X (.Name x pos) (ue i):=wF e b f a
end
theorem aT{c A B:Prop}[Decidable c](a:c->A)(b:¬ c->B):if c then A else B:=by
 by_cases h:c
 ·rw[if_pos h];exact a h
 ·rw[if_neg h];exact b h
section
variable{κ:Type} [DecidableEq κ]
noncomputable def pX(a:List (κ×V))(k:κ):Option V:=(a.find? λb=>decide (b.1=k)).map (·.2)
noncomputable def yy(a:List (κ×V))(k:κ)(v:V):List (κ×V) :=
 if(a.any λb=>decide (b.1=k))=true then a.map (λb=>if b.1=k then(b.1,v)else b)else a++[(k,v)]
def EG(a:List (κ×V))(k:κ):List (κ×V):=a.filter λb=>decide (b.1≠k)
theorem pM{p:κ×V}{r:List (κ×V)}{k:κ}(e:p.1=k):pX (p::r) k=some p.2:=by simp[pX,Z0,e]
theorem pP{p:κ×V}{r:List (κ×V)}{k:κ}(e:¬ p.1=k):pX (p::r) k=pX r k:=by simp[pX,Z0,e]
theorem xH.getD{o:Option V}{u:Option E1}{d:V}{d':E1}(r:xH o u)(rd:aO d d'):aO (o.getD d) (u.getD d'):=by
 cases o with
 |none=>cases u with
  |none=>exact rd
  |some _=>exact(show False from r).elim
 |some _=>cases u with
  |none=>exact(show False from r).elim
  |some _=>exact r
theorem KV.val{a:List (κ×V)}{i:List (κ×E1)}(r:KV a i)(k:κ):xH (pX a k) (aq2 i k):=by
 unfold KV at r
 induction r with
 |nil=>exact True.intro
 |@cons p q m f h t ih =>
  obtain⟨j,l⟩:=h
  by_cases e:p.1=k
  ·have g:q.1=k:=j.symm.trans e;have b:aq2 (q::f) k=some q.2:=by simp[aq2,Z0,g]
   rw[pM e,b];exact l
  ·have g:¬ q.1=k:=λz=>e (j.trans z);have b:aq2 (q::f) k=aq2 f k:=by simp[aq2,Z0,g]
   rw[pP e,b];exact ih
theorem KV.any{a:List (κ×V)}{e:List (κ×E1)}(r:KV a e)(k:κ):(a.any λb=>decide (b.1=k))=e.any λb=>decide (b.1=k):=by
 unfold KV at r
 induction r with
 |nil=>rfl
 |cons h t ih=>rw[X0,X0,ih,h.1]
theorem KV.repl{b:List (κ×V)}{g:List (κ×E1)}(r:KV b g)(k:κ){y:V}{u:E1}(i:aO y u):
  KV (b.map λa=>if a.1=k then(a.1,y)else a) (g.map λa=>if a.1=k then(a.1,u)else a):=by
 unfold KV at r ⊢
 induction r with
 |nil=>exact .nil
 |@cons p q l m h t ih =>
  rw[J1,J1];refine .cons ?_ ih;obtain⟨f,j⟩:=h
  by_cases e:p.1=k
  ·rw[if_pos e,if_pos (f.symm.trans e)];exact⟨f,i⟩
  ·rw[if_neg e,if_neg (λz=>e (f.trans z))];exact⟨f,j⟩
theorem KV.put{a:List (κ×V)}{b:List (κ×E1)}(r:KV a b)(k:κ){y:V}{u:E1}(f:aO y u):KV (yy a k y) (stored b k u):=by
 unfold yy stored;rw[r.any k]
 by_cases e:(b.any λg=>decide (g.1=k))=true
 ·rw[if_pos e,if_pos e];exact r.repl k f
 ·rw[if_neg e,if_neg e];exact ac0.snoc r ⟨rfl,f⟩
theorem KV.length{a:List (κ×V)}{b:List (κ×E1)}(r:KV a b):a.length=b.length:=ac0.length r
end
theorem vo{P:K3}{w:Q5}{H:Hp}(h:J6)(a:ao6<h.objs.size):bP P w H (h.push { cls:=.type "dict",data:=.dict #[] }) h.objs.size (.dK []) :=
 ⟨P9 _,beq_eq_false_iff_ne.mpr (T7 (K4 a)),[],.nil,J6.DictOf.new h⟩
structure M1(X:Cx) (o:K8) (m:Str) (eh:Pos) (e:K8) (bq:Pos):Prop where
 base:U6 o m X.env (X7 o X.env)=X7 o X.env
 few:((U3 bq (E9 [e] X.env)).all (λx=>!x.1)&&(ak1 bq (ad1 [] X.env)).all (λx=>x.1.isSome)
 &&decide (([e]:List K8).length+([]:List ae8).length+(if([]:List ae8).isEmpty then 0 else 1)<30))=true
 line:(eh.endLine==bq.line)=true
 trees:U3 bq (E9 [e] X.env)=[(false,X7 e X.env)]
structure M2(X:Cx) (o:K8) (m:Str) (eh:Pos) (e f:K8) (bq:Pos):Prop where
 base:U6 o m X.env (X7 o X.env)=X7 o X.env
 few:((U3 bq (E9 [e,f] X.env)).all (λx=>!x.1)&&(ak1 bq (ad1 [] X.env)).all (λx=>x.1.isSome)
 &&decide (([e,f]:List K8).length+([]:List ae8).length+(if([]:List ae8).isEmpty then 0 else 1)<30))=true
 line:(eh.endLine==bq.line)=true
 trees:U3 bq (E9 [e,f] X.env)=[(false,X7 e X.env),(false,X7 f X.env)]
noncomputable def aK(X:Cx)(a:ac4)(e:List (Str×F0))(N:List Str)(C:F0)(s:E6)(H:Hp)(b:List F0):Cx where
 prog:=X.prog
 w:=X.w
 K:=X.K
 mg:=X.mg
 base:=X.base
 A:=X.A
 N:=N
 s₀:=s
 H₀:=H
 env:=ap5 a e C X.env
 outer:=X.stack
 stack:=X.stack
 ex:=b
 calm:=X.calm
 fn:=λ_=>false
 pn:=[]
 xe:=λ_ _=>False
noncomputable def bJ:List Bool->St->St
 |true::b,v::a=>v::bJ b a
 |false::b,_::a=>none::bJ b a
 |[],_::a=>none::bJ [] a
 |_,[]=>[]
theorem bL:∀(ms:List Bool) (σ:St),(bJ ms σ).length=σ.length
 |true::ms,v::σ=>by simp[bJ,bL ms σ]
 |false::ms,_::σ=>by simp[bJ,bL ms σ]
 |[],_::σ=>by simp[bJ,bL [] σ]
 |[],[]=>by simp[bJ]
 |true::_,[]=>by simp[bJ]
 |false::_,[]=>by simp[bJ]
theorem iu:∀{ms:List Bool}{σ:St}{i:Nat}{v:V},(bJ ms σ)[i]?=some (some v)->ms[i]?=some true/\σ[i]?=some (some v)
 |true::ms,v::σ,0,x,h=>by simpa[bJ]using h
 |true::ms,v::σ,i+1,x,h=>by
  have:=iu (ms:=ms) (σ:=σ) (i:=i) (v:=x) (by simpa[bJ]using h);simpa using this
 |false::ms,_::σ,0,x,h=>by simp[bJ]at h
 |false::ms,_::σ,i+1,x,h=>by
  have:=iu (ms:=ms) (σ:=σ) (i:=i) (v:=x) (by simpa[bJ]using h);simpa using this
 |[],_::σ,0,x,h=>by simp[bJ]at h
 |[],_::σ,i+1,x,h=>by
  have:=iu (ms:=[]) (σ:=σ) (i:=i) (v:=x) (by simpa[bJ]using h);simpa using this
 |[],[],_,_,h=>by simp[bJ]at h
 |true::_,[],_,_,h=>by simp[bJ]at h
 |false::_,[],_,_,h=>by simp[bJ]at h
def iP(ms:List Bool)(k:Nat)(σ:St):St:=bJ ms σ++F3 k none
theorem uq{ms:List Bool}{k:Nat}{σ:St}{i:Nat}{v:V}(h:(iP ms k σ)[i]?=some (some v)):i<σ.length/\ms[i]?=some true/\σ[i]?=some (some v):=by
 unfold iP at h
 by_cases a:i<(bJ ms σ).length
 ·rw[L9 a]at h;exact⟨by rwa [bL]at a,iu h⟩
 ·rw[V3 (by lia),W9]at h
  split at h<;>cases h
structure fw(X:Cx) (scope:ac4) (cl:List (Str×F0)) (ms:List Bool) (ar:List Str):Prop where
 kind:scope.kind=.function
 ncell:∀y∈scope.names,y.2≠.cell
 names:∀y∈scope.names,y.2=.local->scope.names.lookup y.1=some .local
 clos:closureFor scope X.env=ae2 cl
 sub:∀x c,cl.lookup x=some c->X.env.cells.lookup x=some c
 has:∀x,scope.names.lookup x=some .free->∃c,cl.lookup x=some c
 fr:∀x,scope.names.lookup x=some .free->X.env.scope.names.lookup x=some .cell∨X.env.scope.names.lookup x=some .free
 mask:∀(i:Nat) (x:Str),ms[i]?=some true->X.N[i]?=some x->scope.names.lookup x=some .free
 mlen:ms.length<=X.N.length
theorem jx{env:Env}:∀{names:List (Str×S2)}{x:Str}{k:S2},
  (names.map λ(n,k)=>if(k==V8&&env.scope.kind==.function&&env.kindOf n==some .cell)then(n,ag2)else(n,k)).lookup x=some k->(∀y∈names,y.2≠.cell)->k=.cell∨k=.free->names.lookup x=some .free
 |[],_,_,h,_,_=>by simp at h
 |(n,e)::r,x,k,h,i,g=>by
  have ih:=@jx env r x k;have h:an4 x ((if(e==V8&&env.scope.kind==.function&&env.kindOf n==some .cell)=true then(n,ag2)else(n,e))::_)=some k:=h;cases b:x==n with
  |true =>
   by_cases a:(e==V8&&env.scope.kind==.function&&env.kindOf n==some .cell)=true
   ·have:e=.free:=by
     simp at a;exact a.1.1
    subst this;simp[M0,b]
   ·rw[if_neg a]at h;simp only[M0,b]at h;cases h;rcases g with rfl|rfl
    ·exact absurd rfl (i (n,.cell) R9)
    ·simp[M0,b]
  |false =>
   by_cases a:(e==V8&&env.scope.kind==.function&&env.kindOf n==some .cell)=true
   ·rw[if_pos a]at h;simp only[M0,b]at h ⊢;exact ih h (λy f=>i y (K2 _ f)) g
   ·rw[if_neg a]at h;simp only[M0,b]at h ⊢;exact ih h (λy f=>i y (K2 _ f)) g
theorem jw{env:Env}:∀{names:List (Str×S2)}{x:Str},names.lookup x=some .free ->
  (names.map λ(n,k)=>if(k==V8&&env.scope.kind==.function&&env.kindOf n==some .cell)then(n,ag2)else(n,k)).lookup x=some .cell ∨
  (names.map λ(n,k)=>if(k==V8&&env.scope.kind==.function&&env.kindOf n==some .cell)then(n,ag2)else(n,k)).lookup x=some .free
 |[],_,h=>by simp at h
 |(n,b)::r,x,h=>by
  have ih:=@jw env r x;show an4 x ((if(b==V8&&env.scope.kind==.function&&env.kindOf n==some .cell)=true then(n,ag2)else(n,b))::_)=_∨an4 x ((if(b==V8&&env.scope.kind==.function&&env.kindOf n==some .cell)=true then(n,ag2)else(n,b))::_)=_;cases a:x==n with
  |true =>
   simp only[M0,a]at h;cases h
   split
   ·left;simp[M0,a]
   ·right;simp[M0,a]
  |false =>
   simp only[M0,a]at h
   split<;>(simp only[M0,a];exact ih h)
section
variable{X:Cx}{G:List (F0×Obj)}{σ:St}{H W:Hp}{s B:E6}{g:ac4}{E:List (Str×F0)}{ms:List Bool}{ar:List Str}
theorem vq(I:Inv X G σ H s)(S:fw X g E ms ar){fp:List F0}(a:∀b∈fp,gI X G H b)(j:∀b∈fp,b<s.heap.objs.size){C:F0}(l:s.heap.objs.size<=C):
  (aK X g E (X.N++ar) C s H fp).Ok where
 mod:=I.ok.mod
 kind:=S.kind
 glob:=I.ok.glob
 blt:=I.ok.blt
 above:=l
 inj:=λx y c n m=>I.ok.inj x y c (S.sub x c n) (S.sub y c m)
 has:=λx f=>S.has x (jx (env:=X.env) (k:=if(aK X g E (X.N++ar) C s H fp).env.kindOf x=some .cell then .cell else .free) (by
  rcases f with f|f
  ·rw[if_pos f];exact f
  ·rw[if_neg (by rw[f];decide)];exact f) S.ncell (by split<;>simp))
 cab:=λx c h=>by cases h
 hd:=I.ok.hd
 frames:=I.ok.frames
 stk:=.inl rfl
 exf:=λb i=>⟨K4 (F6 (j b i) l),λx c e=>(a b i).2.2.2.2.1 x c (S.sub x c e)⟩
 bs:=I.bs
 bsz:=Q8 I.ok.bsz I.sz
 noex:=λb o e i=>by
  rcases(a b i).2.2.2.1 with z|z
  ·exact I.ok.noex b o e z
  ·exact absurd (F6 (F8 e) (Q8 I.ok.bsz z)) (W7 _)
 exfs:=λb i z=>by
  rcases I0.mp (I.stkSub b z)with e|e
  ·exact(a b i).2.1 e
  ·exact(a b i).2.2.1 e
 funs:=I.stack
 frf:=I.stkFree
theorem yu(I:Inv X G σ H s)(S:fw X g E ms ar){fp:List F0}(q:∀b∈fp,gI X G H b)(A:∀b∈fp,b<s.heap.objs.size){C:F0}(L:s.heap.objs.size<=C)
  (os:B.os=s.os) (a:ah9 B.gens) (keep:∀b o,s.heap.get? b=some o->B.heap.get? b=some o) {m:Str->Option E1} (U:B.heap.Ns C m) :
  Inv (aK X g E (X.N++ar) C s H fp) [] (iP ms ar.length σ) H B where
 ok:=vq I S q A L
 os:=os
 bare:=a
 base:=Un.kept keep
 loc:=⟨m,U,λi x v Z Y h3=>by
  obtain⟨T,R,O⟩:=uq Y;have w:i<X.N.length:=by rw[<-I.len];exact T
  have J:X.N[i]?=some x:=by
   have j:(X.N++ar)[i]?=some x:=Z
   rwa [L9 w]at j
  have f:=S.mask i x R J;obtain⟨m0,a0,P⟩:=I.loc;obtain⟨u,r,l⟩:=P i x v J O (by rcases S.fr x f with z|z<;>simp[Vis,z]);refine⟨u,r,.inr ⟨?_,?_⟩⟩
  ·exact jw (env:=X.env) f
  ·obtain⟨c,M⟩:=S.has x f;have h:=S.sub x c M;rcases l with⟨k,_⟩|⟨_,c',e,z⟩
   ·rcases S.fr x f with z|z<;>(have N:X.env.scope.names.lookup x=some .local:=k;rw[z]at N;cases N)
   ·rw[h]at e;cases e;obtain⟨o,n,t⟩:=z;exact⟨c,M,o,keep _ _ n,t⟩⟩
 cell:=λx c e=>by
  obtain⟨v,o,n,t⟩:=I.cell x c (S.sub x c e);exact⟨v,o,keep _ _ n,t⟩
 free:=I.hok.fresh L
 freeC:=λx c e=>I.freeC x c (S.sub x c e)
 pin:=λp Q=>absurd (show p∈([]:List (F0×Obj))from Q) (by simp)
 hok:=I.hok.kept keep
 len:=by
  unfold iP;rw[E7,bL,Z7,I.len];show _=(X.N++ar).length;rw[E7]
end
def PIf(X:Cx)(b:List K8)(t:TT):Prop :=
 ∀(e:List (F0×Obj)) (s:E6) (a:St) (H:Hp) (Q:Bool->Hp->Prop),Inv X e a H s->t a H Q ->
  H0 (K7 X.prog X.w) X.A (forIn b true λc r=>if r=true then do let ok <-isTrue c X.env (X7 c X.env);ae2 (U7 ok)else ae2 (U7 r)) (TP X e a Q) X.xe s
def EF:TT:=λ_ H Q=>Q true H
theorem zw{X:Cx}:PIf X [] EF:=λ_ _ _ H _ I h=>wpAny_tests_nil ⟨H,I,h⟩
theorem ym{X:Cx}{c:K8}{t:TT}(h:PT X c t):PIf X [c] t:=λb s a H Q I q=>wpAny_tests_one (h b s a H Q I q)
abbrev fP(a:List E1)(n:Nat):Obj:={ cls:=.type "list",data:=.seq a.toArray n }
theorem thF{b:Type}{t:Sem b}{Q f:b->E6->Prop}{M:ap2}{A:M9}{E:E1->E6->Prop}{s:E6}(i:E=λ_ _=>False)(h:H0 M A t Q E s)(g:∀a s,Q a s->f a s):H0 M A t f (λ_ _=>False) s:=O1 h g λe s x=>by rw[i]at x;exact x
abbrev lcE(el:K8)(a:List ai3)(b:ac4)(ps:Pos):K8:=.ListComp el a b ps
section
variable{prog:K3}{w:Q5}{A:M9}{R:Result->E6->Prop}{s:E6}{el G B i:K8}{fs:List K8}{k:Nat}{p:Pos}{it g:E1}{env:Env}{y:List ai3}{z:ac4}{ps:Pos}
abbrev AWt:=(E6->Prop)->E6->Prop
def tP(prog:K3)(w:Q5)(A:M9)(B:K8)(g:E1)(env:Env):AWt:=λOk s=>H0 (K7 prog w) A (X7 B env) (λx b=>H0 (K7 prog w) A (aq5 (.builtin "list.append") [g,x]) (λ_ a=>Ok a) (λ_ _=>False) b) (λ_ _=>False) s
def vM(prog:K3)(w:Q5)(A:M9)(j:K8)(k:Nat)(i:K8)(g:E1)(env:Env):AWt:=λOk s=>H0 (K7 prog w) A (X7 i env) (λx e=>H0 (K7 prog w) A (ap0 x) (λh b =>
 ai0 (K7 prog w) A (.compStart j k h g env) (λr a=>(∃f,r=.ok f)/\Ok a) b) (λ_ _=>False) e) (λ_ _=>False) s
def yL(a:K8)(k:Nat)(p:Pos)(G:K8)(fs:List K8)(b:E1->E1->Env->Sem Fin):Prop:=∀it g env,compTurn a k it g env=(do
  am1 p
  let r <-ao1 it
  match r with
   |none=>ae2 (Fin.done Flow.next)
   |some v=>do
    ag0 G it v
    aj8 G env v
    let ok <-forIn fs true λc r=>if r=true then do let ok <-PySem.isTrue c env (X7 c env);ae2 (U7 ok)else ae2 (U7 r)
    if ok=true then b it g env else again (ad5 a k it g env))
def zh(prog:K3)(w:Q5)(A:M9)(j:K8)(k:Nat)(h:E1->E1->Env->Sem Fin)(it g:E1)(env:Env)(e:AWt):Prop :=
 ∀Ok s (R:Result->E6->Prop) (E:E1->E6->Prop),e Ok s->H0 (K7 prog w) A (h it g env) (λa b=>match a with|.done f=>R (.ok f) b|.again i=>i=ad5 j k it g env/\Ok b) E s
theorem mS{u:E1->E1->Env->Sem Fin}{t:AWt}(B:yL (lcE el y z ps) k p G fs u)(C:(ad5 (lcE el y z ps) k it g env).quiet=true:=by rfl)(H:zh prog w A (lcE el y z ps) k u it g env t)(I:Nat->E6->Prop)
  (o:∀ n s,I n s → H0 (K7 prog w) A (ao1 it) (λr a => match r with
   |none=>R (.ok .next) a
   | some v => H0 (K7 prog w) A (ag0 G it v) (λ_ a => H0 (K7 prog w) A (aj8 G env v) (λ_ f =>
     H0 (K7 prog w) A (forIn fs true λc r=>if r=true then do let ok <-isTrue c env (X7 c env);ae2 (U7 ok)else ae2 (U7 r)) (λok e =>
      if ok=true then t (λl=>∃m,m<n/\I m l) e
      else ∃m,m<n/\I m e) (λ_ _=>False) f) (λ_ _=>False) a) (λ_ _=>False) a) (λ_ _=>False) s)
  (n:Nat) (h:I n s) :
  ai0 (K7 prog w) A (.compLoop (lcE el y z ps) k it g env) R s:=by
 refine codeAny_loop C I (λn s E=>?_) n h;show H0 _ A ((compTurn (lcE el y z ps) k it g env).onRaise (λx=>do am4 x env;theTreesLotGoes x)) _ _ s;refine wpAny_noted ?_;rw[B];refine o0 (ad3 (o0 (O1 (o n s E) (λr a b=>?_) λ_ _ j=>j.elim)));cases r with
 |none=>exact E5 b
 |some v =>
  refine o0 (O1 b (λ_ J b=>?_) λ_ _ j=>j.elim);refine o0 (O1 b (λ_ f q=>o0 (O1 q (λok e i=>?_) λ_ _ j=>j.elim)) λ_ _ j=>j.elim);cases ok with
  |false=>exact E5 ⟨rfl,i⟩
  |true=>exact H _ _ _ _ i
noncomputable def zZ(a:K8)(k:Nat)(B:K8):E1->E1->Env->Sem Fin:=λit g env=>bind (bind (X7 B env) λx=>bind (aq5 (ag3 "list.append") [g,x]) λ_=>ae2 ()) λ(_:Unit)=>again (ad5 a k it g env)
noncomputable def zY(b:K8)(k:Nat)(i:K8):E1->E1->Env->Sem Fin:=λit g env=>do
 let x <-X7 i env
 am1 i.pos
 let x <-O3 i env x
 let a <-ak4 [x] (ap0 x)
 let _ <-runOwn (aq4.compStart b (k+1) a g env) env
 again (ad5 b k it g env)
theorem yx:zh prog w A (lcE el y z ps) k (zZ (lcE el y z ps) k B) it g env (tP prog w A B g env):=λOk s R E h =>
 o0 (o0 (O1 h (λx f b=>o0 (O1 b (λ_ i a=>E5 (E5 ⟨rfl,a⟩)) λ_ _ e=>e.elim)) λ_ _ e=>e.elim))
theorem zC(o:∀x,O3 i env x=ae2 x):zh prog w A (lcE el y z ps) k (zY (lcE el y z ps) k i) it g env (vM prog w A (lcE el y z ps) (k+1) i g env):=λOk s R E h=>by
 refine o0 (O1 h (λx l e=>o0 (ad3 ?_)) λ_ _ j=>j.elim);rw[o x];refine o0 (E5 (o0 (P2 (O1 e (λp n b=>?_) λ_ _ j=>j.elim))));refine o0 (wpAny_runOwn (af4 b λr m a=>?_));obtain⟨⟨f,rfl⟩,a⟩:=a;exact E5 ⟨rfl,a⟩
def wM(a:K8)(k:Nat)(p:Pos):Prop:=∀it g env,compStart a k it g env=(do
  let r <-ask
  if r.params.followText "comprehension-iter-twice"=true then again (ad5 a k it g env)
   else do
    rule "comprehension.iter-twice"
    am1 p
    let i <-ap0 it
    again (ad5 a k i g env))
theorem lE(f:wM (lcE el y z ps) k p)(h:ai0 (K7 prog w) A (.compLoop (lcE el y z ps) k it g env) R s)
  (e:H0 (K7 prog w) A (ap0 it) (λa s'=>ai0 (K7 prog w) A (.compLoop (lcE el y z ps) k a g env) R s') (λ_ _=>False) s) :
  ai0 (K7 prog w) A (.compStart (lcE el y z ps) k it g env) R s:=by
 refine codeAny_of_tree ?_;show H0 _ A ((compStart (lcE el y z ps) k it g env).onRaise (λx=>do am4 x env;am1 theWindowsPlace)) _ _ s;refine ag4 ?_;rw[f];refine o0 (wpAny_askSetting ?_);dsimp only
 split
 ·exact E5 ⟨rfl,h⟩
 ·exact o0 (ak9 (o0 (ad3 (o0 (O1 e (λa s' b=>E5 ⟨rfl,b⟩) λ_ _ b=>b.elim)))))
end
abbrev BK:=List V->St->Hp->(List V->St->Hp->Prop)->Prop
def kc(J:It)(g:TG)(tc:TT)(B:BK)(W:Nat->Nat->List V->St->Hp->Prop)(Z:List V->St->Hp->Prop):Prop :=
 ∀i m e j H,W i m e j H->e.length<=F2/\((J.stop i H/\Z e j H) ∨
  (J.go i H/\∀x h,J.yld i H x h->g x j h λa p=>tc a p λb o=>if b=true then B e a o (λn l h=>∃f,f<m/\W (i+1) f n l h)else ∃f,f<m/\W (i+1) f e a o))
def mv(te:TE):BK:=λb a H Z=>te a H λy e=>Z (b++[y]) a e
def vn(b:TI)(g:TG)(tc:TT)(B:BK):BK:=λe a H Z=>b a H λJ f=>∃W:Nat->Nat->List V->St->Hp->Prop,(∃m,W 0 m e a f)/\kc J g tc B W Z
section
variable{Y:Cx}{D:F0}{el tg E i1:K8}{fs:List K8}{g:TG}{tc:TT}{te:TE}{wi:TI}{B:BK}{k:Nat}{p:Pos}{G:List ai3}{W:ac4}{ps:Pos}
def Af(Y:Cx)(D:F0)(l:AWt)(B:BK):Prop:=∀(P:List (F0×Obj)) (f:List E1) (j:Nat) (g:List V) (h:St) (H:Hp) (s:E6) (Z:List V->St->Hp->Prop),Inv Y ([(D,fP f j)]++P) h H s->aA g f->g.length<=F2->(∀p∈P,p.1≠D)->B g h H Z ->
 l (λn=>∃e a m b i,Inv Y ([(D,fP a m)]++P) b i n/\aA e a/\Z e b i) s
structure lM(Y:Cx) (D:F0):Prop where
 pn:Y.pn=[]
 calm:Y.calm=true
 xe:Y.xe=λ_ _=>False
 ex:D∈Y.ex∨Y.s₀.heap.objs.size<=D
 cell:∀x c,Y.env.cells.lookup x=some c->c≠D
theorem AWt.mono_leaf{prog:K3}{w:Q5}{A:M9}{a:E1}{env:Env}{Ok b:E6->Prop}{s:E6}(h:tP prog w A E a env Ok s)(k:∀s,Ok s->b s):tP prog w A E a env b s :=
 O1 h (λ_ _ f=>O1 f (λ_ _ e=>k _ e) λ_ _ x=>x) λ_ _ x=>x
theorem wz(c:lM Y D)(he:PE Y E te):Af Y D (tP Y.prog Y.w Y.A E (.ref D) Y.env) (mv te):=by
 intro P f w J t H s Z I B R u q;refine thF c.xe (he _ s t H _ I q) λv x j=>j.el λy C m T U=>?_;have a:=m.pin (D,fP f w) (K9 _ (N7 _ R9));have n:f.toArray.size<=F2:=by rw[E8,<-B.length];exact R
 refine PySem.wpAny_list_append_plain (hsz:=n) ⟨w,a.1⟩ λL g i=>?_;obtain⟨A,g⟩:=g;have l:Inv Y [] t C { x with heap:=L } :=
  Inv.turned (t':=x.toks) (it:=D) (m.pins_of λp h=>absurd h (by simp)) (λb o M e=>(i.2 b M).trans e) a.2.1 a.2.2.1 c.ex c.cell (λp h=>absurd (show p∈([]:List (F0×Obj))from by rw[c.pn]at h;exact h) (by simp))
 refine⟨J++[y],f++[v],A,t,C,l.pins_of λp h=>?_,B.append (.cons T .nil),U⟩;rcases K0.mp h with z|z
 ·have e:p=(D,fP (f++[v]) A):=O9.mp z;subst e;refine⟨?_,a.2.1,a.2.2.1,a.2.2.2.1,λv z=>by cases z⟩;rw[g];simp[fP]
 ·obtain⟨S,N,G,Q,O⟩:=m.pin p (K9 _ (K9 _ z));exact⟨(i.2 _ (u p z)).trans S,N,G,Q,O⟩
structure Lv(Y:Cx) (D:F0) (ce:K8) (k:Nat) (p:Pos) (tg:K8) (fs:List K8) (B:BK):Prop where
 ex:∃bd AW,yL ce k p tg fs bd/\(∀it,zh Y.prog Y.w Y.A ce k bd it (.ref D) Y.env AW)/\Af Y D AW B/\∀{Ok Ok':E6->Prop} {s:E6},AW Ok s->(∀s,Ok s->Ok' s)->AW Ok' s
theorem si(c:lM Y D)(he:PE Y E te)(a:yL (lcE el G W ps) k p tg fs (zZ (lcE el G W ps) k E)):Lv Y D (lcE el G W ps) k p tg fs (mv te):=⟨_,_,a,λ_=>yx,wz c he,AWt.mono_leaf⟩
theorem oa(c:lM Y D)(L:Lv Y D (lcE el G W ps) k p tg fs B){U:F0}
  (hg:PG Y tg g) (a7:PIf Y fs tc) {P:List (F0×Obj)} (a':∀p∈P,p.1≠D)
  {its0:List E1} {nn0:Nat} {N:List V} {σ:St} {H:Hp} {s:E6} (I:Inv Y ([(D,fP its0 nn0)]++P) σ H s) (b1:aA N its0) {l:List F0} {A:Nat->J6->Prop} {J2:It} (T:oV Y.prog Y.w Y.K tg J2 l U A) (st:A 0 s.heap)
  (f:∀b∈l,gI Y ([(D,fP its0 nn0)]++P) H b) {W2:Nat->Nat->List V->St->Hp->Prop} {Z2:List V->St->Hp->Prop} {m0:Nat} (w0:W2 0 m0 N σ H) (Q:kc J2 g tc B W2 Z2) {R:Result->E6->Prop}
  (hR:∀(s':E6) (w:List V) (a:List E1) (n:Nat) (j:St) (t:Hp),Inv Y ([(D,fP a n)]++P) j t s'->aA w a->w.length<=F2->Z2 w j t->R (.ok .next) s') :
  ai0 (K7 Y.prog Y.w) Y.A (.compLoop (lcE el G W ps) k (.ref U) (.ref D) Y.env) R s:=by
 obtain⟨bd,AW,hT,q,hB,b2⟩:=L.ex;have J:∀{H:Hp} {n:Nat} {a:List E1},(∀b∈l,H b=none)->∀b∈l,gI Y ([(D,fP a n)]++P) H b:=λhn b q=>by
  obtain⟨_,a1,a2,a3,a4,a5⟩:=f b q;refine⟨hn b q,a1,a2,a3,a4,λp hp=>?_⟩;rw[c.pn,L6]at hp;rcases K0.mp hp with z|z
  ·obtain rfl:=O9.mp z;exact a5 (D,fP its0 nn0) (by rw[c.pn];simp)
  ·exact a5 p (by rw[c.pn];simp[z])
 refine mS hT rfl (q _) (λn s'=>∃i w a C j t,Inv Y ([(D,fP a C)]++P) j t s'/\aA w a/\A i s'.heap/\(∀b∈l,t b=none)/\W2 i n w j t) ?_ m0
  ⟨0,N,its0,nn0,σ,H,I,b1,st,λb q=>(f b q).1,w0⟩
 rintro n s' ⟨i,w,a,C,j,t,I4,rv,O,S,w4⟩;obtain⟨hz,h⟩:=Q i n w j t w4;rcases h with⟨stop,hZ⟩|⟨go,step⟩
 ·refine thn (T.done Y rfl rfl rfl c.calm i _ s' _ t (λ_ _=>False) I4 (J S) O stop) λr s4 ⟨hr,I5⟩=>?_;subst hr;exact hR s4 w a C j t I5 rv hz hZ
 ·refine thn (T.item Y rfl rfl rfl c.calm i _ s' _ t (λ_ _=>False) I4 (J S) O go) λr s5 ⟨u,hr,h5⟩=>?_;subst hr;refine thn h5 λ_ s6 ⟨x,H6,I6,r6,y6,E,b3⟩=>?_;have b0:=I6.pinned (J b3) (T.obj _ _ E);refine thF c.xe (hg _ s6 _ H6 x u _ b0 r6 (step x H6 y6)) λ_ s7 ⟨M,H7,I7,q7⟩=>?_;refine thF c.xe (a7 _ s7 M H7 _ I7 q7) λok s8 a6=>a6.el λH8 I8 q8=>?_;have m:∀{a:List E1} {C:Nat} {Z:St} {H9:Hp} {s9:E6},Inv Y (([(D,fP a C)]++P)++jk l s6.heap) Z H9 s9->A (i+1) s9.heap/\∀b∈l,H9 b=none:=λ{a C Z H9 s9} I9 =>
   ⟨T.keep _ _ _ E λb q o e=>(I9.pin (b,o) (K9 _ (K9 _ (gp q e)))).1,λb q=>by
    obtain⟨o,e,d⟩:=T.obj _ _ E b q;exact(I9.pin (b,o) (K9 _ (K9 _ (gp q e)))).2.1⟩
  cases ok with
  |false =>
   obtain⟨m',hm,w8⟩:=q8;obtain⟨a8,b8⟩:=m I8;exact⟨m',hm,i+1,w,a,C,M,H8,I8.unpinned,rv,a8,b8,w8⟩
  |true =>
   have a0:∀p∈P++jk l s6.heap,p.1≠D:=λp hp=>by
    rcases K0.mp hp with z|z
    ·exact a' p z
    ·have q:=(nR z).1;intro e;exact(f _ q).2.2.2.2.2 (D,fP its0 nn0) (by rw[c.pn];simp) e.symm
   refine b2 (hB (P++jk l s6.heap) a C w M H8 s8 _ (by rw[<-ad4];exact I8) rv hz a0 q8) ?_;rintro s9 ⟨b5,X,n',j,t,I',b4,m',hm,w'⟩;rw[<-ad4]at I';obtain⟨a9,b9⟩:=m I';exact⟨m',hm,i+1,b5,X,n',j,t,I'.unpinned,b4,a9,b9,w'⟩
theorem qV{prog:K3}{w:Q5}{A:M9}{a:E1}{env:Env}{Ok b:E6->Prop}{s:E6}(h:vM prog w A (lcE el G W ps) k i1 a env Ok s)(h':∀s,Ok s->b s):vM prog w A (lcE el G W ps) k i1 a env b s :=
 O1 h (λ_ _ g=>O1 g (λ_ _ f=>af4 f λ_ _ e=>⟨e.1,h' _ e.2⟩) λ_ _ x=>x) λ_ _ x=>x
theorem zq{j:K8}{m:List K8}{N:Pos}(c:lM Y D)(L:Lv Y D (lcE el G W ps) (k+1) N j m B)(hS:wM (lcE el G W ps) (k+1) N)(hs:∀x,O3 i1 Y.env x=ae2 x)(hi:PI Y j i1 wi)(hg:PG Y j g)(E:PIf Y m tc)
  (S:yL (lcE el G W ps) k p tg fs (zY (lcE el G W ps) k i1)):Lv Y D (lcE el G W ps) k p tg fs (vn wi g tc B):=by
 refine⟨_,_,S,λ_=>zC hs,?_,qV⟩;intro P t nn O σ H s Z I rv hz J q;refine thF c.xe (hi _ s σ H _ I q) λv s9 T=>thF c.xe T λa2 a3 A=>?_;obtain⟨a4,U,a0,J2,a1,e,z,Q,i,M,W2,⟨m2,w2⟩,w⟩:=A;subst e;have h:=oa c L hg E J z rv Q i M w2 w (R:=λr l=>(∃f,r=.ok f)/\∃o b n' a u,Inv Y ([(D,fP b n')]++P) a u l/\aA o b/\Z o a u)
  (λs' O t n a u I' C _ X=>⟨⟨_,rfl⟩,O,t,n,a,u,I',C,X⟩)
 exact lE hS h (Q.self _ 0 _ _ _ i h)
end
section
variable{X:Cx}{af:List (F0×Obj)}{σ I:St}{H2 H':Hp}{G s':E6}{g:ac4}{Y:List (Str×F0)}{ms:List Bool}{ar:List Str}{elt t0 i0:K8}{f0:List K8}{gs:List ai3}{g0:TG}{tc0:TT}{B:BK}{p pos:Pos}
theorem ni(S:fw X g Y ms ar)(dS:X.calm=true)
  (a3:∀C s H L,PG (aK X g Y (X.N++ar) C s H L) t0 g0) (N:∀C s H L,PIf (aK X g Y (X.N++ar) C s H L) f0 tc0)
  (hL:∀C s H L D,lM (aK X g Y (X.N++ar) C s H L) D->Lv (aK X g Y (X.N++ar) C s H L) D (lcE elt (⟨t0,i0,f0,0⟩::gs) g pos) 0 p t0 f0 B)
  (t:Inv X af σ H2 G) {it:F0} {fp:List F0} {tn:Nat->J6->Prop} {J:It} (T:oV X.prog X.w X.K t0 J fp it tn) (A:tn 0 G.heap) (fz:∀b∈fp,gI X af H2 b)
  {W:Nat->Nat->List V->St->Hp->Prop} {Z:List V->St->Hp->Prop} {m0:Nat} (w0:W 0 m0 [] (iP ms ar.length σ) H2) (O:kc J g0 tc0 B W Z)
  {RR:E1->F0->Result->E6->Prop} {E:E1->E6->Prop}
  (a4:∀ (s':E6) (M:List V) (m:List E1) (n:Nat) (I:St) (H':Hp),Inv (aK X g Y (X.N ++ ar) (G.heap.objs.size + 1) G H2 fp) [(G.heap.objs.size,fP m n)] I H' s' → aA M m → M.length ≤ F2 → Z M I H' →
   RR (.ref G.heap.objs.size) (G.heap.objs.size+1) (.ok .next) s') :
  H0 (K7 X.prog X.w) X.A (newList []) (λa1 h=>H0 (K7 X.prog X.w) X.A (newFunctionEnv g X.env.globals Y [] X.env.qual none .none (some X.env)) (λu Q =>
   ai0 (K7 X.prog X.w) X.A (.compStart (lcE elt (⟨t0,i0,f0,0⟩::gs) g pos) 0 (.ref it) a1 { u with scope:=relabel g X.env }) (RR a1 u.locals) Q) E h) E G:=by
 refine O4 (wpAny_newFunctionEnv S.ncell (by intro y hy;simp at hy) (λi f a=>?_) S.kind);dsimp only at f a ⊢;have a2:(G.heap.push { cls:=.type "list",dict:=none,data:=.seq ([]:List E1).toArray }).objs.size=G.heap.objs.size+1:=by rw[aa4]
 rw[a2]at f a ⊢;have l:∀b∈fp,b<G.heap.objs.size:=λb j=>by
  obtain⟨o,e,_⟩:=T.obj _ _ A b j;exact F8 e
 have w:∀b o,G.heap.get? b=some o->i.get? b=some o:=λb o e=>a.extBut b o (K4 (X6 (F8 e))) (u8 _ (u8 _ e));have a0:i.get? G.heap.objs.size=some (fP [] 0):=a.extBut _ _ (K4 (ai1 _)) (u8 _ (F9 _ rfl));have a6:H2 G.heap.objs.size=none:=t.hok.fresh (F5 _);have U:∀b,G.heap.objs.size<=b->b∉(aK X g Y (X.N++ar) (G.heap.objs.size+1) G H2 fp).fs:=λb j z=>by
  rcases I0.mp (t.stkSub b z)with e|e
  ·subst e;exact absurd (F6 t.lt j) (W7 _)
  ·exact t.nofs j e
 have q:∀h:E6,h={ G with heap:=i,toks:=G.toks+([]:List (Str×E1)).length } ->
   ai0 (K7 X.prog X.w) X.A (.compLoop (lcE elt (⟨t0,i0,f0,0⟩::gs) g pos) 0 (.ref it) (.ref G.heap.objs.size) (ap5 g Y (G.heap.objs.size+1) X.env)) (RR (.ref G.heap.objs.size) (G.heap.objs.size+1)) h:=by
  rintro h rfl;have I3:Inv (aK X g Y (X.N++ar) (G.heap.objs.size+1) G H2 fp) [] (iP ms ar.length σ) H2 { G with heap:=i,toks:=G.toks+([]:List (Str×E1)).length } :=
   yu t S fz l (an5 _) rfl t.bare w f
  have c:lM (aK X g Y (X.N++ar) (G.heap.objs.size+1) G H2 fp) G.heap.objs.size:=⟨rfl,dS,rfl,.inr (F5 _),λx c e=>by
   obtain⟨v,o,ho,_⟩:=t.cell x c (S.sub x c e);exact K4 (F8 ho)⟩
  refine oa c (hL _ _ _ _ _ c) (a3 _ _ _ _) (N _ _ _ _) (P:=[]) (λp R=>nomatch R) (its0:=[]) (nn0:=0) (I3.pins_of λp R=>?_) .nil T (T.keep _ _ _ A λb _ o e=>w b o e) (λb j=>?_) w0 O ?_
  ·have e:p=(G.heap.objs.size,fP [] 0):=O9.mp R;subst e;exact⟨a0,a6,K4 (ai1 _),U _ (F5 _),λv z=>by cases z⟩
  ·exact⟨(fz b j).1,K4 (X6 (l b j)),(vq t S fz l (an5 _)).exfs b j,.inl j,λx c e=>(fz b j).2.2.2.2.1 x c (S.sub x c e),λp R=>by
    have:p=(G.heap.objs.size,_):=O9.mp (show p∈[(G.heap.objs.size,_)]from R);subst this;exact ac7 (l b j)⟩
  ·exact λs' M m n I H' I' rv hz hZ=>a4 s' M m n I H' I' rv hz hZ
 exact codeAny_compStart_list (q _ rfl) (T.self _ 0 _ _ _ (T.keep _ _ _ A λb _ o e=>w b o e) (q _ rfl))
end
section
variable{X:Cx}{af:List (F0×Obj)}{σ σ':St}{H2 H':Hp}{Y s':E6}{E:ac4}{cl:List (Str×F0)}{ms:List Bool}{ar:List Str}{tg G elt:K8}{ifs:List K8}{g:TG}{tc:TT}{te:TE}{pos p:Pos}{B:BK}{gs:List ai3}
theorem nF(M:Inv X af σ H2 Y){fp:List F0}(t:∀b∈fp,gI X af H2 b){f:List E1}{n:Nat}{l:List V}
  (j:Inv (aK X E cl (X.N++ar) (Y.heap.objs.size+1) Y H2 fp) [(Y.heap.objs.size,fP f n)] σ' H' s') (O:aA l f) (N:l.length<=F2) {h':J6} (L:Z6 (Y.heap.objs.size+1) s'.heap h') :
  Inv X af σ (upd H' Y.heap.objs.size (.lst l)) { s' with heap:=h' }/\H' Y.heap.objs.size=none:=by
 have g:=j.pin (Y.heap.objs.size,fP f n) (K9 _ R9);have I:H' (Y.heap.objs.size+1)=none:=j.free;have C:H' Y.heap.objs.size=none:=g.2.1;have up:∀b o,b≠Y.heap.objs.size+1->s'.heap.get? b=some o->h'.get? b=some o:=λb o a e=>(L.2 b a).trans e;have p:∀b u,H' b=some u->b≠Y.heap.objs.size:=λb u e z=>by rw[z,C]at e;cases e
 have B:∀b u,H' b=some u->b≠Y.heap.objs.size+1:=λb u e z=>by rw[z,I]at e;cases e
 have s:h'.get? Y.heap.objs.size=some (fP f n):=up _ _ (K4 (ai1 _)) g.1;have x:HOk X.prog X.w (upd H' Y.heap.objs.size (.lst l)) h':=λb u e=>by
  by_cases a:b=Y.heap.objs.size
  ·subst a;rw[aY]at e;cases e;exact⟨N,f,n,O,s⟩
  ·rw[aJ a]at e;refine(j.hok b u e).stay (λc v A q=>up c v ?_ q) (λc q=>by rw[aJ (p c _ q)];exact q) λc G q=>by rw[aJ (p c _ q)];exact q
   rcases A with rfl|A
   ·exact B _ _ e
   ·exact B _ _ A
 have un:Un (frs X.stack) fp H2 (upd H' Y.heap.objs.size (.lst l)) Y.heap h':=by
  have U:=j.base;have w:∀b o,Y.heap.get? b=some o->b≠Y.heap.objs.size:=λb o e=>K4 (F8 e);have h:∀b o,Y.heap.get? b=some o->b≠Y.heap.objs.size+1:=λb o e=>K4 (X6 (F8 e));refine⟨λb o e m a i=>up b o (h b o e) (U.keep b o e m a i),λb o e m a i=>?_,λb o e m i=>by rw[aJ (w b o e)];exact U.free b o e m i,λb o e i=>?_,
   λb G e=>by have q:=U.tups b G e;rw[aJ (p b _ q)];exact q,λb o u e=>by have q:=U.frzs b o u e;rw[aJ (p b _ q)];exact q,λb J e=>?_⟩
  ·obtain⟨P,q⟩:=U.slot b o e m a i;exact⟨P,up b _ (h b o e) q⟩
  ·obtain⟨H,q⟩:=U.there b o e i;exact⟨H,up b _ (h b o e) q⟩
  ·obtain⟨more,q⟩:=U.tbls b J e;exact⟨more,by rw[aJ (p b _ q)];exact q⟩
 exact⟨M.call' (s':={ s' with heap:=h' }) (ch:=fp) j.os un x j.bare λb a=>⟨(t b a).2.2.2.1,(t b a).2.1,(t b a).2.2.2.2.1,(t b a).2.2.2.2.2⟩,C⟩
def yc(ms:List Bool)(k:Nat)(e:TI)(g:TG)(tc:TT)(B:BK):TE:=λσ H Q=>e σ H λJ b=>∃(W:Nat->Nat->List V->St->Hp->Prop) (Z:List V->St->Hp->Prop),(∃m,W 0 m [] (iP ms k σ) b)/\kc J g tc B W Z /\
 ∀a σ' H p,Z a σ' H->H p=none->Q (.ref p) (upd H p (.lst a))
abbrev tLc(ms:List Bool)(k:Nat)(a:TI)(g:TG)(tc:TT)(te:TE):TE:=yc ms k a g tc (mv te)
abbrev LvC(X:Cx)(E:ac4)(cl:List (Str×F0))(ar:List Str)(b:K8)(p:Pos)(tg:K8)(ifs:List K8)(B:BK):Prop:=∀C s H a D,lM (aK X E cl (X.N++ar) C s H a) D->Lv (aK X E cl (X.N++ar) C s H a) D b 0 p tg ifs B
theorem wk(S:fw X E cl ms ar)(dS:X.calm=true){w:TI}(hi:PI X tg G w)
  (hg:∀C s H l,PG (aK X E cl (X.N++ar) C s H l) tg g) (b:∀C s H l,PIf (aK X E cl (X.N++ar) C s H l) ifs tc) (N:LvC X E cl ar (lcE elt (⟨tg,G,ifs,0⟩::gs) E pos) p tg ifs B)
  (M:∀x,O3 G X.env x=ae2 x:=by intro _;rfl):PE X (lcE elt (⟨tg,G,ifs,0⟩::gs) E pos) (yc ms ar.length w g tc B):=by
 intro af s σ H Q I h;rw[eval_ListComp];refine wpAny_comprehension_free (use:=none) rfl M S.clos S.kind S.names (thn (hi af s σ H _ I h) λv s1 h1=>thn h1 λP Y h2=>?_);obtain⟨it,fp,tn,J,H2,e,u,T,j,o,W,Z,⟨m0,w0⟩,a,q⟩:=h2;subst e;refine ni S dS hg b N u T j o w0 a (RR:=λf C=>compPost (K7 X.prog X.w) X.A X.xe none (EP X af σ Q) f C) ?_;intro s' U R n σ' H' t rv O z;obtain⟨m,L,_⟩:=t.loc;refine⟨m,L,λh' i=>?_⟩;obtain⟨A,hD⟩:=nF u o t rv O i;exact⟨.ref Y.heap.objs.size,_,A,rfl,q U _ H' _ z hD⟩
theorem nO{i:Nat}{x:Str}{j f:Pos}(hN:X.N.Nodup)(U:X.N[i]?=some x)(hx:X.env.scope.names.lookup x=some .local)
  (L:af9 (lcE elt (⟨tg,G,ifs,0⟩::gs) E pos) (some (.Name x f)) j.line X.env=ae2 true)
  (S:fw X E cl ms ar) (dS:X.calm=true) {wi:TI} (hi:PI X tg G wi)
  (hg:∀C s H ex,PG (aK X E cl (X.N++ar) C s H ex) tg g) (O:∀C s H ex,PIf (aK X E cl (X.N++ar) C s H ex) ifs tc) (N:LvC X E cl ar (lcE elt (⟨tg,G,ifs,0⟩::gs) E pos) p tg ifs B)
  (hs:∀x,O3 G X.env x=ae2 x:=by intro _;rfl):PS X (.Assign [.Name x f] (lcE elt (⟨tg,G,ifs,0⟩::gs) E pos) j) (Ay (yc ms ar.length wi g tc B) (pH i)):=by
 intro af s σ H D I h;rw[exec_Assign_Name_used _ _ _ _ L];refine o0 (ad3 (o0 ?_));show H0 _ _ (do let _ <-comprehension (lcE elt (⟨tg,G,ifs,0⟩::gs) E pos) E X.env _ (newList []) false (X7 G X.env) (some (aj8 (.Name x f) X.env))) _ _ s;refine o0 (O1 (wpAny_comprehension_free (use:=some (aj8 (.Name x f) X.env)) (Q:=λ_ s'=>SP X af D .next s') rfl hs S.clos S.kind S.names
  (thn (hi af s σ H _ I h) λv s1 h1=>thn h1 λa4 Y h2=>?_)) (λ_ s' R=>E5 (E5 R)) λ_ _ e=>e)
 obtain⟨it,fp,tn,J,H2,e,t,T,a3,f2,W,Z,⟨m0,w0⟩,u,q⟩:=h2;subst e;refine ni S dS hg O N t T a3 f2 w0 u (RR:=λa0 C=>compPost (K7 X.prog X.w) X.A X.xe (some (aj8 (.Name x f) X.env)) (λ_ s'=>SP X af D .next s') a0 C) ?_;intro s' ys a5 n σ' H' I' rv hz hZ;obtain⟨m,hm,_⟩:=I'.loc;obtain⟨I3,hD⟩:=nF t f2 I' rv hz (Z6.refl (Y.heap.objs.size+1) s'.heap);have R:=q ys _ H' _ hZ hD;show H0 _ _ (aj8 (.Name x f) X.env (.ref Y.heap.objs.size)) _ _ _;refine wpAny_assign_Name (nM I3 hN U (.inl hx) (v:=.ref Y.heap.objs.size) rfl (λs4 I4 l=>?_) (.inr hx));obtain⟨a,P,ha⟩:=l;have w:Y.heap.objs.size+1≠X.env.locals:=ac7 (X6 t.lt);have A:Y.heap.objs.size+1≠a:=by
  rcases ha with rfl|ha
  ·exact w
  ·intro z;obtain⟨v,o,ho,_⟩:=t.cell x a ha;exact absurd (X6 (F8 ho)) (by rw[<-z];exact W7 _)
 have a1:upd H' Y.heap.objs.size (.lst ys) (Y.heap.objs.size+1)=none:=by rw[aJ (ac7 (ai1 _))];exact I'.free
 refine⟨m,hm.sameBut P A,λM a2=>?_⟩;refine⟨_,_,?_,R⟩;have N:∀b o,b≠Y.heap.objs.size+1->s4.heap.get? b=some o->M.get? b=some o:=λb o hb e=>(a2.2 b hb).trans e;have I5:=Inv.turned (t':=s4.toks) (h':=M) (it:=Y.heap.objs.size+1) I4 (λb o hb e=>N b o hb e) a1 w (.inr (Nat.le_succ_of_le t.sz)) (λy c e=>by
  obtain⟨v,o,ho,_⟩:=t.cell y c e;exact K4 (X6 (F8 ho))) (λp hp=>by
  exact K4 (X6 (F8 (t.pin p hp).1)))
 exact I5
theorem wC(he:∀C s H a,PE (aK X E cl (X.N++ar) C s H a) elt te):LvC X E cl ar (lcE elt [⟨tg,G,ifs,0⟩] E pos) G.pos tg ifs (mv te):=λ_ _ _ _ _ c=>si c (he _ _ _ _) λ_ _ _=>rfl
end
inductive Bx where
 |dk (ks:List Key)|dt (ks:List (List Key))|ins (C:F0) (fs:List Str)|key
 deriving Inhabited
inductive D where
 |non|bl (b:Bool)|int (i:Int)|str (x:Str)|tup (ds:List D)|lst (ds:List D)|scr (ds:List D)|emp|ref (a:F0)|box (t:Bx) (ds:List D)
 deriving Inhabited
inductive HD where
 |lst (ds:List D)|dK (kvs:List (Key×D))|dT (kvs:List (List Key×D))|dKr (o:Obj) (ks:List (Key×V)) (kvs:List (Key×D))|ins (C:F0) (fs:List (Str×D))
 |ext (φ:List V->J6->Prop) (ds:List D)
 deriving Inhabited
abbrev DH:=F0->Option HD
def aG(M:DH)(a:F0)(o:HD):DH:=λb=>if b=a then some o else M b
def mQ(M:DH)(a:F0):DH:=λb=>if b=a then none else M b
abbrev noM:DH:=λ_=>none
theorem bj{M:DH}{a:F0}{o:HD}:aG M a o a=some o:=if_pos rfl
theorem bY{M:DH}{a b:F0}{o:HD}(h:b≠a):aG M a o b=M b:=if_neg h
theorem eZ{M:DH}{a:F0}{o u:HD}:aG (aG M a o) a u=aG M a u:=by
 funext b;unfold aG;split<;>rfl
theorem nK{M:DH}{a:F0}:mQ M a a=none:=if_pos rfl
theorem eS{M:DH}{a:F0}{o:HD}(h:M a=none):mQ (aG M a o) a=M:=by
 funext b;unfold mQ aG;split
 ·rename_i e;rw[e,h]
 ·rfl
def n9(K:E2)(M:DH)(H:Hp)(a:F0)(b:List V):Prop:=(Rd H a (.tup b)/\M a=none)∨SqT K (λ_=>none) a b
def tJ(M:DH)(H:Hp)(a:F0)(b:List V):Prop:=H a=some (.lst b)/\M a=none
def nQ(K:E2)(M:DH)(H:Hp)(a:F0)(b:List V):Prop:=((∃o,H a=some (.frz o (.lst b)))/\M a=none)∨SqL K (λ_=>none) a b
def B2(M:DH)(H:Hp)(a:F0):Prop:=H a=some (.dK [])/\M a=none
def sf(M:DH)(H:Hp)(a:F0):Bx->List V->Prop
 |.dk e,b=>e.length=b.length/\(∃o,H a=some (.frz o (.dK (e.zip b))))/\M a=none
 |.dt e,b=>e.length=b.length/\(∃o,H a=some (.frz o (.dT (e.zip b))))/\M a=none
 |.ins C fs,b=>fs.length=b.length/\(∃f,H a=some (.ins C f (fs.zip b)))/\M a=none
 |.key,b=>True/\(∃g:Unit,H a=some (.tup b))/\M a=none
mutual
def Rep(K:E2)(M:DH)(H:Hp):D->V->Prop
 |.non,v=>v=.non
 |.bl b,v=>v=.bl b
 |.int i,v=>v=.int i
 |.str x,v=>v=.str x
 |.tup f,v=>∃a e,v=.ref a/\n9 K M H a e/\aq K M H f e
 |.lst f,v=>∃a e,v=.ref a/\tJ M H a e/\aq K M H f e
 |.scr f,v=>∃a e,v=.ref a/\nQ K M H a e/\aq K M H f e
 |.emp,v=>∃a,v=.ref a/\B2 M H a
 |.ref a,v=>v=.ref a
 |.box t f,v=>∃a e,v=.ref a/\sf M H a t e/\aq K M H f e
def aq(K:E2)(M:DH)(H:Hp):List D->List V->Prop
 |[],a=>a=[]
 |d::e,a=>∃v b,a=v::b/\Rep K M H d v/\aq K M H e b
end
def Ext(M:DH)(H:Hp)(b:DH)(e:Hp):Prop:=∀a o,H a=some o->M a=none->e a=some o/\b a=none
theorem Ext.refl(M:DH)(H:Hp):Ext M H M H:=λ_ _ h n=>⟨h,n⟩
theorem Ext.trans{M M1 M2:DH}{H e f:Hp}(a:Ext M H M1 e)(b:Ext M1 e M2 f):Ext M H M2 f:=λc o h n=>b c o (a c o h n).1 (a c o h n).2
variable{K:E2}{M M' M1 M2:DH}{H H' H1 H2:Hp}
theorem n9.ext{a:F0}{b:List V}(h:n9 K M H a b)(e:Ext M H M' H'):n9 K M' H' a b:=by
 rcases h with⟨r|⟨o,r⟩,n⟩|h
 ·exact .inl ⟨.inl (e a _ r n).1,(e a _ r n).2⟩
 ·exact .inl ⟨.inr ⟨o,(e a _ r n).1⟩,(e a _ r n).2⟩
 ·exact .inr h
theorem tJ.ext{a:F0}{b:List V}(h:tJ M H a b)(e:Ext M H M' H'):tJ M' H' a b:=e a _ h.1 h.2
theorem nQ.ext{a:F0}{b:List V}(h:nQ K M H a b)(e:Ext M H M' H'):nQ K M' H' a b:=by
 rcases h with⟨⟨o,r⟩,n⟩|h
 ·exact .inl ⟨⟨o,(e a _ r n).1⟩,(e a _ r n).2⟩
 ·exact .inr h
theorem sf.ext{a:F0}{t:Bx}{b:List V}(h:sf M H a t b)(e:Ext M H M' H'):sf M' H' a t b:=by
 cases t<;>(obtain⟨l,⟨o,r⟩,n⟩:=h;exact⟨l,⟨o,(e a _ r n).1⟩,(e a _ r n).2⟩)
mutual
theorem Rep.ext:∀{d:D}{v:V},Rep K M H d v->Ext M H M' H'->Rep K M' H' d v
 |.non,_,h,_=>h
 |.bl _,_,h,_=>h
 |.int _,_,h,_=>h
 |.str _,_,h,_=>h
 |.ref _,_,h,_=>h
 |.emp,_,h,e=>by
  simp only[Rep]at h ⊢;obtain⟨a,rfl,f,b⟩:=h;exact⟨a,rfl,e a _ f b⟩
 |.tup i,_,h,e=>by
  simp only[Rep]at h ⊢;obtain⟨a,g,rfl,f,b⟩:=h;exact⟨a,g,rfl,f.ext e,aq.ext b e⟩
 |.lst i,_,h,e=>by
  simp only[Rep]at h ⊢;obtain⟨a,g,rfl,f,b⟩:=h;exact⟨a,g,rfl,f.ext e,aq.ext b e⟩
 |.scr i,_,h,e=>by
  simp only[Rep]at h ⊢;obtain⟨a,g,rfl,f,b⟩:=h;exact⟨a,g,rfl,f.ext e,aq.ext b e⟩
 |.box t i,_,h,e=>by
  simp only[Rep]at h ⊢;obtain⟨a,g,rfl,f,b⟩:=h;exact⟨a,g,rfl,f.ext e,aq.ext b e⟩
theorem aq.ext:∀{ds:List D}{a:List V},aq K M H ds a->Ext M H M' H'->aq K M' H' ds a
 |[],_,h,_=>h
 |d::ds,_,h,e=>by
  simp only[aq]at h ⊢;obtain⟨v,g,rfl,f,b⟩:=h;exact⟨v,g,rfl,Rep.ext f e,aq.ext b e⟩
end
theorem aq.length:∀{ds:List D}{a:List V},aq K M H ds a->ds.length=a.length
 |[],_,h=>by simp only[aq]at h;subst h;rfl
 |d::ds,_,h=>by
  simp only[aq]at h;obtain⟨v,f,rfl,e,b⟩:=h;simp[aq.length b]
theorem aq.nil:aq K M H [] []:=by simp[aq]
theorem aq.cons{d:D}{v:V}{ds:List D}{a:List V}(h:Rep K M H d v)(t:aq K M H ds a):aq K M H (d::ds) (v::a):=by
 simp only[aq];exact⟨v,a,rfl,h,t⟩
theorem aq.append:∀{ds a:List D}{b ws:List V},aq K M H ds b->aq K M H a ws->aq K M H (ds++a) (b++ws)
 |[],_,_,_,h,t=>by simp only[aq]at h;subst h;exact t
 |d::ds,a,_,ws,h,t=>by
  simp only[aq]at h;obtain⟨v,g,rfl,f,e⟩:=h;exact aq.cons f (aq.append e t)
theorem aq.get:∀{ds:List D}{f:List V}{i:Nat}{d:D},aq K M H ds f->ds[i]?=some d->∃v,f[i]?=some v/\Rep K M H d v
 |[],_,_,_,_,e=>by simp at e
 |d::ds,_,0,x,h,e=>by
  simp only[aq]at h;obtain⟨v,l,rfl,j,g⟩:=h;simp at e;subst e;exact⟨v,rfl,j⟩
 |d::ds,_,i+1,x,h,e=>by
  simp only[aq]at h;obtain⟨v,l,rfl,j,g⟩:=h;obtain⟨w,a,b⟩:=aq.get (i:=i) (d:=x) g (by simpa using e);exact⟨w,by simpa using a,b⟩
theorem aq.take:∀{ds:List D}{a:List V}(n:Nat),aq K M H ds a->aq K M H (ds.take n) (a.take n)
 |ds,a,0,_=>by simp[aq]
 |[],_,n+1,h=>by simp only[aq]at h;subst h;simp[aq]
 |d::ds,_,n+1,h=>by
  simp only[aq]at h;obtain⟨v,f,rfl,e,b⟩:=h;exact aq.cons e (aq.take n b)
theorem aq.drop:∀{ds:List D}{a:List V}(n:Nat),aq K M H ds a->aq K M H (ds.drop n) (a.drop n)
 |ds,a,0,h=>h
 |[],_,n+1,h=>by simp only[aq]at h;subst h;simp[aq]
 |d::ds,_,n+1,h=>by
  simp only[aq]at h;obtain⟨v,e,rfl,f,b⟩:=h;exact aq.drop n b
theorem aq.set:∀{ds:List D}{b:List V}{d:D}{v:V}(n:Nat),aq K M H ds b->Rep K M H d v->aq K M H (ds.set n d) (b.set n v)
 |[],_,_,_,n,h,r=>by simp only[aq]at h;subst h;simp[aq]
 |d::ds,_,_,_,0,h,r=>by
  simp only[aq]at h;obtain⟨v,f,rfl,e,a⟩:=h;exact aq.cons r a
 |d::ds,_,_,_,n+1,h,r=>by
  simp only[aq]at h;obtain⟨v,f,rfl,e,a⟩:=h;exact aq.cons e (aq.set n a r)
theorem aq.one{d:D}{a:List V}(h:aq K M H [d] a):∃v,a=[v]/\Rep K M H d v:=by
 simp only[aq]at h;obtain⟨v,e,rfl,b,rfl⟩:=h;exact⟨v,rfl,b⟩
def KR(K:E2)(M:DH)(H:Hp){κ:Type}:List (κ×D)->List (κ×V)->Prop:=ac0 λp q=>p.1=q.1/\Rep K M H p.2 q.2
theorem KR.ext{κ:Type}{a:List (κ×D)}{ks:List (κ×V)}(h:KR K M H a ks)(e:Ext M H M' H'):KR K M' H' a ks:=ac0.imp' (λ_ _ r=>⟨r.1,r.2.ext e⟩) h
def lZ(K:E2)(M:DH)(H:Hp)(a:F0):HD->Prop
 |.lst g=>∃f,H a=some (.lst f)/\aq K M H g f
 |.dK b=>∃e,H a=some (.dK e)/\KR K M H b e
 |.dT b=>∃e,H a=some (.dT e)/\KR K M H b e
 |.dKr o e b=>∃l:Unit,H a=some (.frz o (.dK e))/\KR K M H b e
 |.ins C fs=>∃h,(∃i,H a=some (.ins C i h))/\KR K M H fs h
 |.ext j g=>∃f,H a=some (.ext (j f))/\aq K M H g f
def HR(K:E2)(M:DH)(H:Hp):Prop:=∀a o,M a=some o->lZ K M H a o
theorem lZ.some{a:F0}{o:HD}(h:lZ K M H a o):∃u,H a=T5 u/\∀xs,u≠.tup xs/\∀b,u≠.frz b (.tup xs):=by
 cases o with
 |ins C fs=>obtain⟨g,⟨e,r⟩,_⟩:=h;exact⟨_,r,λxs=>⟨(by intro z;cases z),(by intro b z;cases z)⟩⟩
 |_=>obtain⟨f,r,_⟩:=h;exact⟨_,r,λxs=>⟨(by intro z;cases z),(by intro b z;cases z)⟩⟩
theorem lZ.keep{a:F0}{o:HD}(h:lZ K M H a o)(e:Ext M H M' H')(q:H' a=H a):lZ K M' H' a o:=by
 cases o with
 |ins C fs=>obtain⟨g,⟨b,r⟩,t⟩:=h;exact⟨g,⟨b,by rw[q];exact r⟩,t.ext e⟩
 |_=>obtain⟨f,r,t⟩:=h;exact⟨f,by rw[q];exact r,t.ext e⟩
theorem HR.fresh(h:HR K M H){p:F0}(e:H p=none):M p=none:=by
 cases q:M p with
 |none=>rfl
 |some o =>
  obtain⟨u,r,_⟩:=(h p _ q).some;rw[e]at r;cases r
theorem HR.nil:HR K noM H:=λ_ _ h=>nomatch h
theorem Ext.new{p:F0}{o:HO}(hr:HR K M H)(h:H p=none):Ext M H M (upd H p o):=λa u e n=>by
 have:a≠p:=cH e h;rw[aJ this];exact⟨e,n⟩
theorem HR.ext1(h:HR K M H)(e:Ext M H M H')(keep:∀a o,M a=some o->H' a=H a):HR K M H':=λa o q=>(h a o q).keep e (keep a o q)
theorem HR.new{p:F0}{o:HO}(hr:HR K M H)(h:H p=none):HR K M (upd H p o):=hr.ext1 (Ext.new hr h) λa u q=>by
 have:a≠p:=λz=>by rw[z,hr.fresh h]at q;cases q
 rw[aJ this]
theorem Ext.own{p:F0}{o:HO}{u:HD}(h:H p=none):Ext M H (aG M p u) (upd H p o):=λa x e n=>by
 have:a≠p:=cH e h;rw[aJ this,bY this];exact⟨e,n⟩
theorem HR.put{p:F0}{o:HO}{u:HD}(hr:HR K M H)(e:Ext M H (aG M p u) (upd H p o))(c:lZ K (aG M p u) (upd H p o) p u):HR K (aG M p u) (upd H p o):=λa w q=>by
 by_cases z:a=p
 ·subst z;rw[bj]at q;cases q;exact c
 ·rw[bY z]at q;exact(hr a w q).keep e (aJ z)
theorem HR.own{p:F0}{ds:List D}{a:List V}(hr:HR K M H)(h:H p=none)(r:aq K M H ds a):HR K (aG M p (.lst ds)) (upd H p (.lst a)) :=
 hr.put (Ext.own h) ⟨a,aY,r.ext (Ext.own h)⟩
theorem Ext.write{a:F0}{o:HO}{u w:HD}(h:M a=some w):Ext M H (aG M a u) (upd H a o):=λb x e n=>by
 have:b≠a:=λz=>by rw[z,h]at n;cases n
 rw[aJ this,bY this];exact⟨e,n⟩
theorem HR.write{a:F0}{w:HD}{ds:List D}{b:List V}(hr:HR K M H)(h:M a=some w)(r:aq K M H ds b):HR K (aG M a (.lst ds)) (upd H a (.lst b)) :=
 hr.put (Ext.write h) ⟨b,aY,r.ext (Ext.write h)⟩
def LeM(M1 M:DH):Prop:=∀a o,M1 a=some o->M a=some o
theorem LeM.none(h:LeM M1 M){a:F0}(n:M a=none):M1 a=none:=by
 cases q:M1 a with
 |none=>rfl
 |some o=>rw[h a o q]at n;cases n
theorem LeM.refl:LeM M M:=λ_ _ h=>h
theorem LeM.no:LeM noM M:=λ_ _ h=>nomatch h
theorem LeM.del{a:F0}:LeM (mQ M a) M:=λb o h=>by
 unfold mQ at h;split at h
 ·cases h
 ·exact h
theorem Ext.le(h:LeM M1 M):Ext M H M1 H:=λa o e n=>⟨e,h.none n⟩
theorem HR.le(hr:HR K M H)(h:LeM M1 M):HR K M1 H:=λa o q=>(hr a o (h a o q)).keep (Ext.le h) rfl
theorem Rep.froze(hr:HR K M H)(h:LeM M1 M){a:F0}{ds:List D}(e:M a=some (.lst ds))(n:M1 a=none):Rep K M1 H (.lst ds) (.ref a):=by
 obtain⟨b,r,t⟩:=hr a _ e;simp only[Rep];exact⟨a,b,rfl,⟨r,n⟩,t.ext (Ext.le h)⟩
mutual
def noL:D->Bool
 |.tup a=>y9 a
 |.lst _=>false
 |.scr _=>false
 |.emp=>false
 |.box _ _=>false
 |_=>true
def y9:List D->Bool
 |[]=>true
 |d::a=>noL d&&y9 a
end
mutual
theorem Rep.hard:∀{d:D}{v:V},noL d=true->Rep K M H d v->(∀a xs,Rd H a (.tup xs)->M' a=none)->Rep K M' H d v
 |.non,_,_,h,_=>h
 |.bl _,_,_,h,_=>h
 |.int _,_,_,h,_=>h
 |.str _,_,_,h,_=>h
 |.ref _,_,_,h,_=>h
 |.emp,_,n,_,_=>by simp[noL]at n
 |.box _ _,_,n,_,_=>by simp[noL]at n
 |.lst _,_,n,_,_=>by simp[noL]at n
 |.scr _,_,n,_,_=>by simp[noL]at n
 |.tup i,_,n,h,e=>by
  simp only[Rep]at h ⊢;obtain⟨a,b,rfl,g,f⟩:=h;refine⟨a,b,rfl,?_,aq.hard (by simpa[noL]using n) f e⟩;rcases g with⟨r,_⟩|r
  ·exact .inl ⟨r,e a b r⟩
  ·exact .inr r
theorem aq.hard:∀{ds:List D}{b:List V},y9 ds=true->aq K M H ds b->(∀a xs,Rd H a (.tup xs)->M' a=none)->aq K M' H ds b
 |[],_,_,h,_=>h
 |d::ds,_,n,h,e=>by
  simp only[aq]at h ⊢;obtain⟨v,i,rfl,g,f⟩:=h;simp only[y9,J9]at n;exact⟨v,i,rfl,Rep.hard n.1 g e,aq.hard n.2 f e⟩
end
abbrev DE:=List (Option D)
def SR(K:E2)(M:DH)(H:Hp)(σ:St)(a:DE):Prop:=σ.length=a.length/\∀(i:Nat) (d:D),a[i]?=some (some d)->∃v,σ[i]?=some (some v)/\Rep K M H d v
theorem SR.ext{σ:St}{b:DE}(h:SR K M H σ b)(e:Ext M H M' H'):SR K M' H' σ b:=⟨h.1,λi d q=>let⟨v,a,r⟩:=h.2 i d q;⟨v,a,r.ext e⟩⟩
theorem SR.set{σ:St}{a:DE}{d:D}{v:V}(h:SR K M H σ a)(i:Nat)(r:Rep K M H d v):SR K M H (σ.set i (some v)) (a.set i (some d)):=by
 refine⟨by simp[h.1],λj e q=>?_⟩
 by_cases b:j=i
 ·subst b
  by_cases f:j<a.length
  ·rw[N5 f]at q;cases q;exact⟨v,N5 (by rw[h.1];exact f),r⟩
  ·rw[List.getElem?_eq_none (by simp;lia)]at q;cases q
 ·rw[T4 (T7 b)]at q ⊢;exact h.2 j e q
abbrev TEd:=DE->DH->(D->DH->Prop)->Prop
abbrev TAd:=DE->DH->(List D->DH->Prop)->Prop
abbrev TTd:=DE->DH->(Bool->DH->Prop)->Prop
structure dP where
 nx:DE->DH->Prop
 rt:D->DH->Prop
 bk:DE->DH->Prop:=λ_ _=>False
 ct:DE->DH->Prop:=λ_ _=>False
abbrev TSd:=dP->DE->DH->Prop
def up(K:E2)(t:TEd):TE:=λb H Q=>∃(a:DE) (M:DH) (R:D->DH->Prop),SR K M H b a/\HR K M H/\t a M R /\
 ∀d M' v H',R d M'->Ext M H M' H'->HR K M' H'->Rep K M' H' d v->Q v H'
def upA(K:E2)(t:TAd):TA:=λf H Q=>∃(a:DE) (M:DH) (R:List D->DH->Prop),SR K M H f a/\HR K M H/\t a M R /\
 ∀e M' b H',R e M'->Ext M H M' H'->HR K M' H'->aq K M' H' e b->Q b H'
def upT(K:E2)(t:TTd):TT:=λe H Q=>∃(a:DE) (M:DH) (R:Bool->DH->Prop),SR K M H e a/\HR K M H/\t a M R /\
 ∀b M' H',R b M'->Ext M H M' H'->HR K M' H'->Q b H'
theorem upT.el{K:E2}{t:TTd}{σ:St}{H:Hp}{Q:Bool->Hp->Prop}{P:Prop}(h:upT K t σ H Q)(f:∀(e:DE) (M:DH) (R:Bool->DH->Prop),SR K M H σ e->HR K M H->t e M R->(∀b M' H',R b M'->Ext M H M' H'->HR K M' H'->Q b H')->P):P:=by
 obtain⟨i,j,g,a,b,c,d⟩:=h;exact f i j g a b c d
theorem up.el{K:E2}{t:TEd}{σ:St}{H:Hp}{Q:VK}{P:Prop}(h:up K t σ H Q)(f:∀(e:DE) (M:DH) (R:D->DH->Prop),SR K M H σ e->HR K M H->t e M R->(∀d M' v H',R d M'->Ext M H M' H'->HR K M' H'->Rep K M' H' d v->Q v H')->P):P:=by
 obtain⟨i,j,g,a,b,c,d⟩:=h;exact f i j g a b c d
theorem upA.el{K:E2}{t:TAd}{σ:St}{H:Hp}{Q:List V->Hp->Prop}{P:Prop}(h:upA K t σ H Q)(f:∀(e:DE) (M:DH) (R:List D->DH->Prop),SR K M H σ e->HR K M H->t e M R->(∀ds M' g H',R ds M'->Ext M H M' H'->HR K M' H'->aq K M' H' ds g->Q g H')->P):P:=by
 obtain⟨j,l,i,a,b,c,d⟩:=h;exact f j l i a b c d
structure UpE(K:E2) (E:dP) (D:m5) (M:DH) (H:Hp):Prop where
 nx:∀ Δ' M' σ' H',E.nx Δ' M'->Ext M H M' H'->HR K M' H'->SR K M' H' σ' Δ'->D.nx σ' H'
 bk:∀ Δ' M' σ' H',E.bk Δ' M'->Ext M H M' H'->HR K M' H'->SR K M' H' σ' Δ'->D.bk σ' H'
 ct:∀ Δ' M' σ' H',E.ct Δ' M'->Ext M H M' H'->HR K M' H'->SR K M' H' σ' Δ'->D.ct σ' H'
 rt:∀d M' v H',E.rt d M'->Ext M H M' H'->HR K M' H'->Rep K M' H' d v->D.rt v H'
theorem UpE.ext{E:dP}{D:m5}(u:UpE K E D M H)(e:Ext M H M' H'):UpE K E D M' H' :=
 ⟨λa b c d h x=>u.nx a b c d h (e.trans x),λa b c d h x=>u.bk a b c d h (e.trans x),λa b c d h x=>u.ct a b c d h (e.trans x),λa b c d h x=>u.rt a b c d h (e.trans x)⟩
def upS(K:E2)(t:TSd):TS:=λD b H=>∃(a:DE) (M:DH) (E:dP),SR K M H b a/\HR K M H/\t E a M/\UpE K E D M H
theorem upS.el{K:E2}{t:TSd}{E:m5}{σ:St}{H:Hp}{P:Prop}(h:upS K t E σ H)(f:∀(e:DE) (M:DH) (R:dP),SR K M H σ e->HR K M H->t R e M->UpE K R E M H->P):P:=by
 obtain⟨j,g,i,a,b,c,d⟩:=h;exact f j g i a b c d
def PEd(X:Cx)(e:K8)(t:TEd):Prop:=PE X e (up X.K t)
def PAd(X:Cx)(a:List K8)(t:TAd):Prop:=PA X a (upA X.K t)
def PTd(X:Cx)(e:K8)(t:TTd):Prop:=PT X e (upT X.K t)
def PWd(X:Cx)(e:K8)(t:TTd):Prop:=PW X e (upT X.K t)
def PSd(X:Cx)(st:W8)(t:TSd):Prop:=PS X st (upS X.K t)
def xZ(X:Cx)(st:List W8)(t:TSd):Prop:=PSs X st (upS X.K t)
theorem PE.conv{X:Cx}{e:K8}{t t':TE}(h:PE X e t)(k:∀ σ H Q,t' σ H Q->t σ H Q):PE X e t':=λp s σ H Q I q=>h p s σ H Q I (k σ H Q q)
theorem PT.conv{X:Cx}{e:K8}{t t':TT}(h:PT X e t)(k:∀ σ H Q,t' σ H Q->t σ H Q):PT X e t':=λp s σ H Q I q=>h p s σ H Q I (k σ H Q q)
theorem PA.conv{X:Cx}{e:List K8}{t t':TA}(h:PA X e t)(k:∀ σ H Q,t' σ H Q->t σ H Q):PA X e t':=λa p s σ H Q I q=>h a p s σ H Q I (k σ H Q q)
theorem PS.conv{X:Cx}{e:W8}{t t':TS}(h:PS X e t)(k:∀D σ H,t' D σ H->t D σ H):PS X e t':=λp s σ H D I q=>h p s σ H D I (k D σ H q)
theorem PSs.conv{X:Cx}{e:List W8}{t t':TS}(h:PSs X e t)(k:∀D σ H,t' D σ H->t D σ H):PSs X e t':=λp s σ H D I q=>h p s σ H D I (k D σ H q)
section
variable{X:Cx}{a b c:K8}{G:List K8}{g B:TEd}{pos:Pos}
def fA(i:Nat):TEd:=λa M Q=>∃d,a[i]?=some (some d)/\Q d M
def dC(d:D):TEd:=λ_ M Q=>Q d M
theorem xX{x:Str}{i:Int}{t:Tok}{pos:Pos}(hg:Gl X x)(f:X.mg x=some (.int i t))(b:(x==("__debug__":Str))=false:=by decide):PEd X (.Name x pos) (dC (.int i)) :=
 (oD (v:=.int i) hg f ⟨t,rfl⟩ b).conv λh H Q a=>a.el λj M R g e q k=>k _ M _ H q (Ext.refl _ _) e (by simp[Rep])
theorem yW{x y:Str}{t:Tok}{pos:Pos}(hg:Gl X x)(f:X.mg x=some (.str y t))(b:(x==("__debug__":Str))=false:=by decide):PEd X (.Name x pos) (dC (.str y)) :=
 (oD (v:=.str y) hg f ⟨t,rfl⟩ b).conv λh H Q a=>a.el λi M R g e q k=>k _ M _ H q (Ext.refl _ _) e (by simp[Rep])
def CV:TAd:=λ_ M Q=>Q [] M
def zQ(g:TEd)(e:TAd):TAd:=λa M Q=>g a M λx M1=>e a M1 λb M2=>Q (x::b) M2
def DW(t:TAd):TEd:=λb M Q=>t b M λa M1=>a.length<=F2/\Q (.tup a) M1
def C9(t:TAd):TEd:=λb M Q=>t b M λa M1=>a.length<=F2/\Q (.lst a) M1
def zV(t:TAd):TEd:=λb M Q=>t b M λa M1=>a.length<=F2/\∀p,M1 p=none->Q (.ref p) (aG M1 p (.lst a))
def rdM(M:DH):D->D
 |.ref a=>match M a with|some (.lst b)=>.lst b|_=>.ref a
 |d=>d
def aM(K:E2)(M:DH)(H:Hp)(d:D)(v:V):Prop:=match d with
 |.tup e=>∃a b,v=.ref a/\SqT K H a b/\aq K M H e b
 |.lst e=>∃a b,v=.ref a/\H a=some (.lst b)/\aq K M H e b
 |.scr e=>∃a b,v=.ref a/\SqL K H a b/\aq K M H e b
 |d=>Rep K M H d v
theorem n9.sq{K:E2}{M:DH}{H:Hp}{a:F0}{b:List V}(h:n9 K M H a b):SqT K H a b:=by
 rcases h with⟨h,_⟩|h
 ·exact .inl h
 ·rcases h with(h|⟨_,h⟩)|h
  ·cases h
  ·cases h
  ·exact .inr h
theorem nQ.sq{K:E2}{M:DH}{H:Hp}{a:F0}{b:List V}(h:nQ K M H a b):SqL K H a b:=by
 rcases h with⟨⟨o,h⟩,_⟩|h
 ·exact .inl (.inr ⟨o,h⟩)
 ·rcases h with(h|⟨_,h⟩)|h
  ·cases h
  ·cases h
  ·exact .inr h
theorem Rep.rd{K:E2}{M:DH}{H:Hp}{d:D}{v:V}(hr:HR K M H)(h:Rep K M H d v):aM K M H (rdM M d) v:=by
 cases d with
 |tup g=>simp only[Rep]at h;obtain⟨a,f,e,t,r⟩:=h;exact⟨a,f,e,t.sq,r⟩
 |lst g=>simp only[Rep]at h;obtain⟨a,f,e,t,r⟩:=h;exact⟨a,f,e,t.1,r⟩
 |scr g=>simp only[Rep]at h;obtain⟨a,f,e,t,r⟩:=h;exact⟨a,f,e,t.sq,r⟩
 |ref a =>
  simp only[rdM];cases q:M a with
  |none=>exact h
  |some o =>
   cases o with
   |lst g =>
    obtain⟨f,e,r⟩:=hr a _ q;simp only[Rep]at h;exact⟨a,f,h,e,r⟩
   |dK _=>exact h
   |dT _=>exact h
   |dKr _ _ _=>exact h
   |ins _ _=>exact h
   |ext _ _=>exact h
 |non=>exact h
 |bl b=>exact h
 |int i=>exact h
 |str x=>exact h
 |emp=>exact h
 |box _ _=>exact h
def bB(X:Cx)(f:E1->E1->Sem E1)(r:D->D->Option D):Prop :=
 ∀(h:List (F0×Obj)) (s:E6) (b:St) (H:Hp) (M:DH) (x y:V) (v u:E1) (e g a:D) (Q:VK),Inv X h b H s->HR X.K M H->aO x v->aO y u->aM X.K M H e x->aM X.K M H g y->r e g=some a ->
  (∀w H',Ext M H M H'->HR X.K M H'->Rep X.K M H' a w->Q w H')->H0 (K7 X.prog X.w) X.A (f v u) (EP X h b Q) X.xe s
def DQ(X:Cx)(f:E1->Sem E1)(r:D->Option D):Prop :=
 ∀(g:List (F0×Obj)) (s:E6) (b:St) (H:Hp) (M:DH) (x:V) (v:E1) (e a:D) (Q:VK),Inv X g b H s->HR X.K M H->aO x v->aM X.K M H e x->r e=some a ->
  (∀w H',Ext M H M H'->HR X.K M H'->Rep X.K M H' a w->Q w H')->H0 (K7 X.prog X.w) X.A (f v) (EP X g b Q) X.xe s
def bE(X:Cx)(f:E1)(r:List D->Option D):Prop :=
 ∀(i:List (F0×Obj)) (s:E6) (b:St) (H:Hp) (M:DH) (a:List V) (g:List E1) (h:List D) (e:D) (Q:VK),Inv X i b H s->HR X.K M H->aA a g->ac0 (aM X.K M H) h a->r h=some e ->
  (∀w H',Ext M H M H'->HR X.K M H'->Rep X.K M H' e w->Q w H')->H0 (K7 X.prog X.w) X.A (aq5 f g) (EP X i b Q) X.xe s
def dOp(r:D->D->Option D)(g B:TEd):TEd:=λa M Q=>g a M λx M1=>B a M1 λy M2=>∃z,r (rdM M2 x) (rdM M2 y)=some z/\Q z M2
def dUn(r:D->Option D)(g:TEd):TEd:=λa M Q=>g a M λx M1=>∃z,r (rdM M1 x)=some z/\Q z M1
def opV(K:E2)(r:D->D->Option D):R2:=λx y H Q=>∃a e b M,HR K M H/\aM K M H a x/\aM K M H e y/\r a e=some b/\∀w H',Ext M H M H'->HR K M H'->Rep K M H' b w->Q w H'
theorem bB.v{f:E1->E1->Sem E1}{r:D->D->Option D}(h:bB X f r):OpR X f (opV X.K r):=λl s o H x y v u Q I b i ⟨n,g,m,M,a,j,p,e,k⟩=>h l s o H M x y v u n g m Q I a b i j p e k
theorem vZ{K:E2}{r:D->D->Option D}{g B:TEd}:∀ σ H Q,up K (dOp r g B) σ H Q->tOp (opV K r) (up K g) (up K B) σ H Q:=λσ H Q f=>f.el λl M R i n q k =>
 ⟨l,M,_,i,n,q,λx M1 v H1 C j h s=>⟨l,M1,_,i.ext j,h,C,λy M2 u H2 ⟨z,A,p⟩ m a t=>⟨_,_,z,M2,a,(s.ext m).rd a,t.rd a,A,λw H' o b e=>k z M2 w H' p ((j.trans m).trans o) b e⟩⟩⟩
def mX(t:TEd):TTd:=λa M Q=>t a M λx M1=>∃k,x=.bl k/\Q k M1
theorem Dg{K:E2}{t:TEd}:∀ σ H Q,upT K (mX t) σ H Q->tf (up K t) σ H Q:=λσ H Q a=>a.el λj M R g h q k =>
 ⟨j,M,_,g,h,q,λd M1 v H1 ⟨b,e,m⟩ i f l=>⟨b,by subst e;simpa only[Rep]using l,k b M1 H1 m i f⟩⟩
def zP(t:TTd):TTd:=λa M Q=>t a M λc M1=>Q (!c) M1
def sV(t u:TTd):TTd:=λa M Q=>t a M λc M1=>if c=true then u a M1 Q else Q false M1
def Dh(t u:TTd):TTd:=λa M Q=>t a M λc M1=>if c=true then Q true M1 else u a M1 Q
variable{W E:TTd}{rest:List K8}
theorem PW.conv{X:Cx}{e:K8}{t t':TT}(h:PW X e t)(k:∀ σ H Q,t' σ H Q->t σ H Q):PW X e t':=λw p s σ H Q I q=>h w p s σ H Q I (k σ H Q q)
theorem PWd.pt{e:K8}{t:TTd}(h:PWd X e t):PTd X e t:=PW.pt h
def CN(g B:TEd):TEd:=λa M Q=>g a M λx M1=>∃c,x=.bl c/\if c=true then B a M1 Q else Q (.bl false) M1
def Da(g:TEd):TEd:=λa M Q=>g a M λx M1=>∃c,x=.bl c/\Q (.bl (!c)) M1
def dIf(t:TTd)(g B:TEd):TEd:=λa M Q=>t a M λc M1=>if c=true then g a M1 Q else B a M1 Q
def rE(r e:D->D->Option D)(g B tc:TEd):TEd:=λa M Q=>g a M λx M1=>B a M1 λy M2=>∃k,r (rdM M2 x) (rdM M2 y)=some (.bl k)/\if k=true then tc a M2 λz b=>∃w,e (rdM b y) (rdM b z)=some w/\Q w b else Q (.bl false) M2
theorem sU{K:E2}{M:DH}{H:Hp}(hr:HR K M H):∀{ds:List D}{a:List V},aq K M H ds a->ac0 (aM K M H) (ds.map (rdM M)) a
 |[],_,h=>by simp only[aq]at h;subst h;exact .nil
 |d::ds,_,h=>by
  simp only[aq]at h;obtain⟨v,f,rfl,e,b⟩:=h;exact .cons (e.rd hr) (sU hr b)
def dCB(r:List D->Option D)(t:TAd):TEd:=λa M Q=>t a M λb M1=>∃z,r (b.map (rdM M1))=some z/\Q z M1
theorem zU{K:E2}{r:List D->Option D}{t:TAd}:∀ σ H Q,up K (dCB r t) σ H Q->tCB (λxs H Q=>∃ds f M,HR K M H/\ac0 (aM K M H) ds xs/\r ds=some f/\∀w H',Ext M H M H'->HR K M H'->Rep K M H' f w->Q w H') (upA K t) σ H Q:=λσ H Q b=>b.el λj M R g h q k =>
 ⟨j,M,_,g,h,q,λds M1 s H1 ⟨z,p,o⟩ i a m=>⟨_,z,M1,a,sU a m,p,λw H' n e l=>k z M1 w H' o (i.trans n) e l⟩⟩
theorem bE.v{f:E1}{r:List D->Option D}(h:bE X f r):cL X f (λxs H Q=>∃ds a M,HR X.K M H/\ac0 (aM X.K M H) ds xs/\r ds=some a/\∀w H',Ext M H M H'->HR X.K M H'->Rep X.K M H' a w->Q w H') :=
 λj s l H xs g Q I m ⟨ds,a,M,b,i,e,k⟩=>h j s l H M xs g ds a Q I b m i e k
end
section
variable{X:Cx}
theorem bB.of{f:E1->E1->Sem E1}{i:R2}{r:D->D->Option D}(h:OpR X f i)
  (k:∀(H:Hp) (M:DH) (x y:V) (g a b:D) (Q:VK),HR X.K M H->aM X.K M H g x->aM X.K M H a y->r g a=some b->(∀w H',Ext M H M H'->HR X.K M H'->Rep X.K M H' b w->Q w H')->i x y H Q):bB X f r :=
 λo s p H M x y v u g a b Q I j l m n i e q=>h o s p H x y v u Q I l m (k H M x y g a b Q j n i e q)
theorem bE.of{f:E1}{b:List V->Hp->VK->Prop}{r:List D->Option D}(h:cL X f b)
  (k:∀(H:Hp) (M:DH) (xs:List V) (ds:List D) (a:D) (Q:VK),HR X.K M H->ac0 (aM X.K M H) ds xs->r ds=some a->(∀w H',Ext M H M H'->HR X.K M H'->Rep X.K M H' a w->Q w H')->b xs H Q):bE X f r :=
 λl s m H M xs i ds a Q I g n j e q=>h l s m H xs i Q I n (k H M xs ds a Q g j e q)
theorem fQ{K:E2}{M:DH}{H:Hp}{i:Int}{v:V}(h:aM K M H (.int i) v):v=.int i:=by simpa[aM,Rep]using h
theorem mG{K:E2}{M:DH}{H:Hp}{i:Str}{v:V}(h:aM K M H (.str i) v):v=.str i:=by simpa[aM,Rep]using h
theorem Ew{K:E2}{M:DH}{H:Hp}{v:V}(h:aM K M H .non v):v=.non:=by simpa[aM,Rep]using h
def iOp(f:Int->Int->Option D):D->D->Option D
 |.int a,.int b=>f a b
 |_,_=>none
theorem lQ{f:Int->Int->Option D}{x y z:D}(h:iOp f x y=some z):∃a b,x=.int a/\y=.int b/\f a b=some z:=by
 cases x<;>first|cases h|skip
 rename_i a;cases y<;>first|cases h|skip
 rename_i b;exact⟨a,b,rfl,rfl,h⟩
noncomputable def br:D->Bool
 |.non=>true|.bl _=>true|.int _=>true|.str _=>true|_=>false
def toV:D->V
 |.bl b=>.bl b|.int i=>.int i|.str x=>.str x|_=>.non
theorem pz{K:E2}{M:DH}{H:Hp}{d:D}(h:br d=true):Rep K M H d (toV d):=by
 cases d<;>first|(simp[Rep,toV];done)|cases h
theorem tq{f:E1->E1->Sem E1}{C:Int->Int->Prop}[∀i j,Decidable (C i j)]{g:Int->Int->D}(s:∀i j,br (g i j)=true)(h:OpR X f (rI C λi j=>toV (g i j))):
  bB X f (iOp λi j=>if C i j then some (g i j)else none) :=
 bB.of h λH M x y t u w Q m n o e q=>by
  obtain⟨a,b,rfl,rfl,p⟩:=lQ e;clear e;have e:=p
  by_cases l:C a b
  ·rw[if_pos l]at e;cases e;exact⟨a,b,fQ n,fQ o,l,q _ _ (Ext.refl _ _) m (pz (s a b))⟩
  ·rw[if_neg l]at e;cases e
theorem lP{f:E1->E1->Sem E1}{g:Int->Int->D}(n:∀i j,br (g i j)=true)(h:OpR X f (rI0 λi j=>toV (g i j))):
  bB X f (iOp λi j=>some (g i j)) :=
 bB.of h λH M x y t p s Q l m o e q=>by
  obtain⟨a,b,rfl,rfl,e⟩:=lQ e;cases e;exact⟨a,b,fQ m,fQ o,q _ _ (Ext.refl _ _) l (pz (n a b))⟩
instance:∀i j,Decidable (mI i j):=λi j=>by unfold mI;exact inferInstance
instance:∀i j,Decidable (jU i j):=λi j=>by unfold jU;exact inferInstance
instance:∀i j,Decidable (p7 i j):=λi j=>by unfold p7;exact inferInstance
theorem cw:bB X (W3 .Sub) (iOp λi j=>some (.int (i-j))):=lP (λ_ _=>rfl) AZ
theorem Ak:bB X (W3 .Mult) (iOp λi j=>if jU i j then some (.int (i*j))else none):=tq (λ_ _=>rfl) A7
theorem gS:bB X (W3 .FloorDiv) (iOp λi j=>if mI i j then some (.int (i / j))else none):=tq (λ_ _=>rfl) yw
theorem bc:bB X (W3 .Mod) (iOp λi j=>if 0<j then some (.int (i % j))else none):=tq (C:=λ_ j=>0<j) (λ_ _=>rfl) An
theorem Cn:bB X (W3 .Pow) (iOp λi j=>if p7 i j then some (.int (i ^ j.toNat))else none):=tq (λ_ _=>rfl) Ba
theorem gV:bB X (L8 .Lt) (iOp λi j=>some (.bl (decide (i<j)))):=lP (λ_ _=>rfl) DG
theorem uP:bB X (L8 .LtE) (iOp λi j=>some (.bl (decide (i<=j)))):=lP (λ_ _=>rfl) DS
theorem Dy:bB X (L8 .Gt) (iOp λi j=>some (.bl (decide (j<i)))):=lP (λ_ _=>rfl) CZ
theorem Ea:bB X (L8 .GtE) (iOp λi j=>some (.bl (decide (j<=i)))):=lP (λ_ _=>rfl) B5
theorem aq.at_{K:E2}{M:DH}{H:Hp}{ds:List D}{f:List V}{i:Int}{d:D}(h:aq K M H ds f)(e:atI ds i=some d):∃v,atI f i=some v/\Rep K M H d v:=by
 unfold atI at e ⊢;rw[<-h.length];cases q:ixN ds.length i with
 |none=>rw[q]at e;cases e
 |some j =>
  rw[q]at e;have g:ds[j]?=some d:=e;obtain⟨v,a,b⟩:=h.get g;exact⟨v,a,b⟩
def ixD:D->D->Option D
 |.tup a,.int i=>atI a i
 |.lst a,.int i=>atI a i
 |.scr a,.int i=>atI a i
 |.str z,.int i=>if z.length<=F2 then(atI z.cps.toList i).map λc=>.str ⟨#[c]⟩else none
 |_,_=>none
theorem aC:IxR X (opV X.K ixD):=by
 intro b slice p s t H x y v u Q I rx ry h hs;obtain⟨E,n,G,M,m,o,A,e,k⟩:=h;cases E with
 |tup C =>
  cases n with
  |int i =>
   obtain⟨a,j,rfl,sq,g⟩:=o;obtain⟨w,l,f⟩:=g.at_ e;exact BX b slice p s t H _ _ v u Q I rx ry ⟨a,j,i,w,rfl,fQ A,sq,l,k w H (Ext.refl _ _) m f⟩ hs
  |_=>cases e
 |lst C =>
  cases n with
  |int i =>
   obtain⟨a,j,rfl,sq,g⟩:=o;obtain⟨w,l,f⟩:=g.at_ e;exact sL b slice p s t H _ _ v u Q I rx ry ⟨a,j,i,w,rfl,fQ A,SqL.of sq,l,k w H (Ext.refl _ _) m f⟩ hs
  |_=>cases e
 |scr C =>
  cases n with
  |int i =>
   obtain⟨a,j,rfl,sq,g⟩:=o;obtain⟨w,l,f⟩:=g.at_ e;exact sL b slice p s t H _ _ v u Q I rx ry ⟨a,j,i,w,rfl,fQ A,sq,l,k w H (Ext.refl _ _) m f⟩ hs
  |_=>cases e
 |str z =>
  cases n with
  |int i =>
   simp only[ixD]at e
   by_cases B:z.length<=F2
   ·rw[if_pos B]at e;cases q:atI z.cps.toList i with
    |none=>rw[q]at e;cases e
    |some c =>
     rw[q]at e;cases e;exact A0 b slice p s t H _ _ v u Q I rx ry ⟨z,i,c,mG o,fQ A,B,q,k _ H (Ext.refl _ _) m (by simp[Rep])⟩ hs
   ·rw[if_neg B]at e;cases e
  |_=>cases e
 |_=>cases e
noncomputable def oQ:D->D->Option D
 |.int a,.int b=>some (.int (a+b))
 |.str a,.str b=>if a.length+b.length<=F2 then some (.str (a++b))else none
 |.lst a,.lst b=>if a.length+b.length<=F2 then some (.lst (a++b))else none
 |.tup a,.tup b=>if a.length+b.length<=F2 then some (.tup (a++b))else none
 |_,_=>none
theorem eO{K:E2}{M:DH}{H:Hp}{p:F0}{ds:List D}{b:List V}{Q:VK}(hr:HR K M H)(a:H p=none)(r:aq K M H ds b)(q:∀w H',Ext M H M H'->HR K M H'->Rep K M H' (.lst ds) w->Q w H'):Q (.ref p) (upd H p (.lst b)) :=
 q _ _ (Ext.new hr a) (hr.new a) (by simp only[Rep];exact⟨p,b,rfl,⟨aY,hr.fresh a⟩,r.ext (Ext.new hr a)⟩)
theorem lr{K:E2}{M:DH}{H:Hp}{p:F0}{ds:List D}{b:List V}{Q:VK}(hr:HR K M H)(a:H p=none)(r:aq K M H ds b)(q:∀w H',Ext M H M H'->HR K M H'->Rep K M H' (.tup ds) w->Q w H'):Q (.ref p) (upd H p (.tup b)) :=
 q _ _ (Ext.new hr a) (hr.new a) (by simp only[Rep];exact⟨p,b,rfl,.inl ⟨.inl aY,hr.fresh a⟩,r.ext (Ext.new hr a)⟩)
theorem aM.tup{K:E2}{M:DH}{H:Hp}{ds:List D}{v:V}(hr:HR K M H)(h:aM K M H (.tup ds) v):Rep K M H (.tup ds) v:=by
 obtain⟨a,f,rfl,sq,b⟩:=h;simp only[Rep];refine⟨a,f,rfl,?_,b⟩;rcases sq with r|k
 ·refine .inl ⟨r,?_⟩;cases q:M a with
  |none=>rfl
  |some o =>
   obtain⟨u,z,m⟩:=(hr a _ q).some;rcases r with r|⟨e,r⟩
   ·rw[z]at r;exact absurd (R1 r) (m _).1
   ·rw[z]at r;exact absurd (R1 r) ((m _).2 e)
 ·exact .inr (.inr k)
theorem vv{prog:K3}{w:Q5}{A:M9}{E:E1->E6->Prop}{s:E6}{t b:F0}{ws:List E1}{Q:E1->E6->Prop}(x:am0 s.heap t ([]:List E1).toArray)(u:am0 s.heap b ws.toArray)
  (h:Q (.ref b) s):H0 (K7 prog w) A (W3 .Add (.ref t) (.ref b)) Q E s:=by
 obtain⟨⟨cls,z,o,B⟩,j,p,n,m⟩:=id x;obtain⟨⟨l,i,data2,g⟩,e,f,q,a⟩:=id u;simp only at p m f a;subst p m f a;exact concat_meets ⟨_,j,rfl⟩ ⟨_,e,rfl⟩ noFill_tuple_add seq_tuple_add PySem.F.slot_tuple_add PySem.F.entry_tuple_add (PySem.F.args_tuple_add_2 _ _)
   (tuple_addW0 t b ([]:List E1).toArray ws.toArray n q z i B g (by simp)) ⟨j,e,h⟩
theorem bv:bB X (W3 .Add) oQ:=by
 intro i s j H M x y v u dx dy dz Q I hr rx ry r1 r2 e k;cases dx with
 |int a =>
  cases dy with
  |int b =>
   cases e;exact Ah i s j H x y v u Q I rx ry ⟨a,b,fQ r1,fQ r2,k _ H (Ext.refl _ _) hr (by simp[Rep])⟩
  |_=>cases e
 |str a =>
  cases dy with
  |str b =>
   simp only[oQ]at e
   by_cases h:a.length+b.length<=F2
   ·rw[if_pos h]at e;cases e;exact rQ i s j H x y v u Q I rx ry ⟨a,b,mG r1,mG r2,h,k _ H (Ext.refl _ _) hr (by simp[Rep])⟩
   ·rw[if_neg h]at e;cases e
  |_=>cases e
 |lst a =>
  cases dy with
  |lst b =>
   simp only[oQ]at e
   by_cases h:a.length+b.length<=F2
   ·rw[if_pos h]at e;cases e;obtain⟨w,l,rfl,o,f⟩:=r1;obtain⟨m,t,rfl,n,g⟩:=r2;exact AQ i s j H _ _ v u Q I rx ry ⟨w,m,l,t,rfl,rfl,o,n,by rw[<-f.length,<-g.length];exact h,λp q=>eO hr q (f.append g) k⟩
   ·rw[if_neg h]at e;cases e
  |_=>cases e
 |tup a =>
  cases dy with
  |tup b =>
   simp only[oQ]at e
   by_cases h:a.length+b.length<=F2
   ·rw[if_pos h]at e;cases e;have G:=aM.tup hr r1;have O:=aM.tup hr r2;obtain⟨w,l,rfl,o,f⟩:=r1;obtain⟨m,t,rfl,n,g⟩:=r2
    by_cases z:l=[]
    ·subst z;have C:a=[]:=by
      have:=f.length;cases a with
      |nil=>rfl
      |cons _ _=>simp at this
     subst C;cases rx;cases ry;obtain⟨N,P,B,_⟩:=I.tuple o;obtain⟨A,R,J,_⟩:=I.tuple n;cases P;exact vv B J ⟨.ref m,H,I,rfl,k _ H (Ext.refl _ _) hr O⟩
    ·refine ye i s j H _ _ v u Q I rx ry ⟨w,m,l,t,rfl,rfl,o,n,z,by rw[<-f.length,<-g.length];exact h,λL=>?_,λ_ p q=>lr hr q (f.append g) k⟩;subst L;have E:b=[]:=by
      have:=g.length;cases b with
      |nil=>rfl
      |cons _ _=>simp at this
     subst E;rw[S3]at k;exact k _ H (Ext.refl _ _) hr G
   ·rw[if_neg h]at e;cases e
  |_=>cases e
 |_=>cases e
mutual
def eqD:D->D->Bool
 |.non,.non=>true
 |.bl a,.bl b=>a==b
 |.bl a,.int b=>(if a then 1 else 0)==b
 |.int a,.bl b=>a==(if b then 1 else 0)
 |.int a,.int b=>a==b
 |.str a,.str b=>a==b
 |.tup a,.tup b=>dn a b
 |.lst a,.lst b=>dn a b
 |_,_=>false
def dn:List D->List D->Bool
 |[],[]=>true
 |a::e,b::bs=>eqD a b&&dn e bs
 |_,_=>false
end
mutual
def dLe:D->Nat->Bool
 |.tup _,0=>false
 |.tup a,n+1=>dm a n
 |.lst _,0=>false
 |.lst a,n+1=>dm a n
 |.scr _,_=>false
 |.emp,_=>false
 |.box _ _,_=>false
 |.ref _,_=>false
 |_,_=>true
def dm:List D->Nat->Bool
 |[],_=>true
 |d::a,n=>dLe d n&&dm a n
end
theorem jl:∀{ds:List D}{n i:Nat}{d:D},dm ds n=true->ds[i]?=some d->dLe d n=true
 |[],_,_,_,_,e=>by simp at e
 |d::ds,n,0,x,h,e=>by
  simp only[dm,J9]at h;simp at e;subst e;exact h.1
 |d::ds,n,i+1,x,h,e=>by
  simp only[dm,J9]at h;exact jl h.2 (by simpa using e)
theorem cb:∀{ds:List D}{n:Nat},dm ds n=true↔∀d∈ds,dLe d n=true
 |[],n=>by simp[dm]
 |d::ds,n=>by simp[dm,cb (ds:=ds)]
def eqN(ds e:List D)(j:Nat):Bool:=match ds[j]?,e[j]? with|some a,some b=>eqD a b|_,_=>false
theorem qk:∀{ds a:List D},dn ds a=true->ds.length=a.length
 |[],[],_=>rfl
 |[],_::_,h=>by simp[dn]at h
 |_::_,[],h=>by simp[dn]at h
 |_::ds,_::a,h=>by
  simp only[dn,J9]at h;simp[qk h.2]
theorem l7:∀{ds e:List D},dn ds e=((Q4 (min ds.length e.length)).all (eqN ds e)&&ds.length==e.length)
 |[],[]=>by simp[dn]
 |[],_::_=>by simp[dn]
 |_::_,[]=>by simp[dn]
 |a::ds,b::e=>by
  have ih:=@l7 ds e;simp only[dn,Q6,Nat.add_min_add_right,List.range_succ_eq_map,V7,V1];have f:eqN (a::ds) (b::e) 0=eqD a b:=by simp[eqN]
  have g:(eqN (a::ds) (b::e))∘Nat.succ=eqN ds e:=by
   funext j;simp[eqN]
  rw[f,g,ih];have h:(ds.length+1==e.length+1)=(ds.length==e.length):=by
   rw[P6];simp
  rw[h,Bool.and_assoc]
theorem uv{ds a:List D}(h:ds.length=a.length):dn ds a=(Q4 ds.length).all (eqN ds a):=by
 rw[l7,<-h,Nat.min_self];simp
theorem Rep.r{K:E2}{M:DH}{H:Hp}{d:D}{v:V}(h:Rep K M H d v):aM K M H d v:=by
 cases d with
 |tup f=>simp only[Rep]at h;obtain⟨a,b,e,t,r⟩:=h;exact⟨a,b,e,t.sq,r⟩
 |lst f=>simp only[Rep]at h;obtain⟨a,b,e,t,r⟩:=h;exact⟨a,b,e,t.1,r⟩
 |scr f=>simp only[Rep]at h;obtain⟨a,b,e,t,r⟩:=h;exact⟨a,b,e,t.sq,r⟩
 |_=>exact h
theorem zI{g:List (F0×Obj)}{σ:St}{H:Hp}{s:E6}{a:F0}{i ws:List V}(I:Inv X g σ H s)(h:SqT X.K H a i)(h':H a=some (.lst ws)):False:=by
 obtain⟨j,r,⟨o,e,c,n,d⟩,_⟩:=I.tuple h;obtain⟨_,b,l,_,f⟩:=I.hok a _ h';rw[e]at f;cases f;exact absurd (show N9 "list"=N9 "tuple" from c) (by decide)
theorem vN{B:List (F0×Obj)}{σ:St}{H:Hp}{s:E6}(I:Inv X B σ H s){M M':DH}:∀(n:Nat) {d e:D}{v:V},dLe d n=true->dLe e n=true->aM X.K M H d v->aM X.K M' H e v->eqD d e=true:=by
  intro n
  induction n with
  | zero =>
    intro d e v hd he r1 g;cases d<;>first|(simp[dLe]at hd;done)|skip
    all_goals cases e<;>first|(simp[dLe]at he;done)|skip
    all_goals (simp only[aM,Rep]at r1 g;subst r1;first|(cases g;simp[eqD];done)|cases g)
  | succ n ih =>
    intro d e v hd he r1 g;have l:∀{m i:List D} {p:List V},dm m n=true->dm i n=true->aq X.K M H m p->aq X.K M' H i p->dn m i=true:=by
      intro m
      induction m with
      | nil =>
        intro i p _ _ t q;simp only[aq]at t;subst t;cases i with
        |nil=>simp[dn]
        |cons _ _=>simp[aq]at q
      | cons a m u =>
        intro i p x z t q;simp only[aq]at t;obtain⟨v,o,rfl,A,G⟩:=t;cases i with
        |nil=>simp[aq]at q
        | cons b i =>
          simp only[aq]at q;obtain⟨L,E,j,J,C⟩:=q;cases j;simp only[dm,J9]at x z;simp only[dn,J9];exact⟨ih x.1 z.1 A.r J.r,u x.2 z.2 G C⟩
    cases d with
    | tup m =>
      obtain⟨a,p,rfl,sq,w⟩:=r1;cases e with
      | tup i =>
        obtain⟨b,o,j,f,h⟩:=g;cases j;have:=I.tuple_inj sq f;subst this;simp only[eqD];exact l (by simpa[dLe]using hd) (by simpa[dLe]using he) w h
      | lst i =>
        obtain⟨b,o,j,f,h⟩:=g;cases j;exact(zI I sq f).elim
      |_=>first|(simp[dLe]at he;done)|(simp only[aM,Rep]at g;cases g)
    | lst m =>
      obtain⟨a,p,rfl,sq,w⟩:=r1;cases e with
      | lst i =>
        obtain⟨b,o,j,f,h⟩:=g;cases j;rw[sq]at f;cases f;simp only[eqD];exact l (by simpa[dLe]using hd) (by simpa[dLe]using he) w h
      | tup i =>
        obtain⟨b,o,j,f,h⟩:=g;cases j;exact(zI I f sq).elim
      |_=>first|(simp[dLe]at he;done)|(simp only[aM,Rep]at g;cases g)
    | _ =>
      first
      |(simp[dLe]at hd;done)
      | (cases e with
         |tup i=>(obtain⟨b,o,j,f,h⟩:=g;subst j;simp only[aM,Rep]at r1;cases r1)
         |lst i=>(obtain⟨b,o,j,f,h⟩:=g;subst j;simp only[aM,Rep]at r1;cases r1)
         |_=>first|(simp[dLe]at he;done)|(simp only[aM,Rep]at r1 g;subst r1;first|(cases g;simp[eqD];done)|cases g))
theorem aM.at{K:E2}{M:DH}{H:Hp}{d:D}{v:V}{u:E1}(r:aM K M H d v)(q:aO v u):match d with|.non=>u=.none|.bl b=>u=.bool b|.int i=>∃t,u=.int i t|.str x=>∃t,u=.str x t|_=>True:=by
 cases d<;>first|trivial|(simp only[aM,Rep]at r;subst r;exact q)
open PySem.SeqAt in
theorem qL{af:List (F0×Obj)}{σ:St}{H:Hp}{s:E6}(I:Inv X af σ H s){M M':DH}:∀(n:Nat) {A:M9}{d e:D}{v w:V}{O N:E1},A.units+n<ao2->dLe d n=true->dLe e n=true ->
  aM X.K M H d v->aM X.K M' H e w->aO v O->aO w N->EqAt A s O N (eqD d e)/\RcAt A s O N (eqD d e)/\RcNeAt A s O N (!(eqD d e)):=by
 intro n
 induction n with
 |zero =>
  intro A d e v w O N hu hd he C u B x;have f:A.units<ao2:=by lia
  cases d<;>first|(simp[dLe]at hd;done)|skip
  all_goals cases e<;>first|(simp[dLe]at he;done)|skip
  all_goals simp only[aM,Rep]at C u
  all_goals subst C
  all_goals subst u
  all_goals simp only[aO]at B x
  all_goals first|(obtain⟨Z,rfl⟩:=B)|subst B
  all_goals first|(obtain⟨t2,rfl⟩:=x)|subst x
  all_goals simp only[eqD]
  ·exact⟨EqAt.same _,RcAt.none_none,RcNeAt.none_none⟩
  ·exact⟨EqAt.none_bool _,RcAt.none_bool _,RcNeAt.none_bool _⟩
  ·exact⟨EqAt.none_int _ _,RcAt.none_int _ _,RcNeAt.none_int _ _⟩
  ·exact⟨EqAt.none_str _ _,RcAt.none_str _ _,RcNeAt.none_str _ _⟩
  ·exact⟨EqAt.bool_none _,RcAt.bool_none _,RcNeAt.bool_none _⟩
  ·exact⟨EqAt.bool_bool _ _,RcAt.bool_bool _ _,RcNeAt.bool_bool _ _⟩
  ·exact⟨EqAt.bool_int _ _ _,RcAt.bool_int _ _ _,RcNeAt.bool_int _ _ _⟩
  ·exact⟨EqAt.bool_str _ _ _,RcAt.bool_str _ _ _,RcNeAt.bool_str _ _ _⟩
  ·exact⟨EqAt.int_none _ _,RcAt.int_none _ _,RcNeAt.int_none _ _⟩
  ·exact⟨EqAt.int_bool _ _ _,RcAt.int_bool _ _ _,RcNeAt.int_bool _ _ _⟩
  ·exact⟨EqAt.int_int _ _ _ _,RcAt.int_int _ _ _ _,RcNeAt.int_int _ _ _ _⟩
  ·exact⟨EqAt.int_str _ _ _ _,RcAt.int_str _ _ _ _,RcNeAt.int_str _ _ _ _⟩
  ·exact⟨EqAt.str_none _ _,RcAt.str_none _ _,RcNeAt.str_none _ _⟩
  ·exact⟨EqAt.str_bool _ _ _,RcAt.str_bool _ _ _,RcNeAt.str_bool _ _ _⟩
  ·exact⟨EqAt.str_int _ _ _ _,RcAt.str_int _ _ _ _,RcNeAt.str_int _ _ _ _⟩
  ·exact⟨EqAt.str_str _ _ _ _,RcAt.str_str _ _ _ _,RcNeAt.str_str _ _ _ _⟩
 |succ n ih =>
  intro A d e v w O N hu hd he C u B x;have f:A.units<ao2:=by lia
  have a1:A.in1.units+n<ao2:=by show A.units+1+n<ao2;lia
  have Q:∀{z m:List D} {vs E:List V} {us G:List E1},dm z n=true->dm m n=true->aq X.K M H z vs->aq X.K M' H m E->aA vs us->aA E G ->
    ∀j (h1:j<us.toArray.size) (h2:j<G.toArray.size),EqAt A.in1 s us.toArray[j] G.toArray[j] (eqN z m j):=by
   intro z m vs E us G d1 d2 h1 h2 h3 h4 j T R;have l1:=h1.length;have l2:=h2.length;have l3:=h3.length;have l4:=h4.length;have j1:j<z.length:=by simp at T;lia
   have j2:j<m.length:=by simp at R;lia
   obtain⟨v1,g1,p1⟩:=h1.get (i:=j) (d:=z[j]) (by simp[j1]);obtain⟨v2,g2,p2⟩:=h2.get (i:=j) (d:=m[j]) (by simp[j2]);obtain⟨O,k1,m1⟩:=h3.get g1;obtain⟨N,k2,m2⟩:=h4.get g2;have e1:us.toArray[j]=O:=by
    simp at T;simpa[E4 T]using k1
   have e2:G.toArray[j]=N:=by
    simp at R;simpa[E4 R]using k2
   rw[e1,e2];have e3:eqN z m j=eqD z[j] m[j]:=by simp[eqN,j1,j2]
   rw[e3];exact(ih a1 (jl d1 (i:=j) (by simp[j1])) (jl d2 (i:=j) (by simp[j2])) p1.r p2.r m1 m2).1
  have P:∀{a b:F0},v=.ref a->w=.ref b->RcAt A s (.ref a) (.ref b) (eqD d e)->EqAt A s (.ref a) (.ref b) (eqD d e):=by
   intro a b ea eb S
   by_cases a0:a=b
   ·subst a0;subst ea;subst eb;rw[vN I (n+1) hd he C u];exact EqAt.same _
   ·exact EqAt.of_refs a0 S
  cases d with
  |tup z =>
   obtain⟨a,vs,rfl,sq,rl⟩:=id C;cases B;obtain⟨L,rv,pt,_⟩:=I.tuple sq;have Y:dm z n=true:=by simpa[dLe]using hd
   cases e with
   |tup m =>
    obtain⟨b,E,rfl,h,p⟩:=id u;cases x;obtain⟨l,o,g,_⟩:=I.tuple h;have U:dm m n=true:=by simpa[dLe]using he
    have it:=Q Y U rl p rv o;have Z:=RcAt.tuples (e:=eqN z m) pt g f it;have t2:=RcNeAt.tuples (e:=eqN z m) pt g f it;rw[E8,E8,<-rv.length,<-o.length,<-rl.length,<-p.length,<-l7]at Z t2;have S:RcAt A s (.ref a) (.ref b) (eqD (.tup z) (.tup m)):=by simpa only[eqD]using Z
    exact⟨P rfl rfl S,S,by simpa only[eqD]using t2⟩
   |lst m =>
    obtain⟨b,E,rfl,h,p⟩:=id u;cases x;obtain⟨l,o,g,_⟩:=I.list (SqL.of h);simp only[eqD];exact⟨EqAt.tuple_list pt g.isList f,RcAt.tuple_list pt g.isList f,RcNeAt.tuple_list pt g.isList f⟩
   |non=>obtain rfl:=u.at x;simp only[eqD];exact⟨EqAt.tuple_none pt f,RcAt.tuple_none pt f,RcNeAt.tuple_none pt f⟩
   |bl b=>obtain rfl:=u.at x;simp only[eqD];exact⟨EqAt.tuple_bool _ pt f,RcAt.tuple_bool _ pt f,RcNeAt.tuple_bool _ pt f⟩
   |int b=>obtain⟨t,rfl⟩:=u.at x;simp only[eqD];exact⟨EqAt.tuple_int _ _ pt f,RcAt.tuple_int _ _ pt f,RcNeAt.tuple_int _ _ pt f⟩
   |str b=>obtain⟨t,rfl⟩:=u.at x;simp only[eqD];exact⟨EqAt.tuple_str _ _ pt f,RcAt.tuple_str _ _ pt f,RcNeAt.tuple_str _ _ pt f⟩
   |_=>simp[dLe]at he
  |lst z =>
   obtain⟨a,vs,rfl,sq,rl⟩:=id C;cases B;obtain⟨L,rv,pt,_⟩:=I.list (SqL.of sq);have Y:dm z n=true:=by simpa[dLe]using hd
   cases e with
   |lst m =>
    obtain⟨b,E,rfl,h,p⟩:=id u;cases x;obtain⟨l,o,g,_⟩:=I.list (SqL.of h);have U:dm m n=true:=by simpa[dLe]using he
    have hs:L.toArray.size=z.length/\l.toArray.size=m.length:=by rw[E8,E8,<-rv.length,<-o.length,<-rl.length,<-p.length];exact⟨rfl,rfl⟩
    have S:RcAt A s (.ref a) (.ref b) (eqD (.lst z) (.lst m))/\RcNeAt A s (.ref a) (.ref b) (!(eqD (.lst z) (.lst m))):=by
     by_cases hl:z.length=m.length
     ·have J:L.toArray.size=l.toArray.size:=by rw[hs.1,hs.2];exact hl
      have it:=Q Y U rl p rv o;have Z:=RcAt.lists (e:=eqN z m) pt.isList g.isList J f it;have t2:=RcNeAt.lists (e:=eqN z m) pt.isList g.isList J f it;rw[hs.1,<-uv hl]at Z t2;exact⟨by simpa only[eqD]using Z,by simpa only[eqD]using t2⟩
     ·have J:(L.toArray.size != l.toArray.size)=true:=by rw[hs.1,hs.2];simpa using hl
      have e0:eqD (.lst z) (.lst m)=false:=by
       simp only[eqD];cases q:dn z m with
       |false=>rfl
       |true=>exact absurd (qk q) hl
      rw[e0];exact⟨RcAt.lists_lengths pt.isList g.isList J f,RcNeAt.lists_lengths pt.isList g.isList J f⟩
    exact⟨P rfl rfl S.1,S⟩
   |tup m =>
    obtain⟨b,E,rfl,h,p⟩:=id u;cases x;obtain⟨l,o,g,_⟩:=I.tuple h;simp only[eqD];exact⟨EqAt.list_tuple pt.isList g f,RcAt.list_tuple pt.isList g f,RcNeAt.list_tuple pt.isList g f⟩
   |non=>obtain rfl:=u.at x;simp only[eqD];exact⟨EqAt.list_none pt.isList f,RcAt.list_none pt.isList f,RcNeAt.list_none pt.isList f⟩
   |bl b=>obtain rfl:=u.at x;simp only[eqD];exact⟨EqAt.list_bool _ pt.isList f,RcAt.list_bool _ pt.isList f,RcNeAt.list_bool _ pt.isList f⟩
   |int b=>obtain⟨t,rfl⟩:=u.at x;simp only[eqD];exact⟨EqAt.list_int _ _ pt.isList f,RcAt.list_int _ _ pt.isList f,RcNeAt.list_int _ _ pt.isList f⟩
   |str b=>obtain⟨t,rfl⟩:=u.at x;simp only[eqD];exact⟨EqAt.list_str _ _ pt.isList f,RcAt.list_str _ _ pt.isList f,RcNeAt.list_str _ _ pt.isList f⟩
   |_=>simp[dLe]at he
  |non =>
   cases e with
   |tup m =>
    obtain⟨b,E,rfl,h,p⟩:=id u;cases x;obtain⟨l,o,g,_⟩:=I.tuple h;obtain rfl:=C.at B;simp only[eqD];exact⟨EqAt.none_tuple g f,RcAt.none_tuple g f,RcNeAt.none_tuple g f⟩
   |lst m =>
    obtain⟨b,E,rfl,h,p⟩:=id u;cases x;obtain⟨l,o,g,_⟩:=I.list (SqL.of h);obtain rfl:=C.at B;simp only[eqD];exact⟨EqAt.none_list g.isList f,RcAt.none_list g.isList f,RcNeAt.none_list g.isList f⟩
   |_=>first|(simp[dLe]at he;done)|exact ih (A:=A) (by lia) (by simp[dLe]) (by simp[dLe]) C u B x
  |bl a =>
   cases e with
   |tup m =>
    obtain⟨b,E,rfl,h,p⟩:=id u;cases x;obtain⟨l,o,g,_⟩:=I.tuple h;obtain rfl:=C.at B;simp only[eqD];exact⟨EqAt.bool_tuple _ g f,RcAt.bool_tuple _ g f,RcNeAt.bool_tuple _ g f⟩
   |lst m =>
    obtain⟨b,E,rfl,h,p⟩:=id u;cases x;obtain⟨l,o,g,_⟩:=I.list (SqL.of h);obtain rfl:=C.at B;simp only[eqD];exact⟨EqAt.bool_list _ g.isList f,RcAt.bool_list _ g.isList f,RcNeAt.bool_list _ g.isList f⟩
   |_=>first|(simp[dLe]at he;done)|exact ih (A:=A) (by lia) (by simp[dLe]) (by simp[dLe]) C u B x
  |int a =>
   cases e with
   |tup m =>
    obtain⟨b,E,rfl,h,p⟩:=id u;cases x;obtain⟨l,o,g,_⟩:=I.tuple h;obtain⟨t,rfl⟩:=C.at B;simp only[eqD];exact⟨EqAt.int_tuple _ _ g f,RcAt.int_tuple _ _ g f,RcNeAt.int_tuple _ _ g f⟩
   |lst m =>
    obtain⟨b,E,rfl,h,p⟩:=id u;cases x;obtain⟨l,o,g,_⟩:=I.list (SqL.of h);obtain⟨t,rfl⟩:=C.at B;simp only[eqD];exact⟨EqAt.int_list _ _ g.isList f,RcAt.int_list _ _ g.isList f,RcNeAt.int_list _ _ g.isList f⟩
   |_=>first|(simp[dLe]at he;done)|exact ih (A:=A) (by lia) (by simp[dLe]) (by simp[dLe]) C u B x
  |str a =>
   cases e with
   |tup m =>
    obtain⟨b,E,rfl,h,p⟩:=id u;cases x;obtain⟨l,o,g,_⟩:=I.tuple h;obtain⟨t,rfl⟩:=C.at B;simp only[eqD];exact⟨EqAt.str_tuple _ _ g f,RcAt.str_tuple _ _ g f,RcNeAt.str_tuple _ _ g f⟩
   |lst m =>
    obtain⟨b,E,rfl,h,p⟩:=id u;cases x;obtain⟨l,o,g,_⟩:=I.list (SqL.of h);obtain⟨t,rfl⟩:=C.at B;simp only[eqD];exact⟨EqAt.str_list _ _ g.isList f,RcAt.str_list _ _ g.isList f,RcNeAt.str_list _ _ g.isList f⟩
   |_=>first|(simp[dLe]at he;done)|exact ih (A:=A) (by lia) (by simp[dLe]) (by simp[dLe]) C u B x
  |_=>simp[dLe]at hd
end
section
variable{X:Cx}{a b c e:K8}{es:List K8}{te ta Y:TEd}{pos:Pos}{st:W8}{rest:List W8}{t u:TSd}
def pF:TSd:=λE a M=>E.nx a M
def zF(t u:TSd):TSd:=λE a M=>t { E with nx:=u E } a M
def DB(te:TEd):TSd:=λE a M=>te a M E.rt
def sG(te:TEd):TSd:=λE a M=>te a M λ_ M1=>E.nx a M1
def wA(c:TTd)(t u:TSd):TSd:=λE a M=>c a M λb M1=>if b=true then t E a M1 else u E a M1
def xp(i:Nat)(te:TEd):TSd:=λE a M=>te a M λd M1=>E.nx (a.set i (some d)) M1
def CF(i:Nat)(te:TEd)(r:D->D->Option D):TSd:=λE a M=>∃x,a[i]?=some (some x)/\te a M λy M1=>∃z,r (rdM M1 x) (rdM M1 y)=some z/\E.nx (a.set i (some z)) M1
def xy(i:Nat)(t:TSd):TSd:=λE b M=>∃a e,b[i]?=some (some (.ref a))/\M a=some (.lst e)/\t E (b.set i (some (.lst e))) (mQ M a)
abbrev GD:=D->DE->Option DE
def PGd(X:Cx)(G:K8)(g:GD):Prop:=∃h:TG,PG X G h/\∀(d:D) (v:V) (e:St) (f b:DE) (M:DH) (H:Hp) (Q:St->Hp->Prop),SR X.K M H e f->HR X.K M H->Rep X.K M H d v->g d f=some b->(∀ a,SR X.K M H a b->Q a H)->h v e H Q
def ck(i:Nat):GD:=λd a=>some (a.set i (some d))
theorem aR{i:Nat}{x:Str}(f:X.N.Nodup)(hi:X.N[i]?=some x)(g:Loc X.env.scope x)(b:X.fn x=true∨X.env.scope.names.lookup x=some .local:=by first|exact .inl rfl|exact .inr rfl|assumption):PGd X (.Name x pos) (ck i) :=
 ⟨pH i,sT f hi g b,λd v l m h M H Q a n j e k=>by cases e;exact k _ (a.set i j)⟩
abbrev GDs:=List D->DE->Option DE
def yV(X:Cx)(e:List K8)(g:GDs):Prop:=∃j:TGs,PGs X e j/\∀(l:List D) (h:List V) (f:St) (i b:DE) (M:DH) (H:Hp) (Q:St->Hp->Prop),SR X.K M H f i->HR X.K M H->aq X.K M H l h->g l i=some b->(∀ a,SR X.K M H a b->Q a H)->j h f H Q
def fD:GDs:=λa b=>match a with|[]=>some b|_=>none
def cg(g:GD)(e:GDs):GDs:=λf b=>match f with|[]=>none|d::r=>(g d b).bind λa=>e r a
def eX(g:GDs)(n:Nat):GD:=λd b=>match d with|.tup a=>if a.length=n then g a b else none|_=>none
theorem iV:yV X [] fD:=⟨Bh,sX,λf j h l g M H Q b i a e k=>by
 cases f with
 |nil=>simp only[aq]at a;subst a;cases e;exact⟨rfl,k _ b⟩
 |cons _ _=>cases e⟩
theorem bD{G:K8}{a:List K8}{g:GD}{m:GDs}(L:PGd X G g)(J:yV X a m)
  (w:(V5 (G::a) X.env).map (·.2)=aj8 G X.env::(V5 a X.env).map (·.2):=by rfl):yV X (G::a) (cg g m):=by
 obtain⟨s,z,A⟩:=L;obtain⟨t,I,x⟩:=J;refine⟨xJ s t,qv z I w,λB N C l f M H Q p j o e k=>?_⟩;cases B with
 |nil=>cases e
 |cons d r =>
  simp only[aq]at o;obtain⟨v,n,rfl,u,E⟩:=o;simp only[cg]at e;cases q:g d l with
  |none=>rw[q]at e;cases e
  |some b =>
   rw[q]at e;exact⟨v,n,rfl,A d v C l b M H _ p j u q λh i=>x r n h b f M H Q i j E e k⟩
theorem iS{b:List K8}{t:Nat}{g:GDs}{n:Nat}(B:X.calm=true)(h:yV X b g)(x:(V5 b X.env).length=n:=by rfl)(f:(V5 b X.env).findIdx? (·.1)=none:=by rfl):PGd X (.Tuple b t pos) (eX g n):=by
 obtain⟨A,z,C⟩:=h;refine⟨BQ X.K n A,wG B z x f,λd v s w i M H Q q u o e k=>?_⟩;cases d with
 |tup p =>
  simp only[eX]at e
  by_cases j:p.length=n
  ·rw[if_pos j]at e;simp only[Rep]at o;obtain⟨a,m,rfl,ta,l⟩:=o;exact⟨a,m,rfl,ta.sq,by rw[<-l.length];exact j,C p m s w i M H Q q u l e k⟩
  ·rw[if_neg j]at e;cases e
 |_=>cases e
def C6(te:TEd)(g:GD):TSd:=λE b M=>te b M λd M1=>∃ a,g d b=some a/\E.nx a M1
abbrev TId:=DE->DH->(List D->DH->Prop)->Prop
def ItD(K:E2)(J:It)(ds:List D)(M1:DH)(H1:Hp):Prop:=∀M2 H2,Ext M1 H1 M2 H2->HR K M2 H2->∀i,(∀d,ds[i]?=some d->J.go i H2/\∀x H',J.yld i H2 x H'->Ext M2 H2 M2 H'/\HR K M2 H'/\Rep K M2 H' d x)/\(ds.length<=i->J.stop i H2)
def upI(K:E2)(g:TId):TI:=λf H R=>∃(a:DE) (M:DH) (b:List D->DH->Prop),SR K M H f a/\HR K M H/\g a M b/\∀e M1 J H1,b e M1->Ext M H M1 H1->HR K M1 H1->ItD K J e M1 H1->R J H1
theorem upI.el{K:E2}{t:TId}{σ:St}{H:Hp}{Q:It->Hp->Prop}{P:Prop}(h:upI K t σ H Q)(f:∀(e:DE) (M:DH) (R:List D->DH->Prop),SR K M H σ e->HR K M H->t e M R->(∀ds M1 J H1,R ds M1->Ext M H M1 H1->HR K M1 H1->ItD K J ds M1 H1->Q J H1)->P):P:=by
 obtain⟨i,j,g,a,b,c,d⟩:=h;exact f i j g a b c d
def PId(X:Cx)(G B:K8)(a:TId):Prop:=PI X G B (upI X.K a)
theorem PI.conv{G B:K8}{w a:TI}(h:PI X G B w)(k:∀ σ H R,a σ H R->w σ H R):PI X G B a:=λp s σ H R I q=>h p s σ H R I (k σ H R q)
variable{G B:K8}
def mY(lo:Int)(n:Nat):List D:=(Q4 n).map λ(k:Nat)=>.int (lo+(k:Int))
theorem eT{lo:Int}{n i:Nat}{d:D}(h:(mY lo n)[i]?=some d):i<n/\d=.int (lo+i):=by
 unfold mY at h;rw[F4]at h
 by_cases a:i<n
 ·rw[List.getElem?_range a]at h;cases h;exact⟨a,rfl⟩
 ·rw[List.getElem?_eq_none (by simp;omega)]at h;cases h
theorem yh{K:E2}{lo:Int}{n:Nat}{M1:DH}{H1:Hp}:ItD K (Itr lo n) (mY lo n) M1 H1:=λM2 H2 h a i=>⟨λd b=>by
  obtain⟨g,rfl⟩:=eT b;refine⟨g,λx H' ⟨e,y⟩=>?_⟩;subst e;subst y;exact⟨Ext.refl _ _,a,by simp[Rep]⟩,λf=>by
  show n<=i;simpa[mY]using f⟩
def uS(ta:TAd):TId:=λa M R=>ta a M λb M1=>∃j:Int,b=[.int j]/\-(2 ^ 62)<=j/\j<2 ^ 62/\R (mY 0 j.toNat) M1
def bN(g:GD)(Y:TSd)(E:dP):List D->DE->DH->Prop
 |[],b,M=>E.nx b M
 |d::e,b,M=>∃ a,g d b=some a/\Y { E with nx:=bN g Y E e,ct:=bN g Y E e,bk:=E.nx } a M
def AM(b:TId)(g:GD)(Y:TSd):TSd:=λE a M=>b a M λe M1=>bN g Y E e a M1
def vp(c:TTd)(Y:TSd):TSd:=λE e M=>∃W:Nat->DE->DH->Prop,(∃m,W m e M)/\∀m e M,W m e M->c e M λb M1=>if b=true then Y { E with nx:=λa M'=>∃f,f<m/\W f a M',ct:=λa M'=>∃f,f<m/\W f a M',bk:=E.nx } e M1 else E.nx e M1
end
def sx:D->Prop
 |.tup a=>a.length<=F2
 |.lst a=>a.length<=F2
 |.scr a=>a.length<=F2
 |_=>True
section
variable{X:Cx}{a b c e:K8}{es:List K8}{te ta tb:TEd}{pos:Pos}{Y iter elt:K8}
theorem aM.len{K:E2}{g:List (F0×Obj)}{σ:St}{H:Hp}{s:E6}{M:DH}{d:D}{v:V}(I:Inv X g σ H s)(h:Rep X.K M H d v):sx d:=by
 cases d with
 |tup f =>
  simp only[Rep]at h;obtain⟨a,b,e,t,r⟩:=h;obtain⟨_,_,_,z⟩:=I.tuple t.sq;simp only[sx];rw[r.length];exact z
 |lst f =>
  simp only[Rep]at h;obtain⟨a,b,e,t,r⟩:=h;obtain⟨_,_,_,z⟩:=I.list (SqL.of t.1);simp only[sx];rw[r.length];exact z
 |scr f =>
  simp only[Rep]at h;obtain⟨a,b,e,t,r⟩:=h;obtain⟨_,_,_,z⟩:=I.list t.sq;simp only[sx];rw[r.length];exact z
 |_=>trivial
noncomputable def cx:List Bool->DE->DE
 |true::b,v::a=>v::cx b a
 |false::b,_::a=>none::cx b a
 |[],_::a=>none::cx [] a
 |_,[]=>[]
def qH(ms:List Bool)(k:Nat)(a:DE):DE:=cx ms a++F3 k none
theorem cZ:∀(ms:List Bool) (σ:DE),(cx ms σ).length=σ.length
 |true::ms,v::σ=>by simp[cx,cZ ms σ]
 |false::ms,_::σ=>by simp[cx,cZ ms σ]
 |[],_::σ=>by simp[cx,cZ [] σ]
 |[],[]=>by simp[cx]
 |true::_,[]=>by simp[cx]
 |false::_,[]=>by simp[cx]
theorem iE:∀{ms:List Bool}{σ:DE}{i:Nat}{v:D},(cx ms σ)[i]?=some (some v)->ms[i]?=some true/\σ[i]?=some (some v)
 |true::ms,v::σ,0,x,h=>by simpa[cx]using h
 |true::ms,v::σ,i+1,x,h=>by
  have:=iE (ms:=ms) (σ:=σ) (i:=i) (v:=x) (by simpa[cx]using h);simpa using this
 |false::ms,_::σ,0,x,h=>by simp[cx]at h
 |false::ms,_::σ,i+1,x,h=>by
  have:=iE (ms:=ms) (σ:=σ) (i:=i) (v:=x) (by simpa[cx]using h);simpa using this
 |[],_::σ,0,x,h=>by simp[cx]at h
 |[],_::σ,i+1,x,h=>by
  have:=iE (ms:=[]) (σ:=σ) (i:=i) (v:=x) (by simpa[cx]using h);simpa using this
 |[],[],_,_,h=>by simp[cx]at h
 |true::_,[],_,_,h=>by simp[cx]at h
 |false::_,[],_,_,h=>by simp[cx]at h
theorem jc:∀{ms:List Bool}{σ:St}{i:Nat}{v:V},ms[i]?=some true->σ[i]?=some (some v)->(bJ ms σ)[i]?=some (some v)
 |true::ms,v::σ,0,x,h,a=>by simpa[bJ]using a
 |true::ms,v::σ,i+1,x,h,a=>by
  have:=jc (ms:=ms) (σ:=σ) (i:=i) (v:=x) (by simpa using h) (by simpa using a);simpa[bJ]using this
 |false::ms,_::σ,0,x,h,a=>by simp at h
 |false::ms,_::σ,i+1,x,h,a=>by
  have:=jc (ms:=ms) (σ:=σ) (i:=i) (v:=x) (by simpa using h) (by simpa using a);simpa[bJ]using this
 |[],_,_,_,h,_=>by simp at h
 |_::_,[],_,_,_,h=>by simp at h
theorem SR.comp{K:E2}{M:DH}{H:Hp}{σ:St}{a:DE}(ms:List Bool)(k:Nat)(h:SR K M H σ a):SR K M H (iP ms k σ) (qH ms k a):=by
 refine⟨by simp[iP,qH,bL,cZ,h.1],λi d q=>?_⟩;unfold qH at q
 by_cases b:i<(cx ms a).length
 ·rw[L9 b]at q;obtain⟨m,e⟩:=iE q;obtain⟨v,f,g⟩:=h.2 i d e;refine⟨v,?_,g⟩;have:=jc m f;unfold iP;rw[L9 (by rw[bL,h.1,<-cZ ms];exact b)];exact this
 ·rw[V3 (by lia),W9]at q
  split at q<;>cases q
def dA(g:GD)(tc:TTd)(te:TEd):List D->DE->DH->List D->(List D->DH->Prop)->Prop
 |[],_,M,e,Q=>Q e M
 |d::f,h,M,e,Q=>∃ a,g d h=some a/\tc a M λb M1=>if b=true then te a M1 λy M2=>dA g tc te f a M2 (e++[y]) Q else dA g tc te f a M1 e Q
def dLc(ms:List Bool)(k:Nat)(e:TId)(g:GD)(tc:TTd)(te:TEd):TEd:=λa M Q=>e a M λb M1=>b.length<=F2/\dA g tc te b (qH ms k a) M1 [] λf M2=>Q (.lst f) M2
def CJ(X:Cx)(E:List K8)(t:TTd):Prop:=PIf X E (upT X.K t)
def xv:TTd:=λ_ M Q=>Q true M
abbrev nV(K:E2)(g:GD)(h:TG):Prop:=∀(d:D) (v:V) (e:St) (f b:DE) (M:DH) (H:Hp) (Q:St->Hp->Prop),SR K M H e f->HR K M H->Rep K M H d v->g d f=some b->(∀ a,SR K M H a b->Q a H)->h v e H Q
theorem zi{K:E2}{g:GD}{tc:TTd}{te:TEd}{O:TG}(kg:nV K g O){J:It}{ds:List D}{M1:DH}{H1:Hp}(it:ItD K J ds M1 H1)(M:HR K M1 H1)(hz:ds.length<=F2){R:List D->DH->Prop}{σ:St}{P:DE}(S:SR K M1 H1 σ P)(q:dA g tc te ds P M1 [] R):
  ∃(W:Nat->Nat->List V->St->Hp->Prop) (Z:List V->St->Hp->Prop),(∃m,W 0 m [] σ H1)/\kc J O (upT K tc) (mv (up K te)) W Z/\∀n j H',Z n j H'->∃M' a,Ext M1 H1 M' H'/\HR K M' H'/\aq K M' H' a n/\R a M':=by
 refine⟨λi m n j H'=>∃ o M' a,m=ds.length-i/\i<=ds.length/\Ext M1 H1 M' H'/\HR K M' H'/\SR K M' H' j o/\aq K M' H' a n/\a.length<=i/\dA g tc te (ds.drop i) o M' a R,_,
  ⟨ds.length,_,M1,[],by simp,P9 _,Ext.refl _ _,M,S,aq.nil,by simp,q⟩,?_,λ_ _ _ z=>z⟩
 rintro i m n G H2 ⟨L,M2,a,rfl,a0,C,w,I,A,la,p⟩;have hl:n.length<=F2:=by rw[<-A.length];lia
 refine⟨hl,?_⟩;obtain⟨go,stop⟩:=it M2 H2 C w i
 by_cases h:i<ds.length
 ·have hd:ds[i]?=some ds[i]:=by simp[h]
  obtain⟨U,y1⟩:=go _ hd;rw[aa5 h]at p;simp only[dA]at p;obtain⟨e,eg,X⟩:=p;refine .inr ⟨U,λx H' hy=>?_⟩;obtain⟨u,t,T⟩:=y1 x H' hy;refine kg _ x G L e M2 H' _ (I.ext u) t T eg λa1 f=>?_;refine⟨e,M2,_,f,t,X,λb Q H4 B l s=>?_⟩;cases b with
  |true =>
   simp only[if_true]at B ⊢;refine⟨e,Q,_,f.ext l,s,B,λy Y v5 H5 q5 N H E=>?_⟩;refine⟨ds.length-(i+1),by lia,e,Y,a++[y],rfl,h,((C.trans u).trans l).trans N,H,(f.ext l).ext N,(((A.ext u).ext l).ext N).append (aq.cons E aq.nil),by simp;lia,q5⟩
  |false =>
   simp only[F1,if_false]at B ⊢;exact⟨ds.length-(i+1),by lia,e,Q,a,rfl,h,(C.trans u).trans l,s,f.ext l,(A.ext u).ext l,by lia,B⟩
 ·rw[ac2 (by lia)]at p;exact .inl ⟨stop (by lia),M2,a,C,w,A,p⟩
theorem su{K:E2}{l:TId}{g:GD}{tc:TTd}{te:TEd}{j:TG}{ms:List Bool}{f:Nat}(n:nV K g j):
  ∀ σ H Q,up K (dLc ms f l g tc te) σ H Q->tLc ms f (upI K l) j (upT K tc) (up K te) σ H Q:=by
 rintro σ H Q ⟨C,M,R,h,m,q,k⟩;refine⟨C,M,_,h,m,q,λN M1 J H1 ⟨E,L⟩ i e w=>?_⟩;obtain⟨W,Z,B,t,u⟩:=zi n w e E ((h.ext i).comp ms f) L;refine⟨W,Z,B,t,λs o H' p z b=>?_⟩;obtain⟨M',I,A,a,G,x⟩:=u _ _ _ z;refine k _ M' _ _ x ((i.trans A).trans (Ext.new a b)) (a.new b) ?_;simp only[Rep];exact⟨p,s,rfl,⟨aY,a.fresh b⟩,G.ext (Ext.new a b)⟩
variable{B:ac4}{G:List (Str×F0)}{ms:List Bool}{ar:List Str}{E:List K8}
def PGa(X:Cx)(B:ac4)(G:List (Str×F0))(ar:List Str)(Y:K8)(g:GD):Prop:=∃a:TG,(∀C s H b,PG (aK X B G (X.N++ar) C s H b) Y a)/\nV X.K g a
theorem aL{i:Nat}{x:Str}{pos:Pos}(f:(X.N++ar).Nodup)(hi:(X.N++ar)[i]?=some x)(a:(relabel B X.env).names.lookup x=some .local):PGa X B G ar (.Name x pos) (ck i) :=
 ⟨pH i,λC s H n=>sT f hi (.inl a) (.inr a),λd v j l g M H Q b m h e k=>by cases e;exact k _ (b.set i h)⟩
end
abbrev SpD:=List D->DH->(D->DH->Prop)->Prop
def spD(K:E2)(n:Nat)(S:SpD):Sp:=λb H Q _=>∃(a:List D) (M:DH) (R:D->DH->Prop),a.length=n/\aq K M H a b/\HR K M H/\S a M R/\∀d M' v H',R d M'->Ext M H M' H'->HR K M' H'->Rep K M' H' d v->Q v H'
theorem yD{K:E2}{n:Nat}{S:SpD}{a:List V}{H:Hp}{Q:VK}{E:XK}(h:spD K n S a H Q E):a.length=n:=by
 obtain⟨e,M,R,b,r,_⟩:=h;rw[<-r.length];exact b
def gj(N:List Str)(ds:List D):DE:=ds.map some++F3 (N.length-ds.length) none
theorem qf{K:E2}{M:DH}{H:Hp}{N:List Str}:∀{ds:List D}{a:List V},aq K M H ds a->SR K M H (gz N a) (gj N ds):=by
 intro ds a h;have g:=h.length;refine⟨by simp[gz,gj,g],λi d q=>?_⟩;unfold gj at q
 by_cases b:i<ds.length
 ·rw[L9 (by simpa using b),F4]at q;cases e:ds[i]? with
  |none=>rw[e]at q;cases q
  |some l =>
   rw[e]at q;cases q;obtain⟨v,f,j⟩:=h.get e;refine⟨v,?_,j⟩;unfold gz;rw[L9 (by simp;lia),F4,f];rfl
 ·rw[V3 (by simpa using b),W9]at q
  split at q<;>cases q
section
variable{P:K3}{w:Q5}{K:E2}{y:Str->Option E1}{base:J6}{f:F0}{g:J7}
theorem Fun.okD{x b:Str}{st:W8}{f:F0}{g:J7}{N ps:List Str}{k n:Nat}{S:SpD}(F:Fun K x b st f g)(I:ps.length=n)(B:ay N ps (ak st))
  (l:∀ (e:E1) (A:M9) (a:List Env) (s:E6) (H:Hp) (E:XK),cc k (A.deeper (ab4 b (ak st) s.heap.objs.size f e)) →
   ∃t:TSd,xZ (jq CX0 P w K y base N b (ak st) f e A a s H E).nox (cD st) t/\∀ds M R,ds.length=n->S ds M R->t { nx:=λ_ M'=>R .non M',rt:=R } (gj N ds) M):aU P w K y base CX0 (k+1) f g ps (spD K n S):=by
 refine F.ok B (λO H Q E h=>by rw[I];exact yD h) (λe A a s H O Q E u h=>?_);obtain⟨t,J,L⟩:=l e A a s H E u;obtain⟨ds,M,R,G,r,o,q,p⟩:=h;refine⟨_,J,gj N ds,M,_,qf r,o,L ds M R G q,⟨λC M' z H' j m i _=>p .non M' .non H' j m i (by simp[Rep]),λ_ _ _ _ j=>S1 j,λ_ _ _ _ j=>S1 j,λd M' v H' j m i T=>p d M' v H' j m i T⟩⟩
end
section
variable{X:Cx}{a b c e:K8}{g:List K8}{te y z:TEd}{t:TAd}{pos:Pos}
def qD(n:Nat)(S:SpD)(t:TAd):TEd:=λb M Q=>t b M λa M1=>a.length=n/\S a M1 Q
theorem Bv{k:Nat}{f:F0}{j:J7}{ps:List Str}{n:Nat}{S:SpD}{x:Str}{p:Pos}(F:aU X.prog X.w X.K X.mg X.base CX0 k f j ps (spD X.K n S))(hr:cc k X.A)(hg:Gl X x)(s:X.mg x=some (.ref f))(E:T8 X.K (.ref f)=true)(C:cQ X.K j ps [])
  (ha:PAd X (e::g) t) (hdb:(x==("__debug__":Str))=false:=by decide) (he:E9 (e::g) X.env=(false,X7 e X.env)::E9 g X.env:=by rfl) (hpl:(U3 pos (E9 g X.env)).any (·.1)=false:=by rfl) :
  PEd X (.Call (.Name x p) (e::g) [] pos) (qD n S t) :=
 (tF F hr hg s E C .nil Dt ha hdb he hpl).conv λI H Q a => a.el λu M R l hr q k => ⟨u,M,_,l,hr,q,λB M1 J H1 ⟨z,w⟩ m h G => by
  dsimp only;rw[S3];exact⟨B,M1,R,z,G,h,w,λd M' v H' o A b i=>k d M' v H' o (m.trans A) b i⟩⟩
def B0(g h te:TEd):TSd:=λE b M=>te b M λd M1=>g b M1 λo M2=>h b M2 λi f=>∃a e k j,o=.ref a/\i=.int k/\f a=some (.lst e)/\ixN e.length k=some j/\E.nx b (aG f a (.lst (e.set j d)))
def zr(f te:TEd):TEd:=λe M Q=>f e M λo M1=>∃a l,o=.ref a/\M1 a=some (.lst l)/\te e M1 λd M2=>∃b,M2 a=some (.lst b)/\b.length<F2/\Q .non (aG M2 a (.lst (b++[d])))
end
def ItW(n:Nat)(a:Nat->V->Prop):It:=⟨λi _=>i<n,λi H x H'=>H'=H/\a i x,λi _=>n<=i⟩
theorem tY{P:K3}{w:Q5}{K:E2}{tg:K8}{it:F0}{n:Nat}{U:Nat->E1->Prop}{St:Nat->J6->Prop}{ty:String}{R:Nat->V->Prop}
  (W:∀A:M9,A.handled=none->Walks P w A it [it] [it] n U St) (S:∀i h,St i h->∃o,h.get? it=some o/\o.cls=.type ty/\∃O,o.data=.fields O)
  (hn:["enumerate","zip","dict_itemiterator","dict_reverseitemiterator","odict_iterator","itertools.zip_longest","itertools.pairwise"].contains ty=false)
  (Z:∀i u,U i u->∃x,aO x u/\R i x) (a:∀(A:M9) (i:Nat) (s:E6) (Q:E1->E6->Prop) (E:E1->E6->Prop),St i s.heap->Q (.ref it) s->H0 (K7 P w) A (ap0 (.ref it)) Q E s):oV P w K tg (ItW n R) [it] it (λi h=>i<=n/\St i h) where
 mem:=by simp
 obj:=λi h st b f=>by
  have e:b=it:=by simpa using f
  subst e;obtain⟨o,e,c,O,d⟩:=S i h st.2;exact⟨o,e,λv z=>by rw[d]at z;cases z⟩
 keep:=λi h g st k=>⟨st.1,(W { handled:=none } rfl).frame i h g st.2 k⟩
 item:=by
  intro X M C hK t i T s Y H E I l st m;subst M C hK;obtain⟨p,L,f2,q,G,N⟩:=l it (by simp);refine(W X.A (I.ok.hd t)).item i s _ _ m st.2 λv g B pv j J=>?_;have I1:Inv X T Y H { s with heap:=g,toks:=B }:=I.turned (λb o f e=>J b o (by simpa using f) e) p L q G N;obtain⟨x,rx,vx⟩:=Z i v pv;obtain⟨o,e,c,O,d⟩:=S _ _ j;exact⟨v,rfl,sZ (s:={ s with heap:=g,toks:=B }) e c d hn ⟨x,H,I1,rx,⟨rfl,vx⟩,⟨m,j⟩,λb f=>(l b f).1⟩⟩
 done:=by
  intro X M C hK t i T s Y H E I l st m;subst M C hK;obtain⟨p,L,f2,q,G,N⟩:=l it (by simp);have e:i=n:=Nat.le_antisymm st.1 m;subst e;exact(W X.A (I.ok.hd t)).done s _ _ st.2 λg B J=>⟨rfl,I.turned (λb o f e=>J b o (by simpa using f) e) p L q G N⟩
 self:=λA i s Q E st h=>a A i s Q E st.2 h
section
variable{X:Cx}{a b c e:K8}{z:List K8}{te B G:TEd}{t:TAd}{pos:Pos}{y g:K8}
noncomputable def fT(x:Str):List D:=x.cps.toList.map λc=>.str ⟨#[c]⟩
theorem sE{f:List (F0×Obj)}{σ:St}{H:Hp}{s:E6}{x:Str}{t:Tok}{R:It->Hp->Prop}(I:Inv X f σ H s)(ty:String)(j:["enumerate","zip","dict_itemiterator","dict_reverseitemiterator","odict_iterator","itertools.zip_longest","itertools.pairwise"].contains ty=false)
  (W:∀A:M9,A.handled=none->Walks X.prog X.w A s.heap.objs.size [s.heap.objs.size] [s.heap.objs.size] x.cps.size (SignAt x) (λi h=>h.IsStrIter s.heap.objs.size ty x t i))
  (a:∀(A:M9) (i:Nat) (s':E6) (Q:E1->E6->Prop) (E:E1->E6->Prop),s'.heap.IsStrIter s.heap.objs.size ty x t i->Q (.ref s.heap.objs.size) s'->H0 (K7 X.prog X.w) A (ap0 (.ref s.heap.objs.size)) Q E s')
  (q:R (ItW x.cps.size λi v=>∃c,x.cps[i]?=some c/\v=.str ⟨#[c]⟩) H):PIE X f σ y R (.ref s.heap.objs.size) { s with heap:=s.heap.push { cls:=.type ty,data:=.fields #[.str x t,.int 0 0] } }:=by
 have m:Inv X f σ H { s with heap:=s.heap.push { cls:=.type ty,data:=.fields #[.str x t,.int 0 0] } }:=I.kept (t':=s.toks) λb o e=>u8 _ e;refine⟨s.heap.objs.size,[s.heap.objs.size],_,_,H,rfl,m,tY W (λi h st=>?_) j (λi u ⟨c,g,e,l⟩=>⟨.str ⟨#[c]⟩,⟨g,l⟩,c,e,rfl⟩) a,⟨P9 _,_,F9 _ rfl,rfl,rfl⟩,λb n=>?_,q⟩
 ·obtain⟨o,e,c,d⟩:=st;exact⟨o,e,c,_,d⟩
 ·have e:b=s.heap.objs.size:=by simpa using n
  subst e;exact I.fpOk (F5 _) (I.hok.fresh (F5 _))
end
section
variable{X:Cx}{a b c e:K8}{B:List K8}{te E G:TEd}{t:TAd}{pos:Pos}
def eqF(x y:D):Option D:=if dLe x 60=true/\dLe y 60=true then some (.bl (eqD x y))else none
theorem uX{x y z:D}(h:eqF x y=some z):dLe x 60=true/\dLe y 60=true/\z=.bl (eqD x y):=by
 unfold eqF at h
 by_cases a:dLe x 60=true/\dLe y 60=true
 ·rw[if_pos a]at h;cases h;exact⟨a.1,a.2,rfl⟩
 ·rw[if_neg a]at h;cases h
theorem fb(f:X.A.units+64<ao2):bB X (L8 .Eq) eqF:=by
 intro h s g H M x y v u dx dy dz Q I hr rx ry r1 r2 e k;obtain⟨b,a,rfl⟩:=uX e;exact(qL I 60 (A:=X.A) (by lia) b a r1 r2 rx ry).2.1 X.prog X.w X.xe _ ⟨.bl (eqD dx dy),H,I,rfl,k _ H (Ext.refl _ _) hr (by simp[Rep])⟩
def inD(a:Bool)(x y:D):Option D:=match y with
 |.lst b=>if br x=true/\b.all br=true then some (.bl (xor a (b.any λd=>eqD d x)))else none
 |.tup b=>if br x=true/\b.all br=true then some (.bl (xor a (b.any λd=>eqD d x)))else none
 |_=>none
theorem AG{K:E2}{M:DH}{H:Hp}{d:D}{v:V}(h:br d=true)(r:Rep K M H d v):v=toV d/\gX v=true:=by
 cases d<;>first|(simp only[Rep]at r;subst r;exact⟨rfl,rfl⟩)|cases h
theorem yn{x y:D}(a:br x=true)(b:br y=true):eqV (toV x) (toV y)=eqD x y:=by
 cases x<;>cases y<;>first|(simp[br]at a;done)|(simp[br]at b;done)|(simp[toV,eqV,eqD];done)
theorem gZ{K:E2}{M:DH}{H:Hp}{x:D}(f:br x=true):∀{ds:List D}{b:List V},aq K M H ds b->ds.all br=true->b.all gX=true/\inV (toV x) b=ds.any λd=>eqD d x
 |[],_,h,_=>by simp only[aq]at h;subst h;simp[inV]
 |d::ds,_,h,a=>by
  simp only[aq]at h;obtain⟨v,n,rfl,i,j⟩:=h;rw[V7,J9]at a;obtain⟨g,m⟩:=AG a.1 i;obtain⟨l,e⟩:=gZ f j a.2;subst g;refine⟨by rw[V7,m,l];rfl,?_⟩;unfold inV at e ⊢;rw[X0,X0,e,yn a.1 f]
theorem aM.scal{K:E2}{M:DH}{H:Hp}{d:D}{v:V}(h:br d=true)(r:aM K M H d v):v=toV d/\gX v=true:=by
 cases d<;>first|(simp only[aM,Rep]at r;subst r;exact⟨rfl,rfl⟩)|cases h
theorem Ey:bB X (L8 .In) (inD false):=bB.of uw λH M x y p t u Q n o s e q=>by
 cases t with
 |lst g =>
  simp only[inD]at e
  by_cases a:br p=true/\g.all br=true
  ·rw[if_pos a]at e;cases e;obtain⟨l,j,rfl,sq,i⟩:=s;obtain⟨b,m⟩:=aM.scal a.1 o;obtain⟨f,h⟩:=gZ a.1 i a.2;subst b;refine⟨l,j,rfl,.inl (SqL.of sq),m,f,q _ H (Ext.refl _ _) n ?_⟩;rw[h];simp[Rep]
  ·rw[if_neg a]at e;cases e
 |tup g =>
  simp only[inD]at e
  by_cases a:br p=true/\g.all br=true
  ·rw[if_pos a]at e;cases e;obtain⟨l,j,rfl,sq,i⟩:=s;obtain⟨b,m⟩:=aM.scal a.1 o;obtain⟨f,h⟩:=gZ a.1 i a.2;subst b;refine⟨l,j,rfl,.inr sq,m,f,q _ H (Ext.refl _ _) n ?_⟩;rw[h];simp[Rep]
  ·rw[if_neg a]at e;cases e
 |_=>cases e
theorem zl:bB X (L8 .NotIn) (inD true):=bB.of oU λH M x y p t u Q n o s e q=>by
 cases t with
 |lst g =>
  simp only[inD]at e
  by_cases a:br p=true/\g.all br=true
  ·rw[if_pos a]at e;cases e;obtain⟨l,j,rfl,sq,i⟩:=s;obtain⟨b,m⟩:=aM.scal a.1 o;obtain⟨f,h⟩:=gZ a.1 i a.2;subst b;refine⟨l,j,rfl,.inl (SqL.of sq),m,f,q _ H (Ext.refl _ _) n ?_⟩;rw[h];simp[Rep]
  ·rw[if_neg a]at e;cases e
 |tup g =>
  simp only[inD]at e
  by_cases a:br p=true/\g.all br=true
  ·rw[if_pos a]at e;cases e;obtain⟨l,j,rfl,sq,i⟩:=s;obtain⟨b,m⟩:=aM.scal a.1 o;obtain⟨f,h⟩:=gZ a.1 i a.2;subst b;refine⟨l,j,rfl,.inr sq,m,f,q _ H (Ext.refl _ _) n ?_⟩;rw[h];simp[Rep]
  ·rw[if_neg a]at e;cases e
 |_=>cases e
def m9(f:D->Option D):List D->Option D
 |[d]=>f d
 |_=>none
theorem kE{K:E2}{M:DH}{H:Hp}{d:D}{xs:List V}(h:ac0 (aM K M H) [d] xs):∃v,xs=[v]/\aM K M H d v:=by
 cases h with
 |cons r t=>cases t;exact⟨_,rfl,r⟩
theorem cK{f:D->Option D}{ds:List D}{z:D}(h:m9 f ds=some z):∃d,ds=[d]/\f d=some z:=by
 match ds,h with
 |[d],h=>exact⟨d,rfl,h⟩
noncomputable def qX:D->Option D
 |.tup a=>some (.int a.length)
 |.lst a=>some (.int a.length)
 |.scr a=>some (.int a.length)
 |.str x=>if x.length<=F2 then some (.int x.length)else none
 |_=>none
theorem ba:bE X (.builtin "len") (m9 qX):=bE.of (cL.or o3 pb) λH M n g m Q f j e q=>by
 obtain⟨d,rfl,i⟩:=cK e;clear e;have e:=i;clear i;obtain⟨v,rfl,r⟩:=kE j;cases d with
 |tup g=>cases e;obtain⟨l,b,rfl,sq,a⟩:=r;exact .inl ⟨l,b,rfl,.inr sq,q _ H (Ext.refl _ _) f (by rw[<-a.length];simp[Rep])⟩
 |lst g=>cases e;obtain⟨l,b,rfl,sq,a⟩:=r;exact .inl ⟨l,b,rfl,.inl (SqL.of sq),q _ H (Ext.refl _ _) f (by rw[<-a.length];simp[Rep])⟩
 |scr g=>cases e;obtain⟨l,b,rfl,sq,a⟩:=r;exact .inl ⟨l,b,rfl,.inl sq,q _ H (Ext.refl _ _) f (by rw[<-a.length];simp[Rep])⟩
 |str x =>
  simp only[qX]at e
  by_cases h:x.length<=F2
  ·rw[if_pos h]at e;cases e;exact .inr ⟨x,by rw[mG r],h,q _ H (Ext.refl _ _) f (by simp[Rep])⟩
  ·rw[if_neg h]at e;cases e
 |_=>cases e
def DF:D->Option D
 |.int i=>some (.int (if i<0 then -i else i))
 |_=>none
theorem B1:bE X (.builtin "abs") (m9 DF):=bE.of vt λH M h j g Q b f e q=>by
 obtain⟨d,rfl,a⟩:=cK e;clear e;have e:=a;clear a;obtain⟨v,rfl,r⟩:=kE f;cases d with
 |int i=>cases e;exact⟨i,by rw[fQ r],q _ H (Ext.refl _ _) b (by simp[Rep])⟩
 |_=>cases e
def AH:D->Option D
 |.lst a=>some (.tup a)
 |.tup a=>some (.tup a)
 |_=>none
theorem bW:bE X (.type "tuple") (m9 AH):=bE.of mR λH M o g n Q a m e q=>by
 obtain⟨d,rfl,f⟩:=cK e;clear e;have e:=f;clear f;obtain⟨v,rfl,r⟩:=kE m;cases d with
 |lst g=>cases e;obtain⟨l,b,rfl,sq,h⟩:=r;exact⟨l,b,rfl,.inl ⟨SqL.of sq,λp j=>lr a j h q⟩⟩
 |tup g=>cases e;have i:=aM.tup a r;obtain⟨l,b,rfl,sq,h⟩:=r;exact⟨l,b,rfl,.inr ⟨sq,q _ H (Ext.refl _ _) a i⟩⟩
 |_=>cases e
def Cp:D->Option D
 |.lst a=>some (.lst a)
 |.scr a=>some (.lst a)
 |.tup a=>some (.lst a)
 |_=>none
theorem i8:bE X (.type "list") (m9 Cp):=bE.of jA λH M n h m Q g j e q=>by
 obtain⟨d,rfl,i⟩:=cK e;clear e;have e:=i;clear i;obtain⟨v,rfl,r⟩:=kE j;cases d with
 |lst h=>cases e;obtain⟨l,f,rfl,sq,b⟩:=r;exact⟨l,f,rfl,.inl (SqL.of sq),λp a=>eO g a b q⟩
 |scr h=>cases e;obtain⟨l,f,rfl,sq,b⟩:=r;exact⟨l,f,rfl,.inl sq,λp a=>eO g a b q⟩
 |tup h=>cases e;obtain⟨l,f,rfl,sq,b⟩:=r;exact⟨l,f,rfl,.inr sq,λp a=>eO g a b q⟩
 |_=>cases e
def kR:D->Bool
 |.bl _=>true
 |_=>false
def iH:D->Bool
 |.bl b=>b
 |_=>false
def pC:D->Option D
 |.lst a=>if a.all kR=true then some (.bl (a.all iH))else none
 |_=>none
def wR:D->Option D
 |.lst a=>if a.all kR=true then some (.bl (a.any iH))else none
 |_=>none
theorem uN{p:Nat->Bool}{q:D->Bool}:∀{ds:List D},(∀i d,ds[i]?=some d->p i=q d)->(Q4 ds.length).all p=ds.all q:=by
 intro ds h;rw[P6,N3,N3];constructor
 ·intro b d f;obtain⟨i,a,e⟩:=U8.mp f;rw[<-h i d (by rw[E4 a,e])];exact b i (aa2.mpr a)
 ·intro b i a;have a:=aa2.mp a;rw[h i ds[i] (by simp[a])];exact b _ (P0 a)
theorem nv{p:Nat->Bool}{q:D->Bool}:∀{ds:List D},(∀i d,ds[i]?=some d->p i=q d)->(Q4 ds.length).any p=ds.any q:=by
 intro ds h;rw[P6,ac1,ac1];constructor
 ·rintro⟨i,a,g⟩;have a:=aa2.mp a;exact⟨ds[i],P0 a,by rw[<-h i ds[i] (by simp[a])];exact g⟩
 ·rintro⟨d,b,f⟩;obtain⟨i,a,e⟩:=U8.mp b;exact⟨i,aa2.mpr a,by rw[h i d (by rw[E4 a,e])];exact f⟩
theorem l8{K:E2}{M:DH}{H:Hp}{ds:List D}{l:List V}{us:List E1}(j:aq K M H ds l)(m:aA l us)(n:ds.all kR=true){i:Nat}{u:E1}(h:us[i]?=some u):∃d,ds[i]?=some d/\u=.bool (iH d):=by
 have e:i<ds.length:=by rw[j.length,m.length];exact(J8.mp h).1
 obtain⟨v,g,r⟩:=j.get (i:=i) (d:=ds[i]) (by simp[e]);obtain⟨p,f,o⟩:=m.get g;rw[h]at f;cases f;have a:=N3.mp n ds[i] (P0 e);refine⟨ds[i],by simp[e],?_⟩;cases q:ds[i]with
 |bl b=>rw[q]at r;simp only[Rep]at r;subst r;exact o
 |_=>rw[q]at a;cases a
theorem pB(J:X.calm=true):bE X (.builtin "all") (m9 pC):=by
 intro B s E H M Y P h R Q I z f G e k;obtain⟨d,rfl,n⟩:=cK e;clear e;have e:=n;clear n;obtain⟨v,rfl,r⟩:=kE G;obtain⟨u,rfl,O⟩:=aA.one f;cases d with
 |lst h =>
  simp only[pC]at e
  by_cases j:h.all kR=true
  ·rw[if_pos j]at e;cases e;obtain⟨l,Z,rfl,sq,p⟩:=r;cases O;obtain⟨a,f,t,U⟩:=I.list (SqL.of sq);have g:l≠s.heap.objs.size:=K4 (I.hok.lt sq);refine call_all_walk (U2 t.isList ⟨s.heap.objs.size,[s.heap.objs.size,l],[s.heap.objs.size],a.toArray.size,_,_,λi=>(h[i]?.map iH).getD false,rfl,Walks.list (A:=X.A.in1) (show X.A.in1.handled=none from I.ok.hd J) s.heap.objs.size l g a.toArray,⟨⟨_,F9 _ rfl,rfl,rfl⟩,?_⟩,λi v s' T S x q=>?_,λC w N=>?_⟩)
   ·obtain⟨o,e,c⟩:=t.isList;exact⟨o,u8 _ e,c⟩
   ·obtain⟨d,m,rfl⟩:=l8 p f j (i:=i) (u:=v) (by simpa using x);dsimp only at q;rw[m]at q;exact O2 q
   ·have L:Inv X B E H { s with heap:=C,toks:=w }:=I.kept (t':=w) λb o e=>N b o (by simpa using K4 (F8 e)) (u8 _ e);refine⟨.bl _,H,L,rfl,k _ H (Ext.refl _ _) z ?_⟩;rw[E8,<-f.length,<-p.length,uN (q:=iH) (λi d m=>by simp[m])];simp[Rep]
  ·rw[if_neg j]at e;cases e
 |_=>cases e
theorem z9(J:X.calm=true):bE X (.builtin "any") (m9 wR):=by
 intro B s E H M Y P h R Q I z f G e k;obtain⟨d,rfl,n⟩:=cK e;clear e;have e:=n;clear n;obtain⟨v,rfl,r⟩:=kE G;obtain⟨u,rfl,O⟩:=aA.one f;cases d with
 |lst h =>
  simp only[wR]at e
  by_cases j:h.all kR=true
  ·rw[if_pos j]at e;cases e;obtain⟨l,Z,rfl,sq,p⟩:=r;cases O;obtain⟨a,f,t,U⟩:=I.list (SqL.of sq);have g:l≠s.heap.objs.size:=K4 (I.hok.lt sq);refine call_any_walk (U2 t.isList ⟨s.heap.objs.size,[s.heap.objs.size,l],[s.heap.objs.size],a.toArray.size,_,_,λi=>(h[i]?.map iH).getD false,rfl,Walks.list (A:=X.A.in1) (show X.A.in1.handled=none from I.ok.hd J) s.heap.objs.size l g a.toArray,⟨⟨_,F9 _ rfl,rfl,rfl⟩,?_⟩,λi v s' T S x q=>?_,λC w N=>?_⟩)
   ·obtain⟨o,e,c⟩:=t.isList;exact⟨o,u8 _ e,c⟩
   ·obtain⟨d,m,rfl⟩:=l8 p f j (i:=i) (u:=v) (by simpa using x);dsimp only at q;rw[m]at q;exact O2 q
   ·have L:Inv X B E H { s with heap:=C,toks:=w }:=I.kept (t':=w) λb o e=>N b o (by simpa using K4 (F8 e)) (u8 _ e);refine⟨.bl _,H,L,rfl,k _ H (Ext.refl _ _) z ?_⟩;rw[E8,<-f.length,<-p.length,nv (q:=iH) (λi d m=>by simp[m])];simp[Rep]
  ·rw[if_neg j]at e;cases e
 |_=>cases e
end
section
variable{X:Cx}{a b c e:K8}{g:List K8}{te y B:TEd}{t:TAd}{pos:Pos}
noncomputable def yo(T:String):D->Option Bool
 |.non=>some false
 |.bl _=>some (T=="bool" || T=="int")
 |.int _=>some (T=="int")
 |.str _=>some (T=="str")
 |.tup _=>some (T=="tuple")
 |.lst _=>some (T=="list")
 |.emp=>some (T=="dict")
 |_=>none
def okT(T:String):Bool:=T=="bool" || T=="int" || T=="str" || T=="tuple" || T=="list"
def B6(T:String)(te:TEd):TEd:=λa M Q=>te a M λd M1=>∃k,yo T (rdM M1 d)=some k/\Q (.bl k) M1
theorem ux{T:String}(B:okT T=true){z:List (F0×Obj)}{s:E6}{σ:St}{H:Hp}{M:DH}{v:V}{u:E1}{d:D}{k:Bool}{Q:VK}(I:Inv X z σ H s)(r:aO v u)(rd:aM X.K M H d v)(e:yo T d=some k)(q:Q (.bl k) H):
  H0 (K7 X.prog X.w) X.A (aq5 (.builtin "isinstance") [u,.type T]) (EP X z σ Q) X.xe s:=by
 have l:∀{k'} ,k=k'->EP X z σ Q (.bool k') s:=λe=>by subst e;exact⟨.bl k,H,I,rfl,q⟩
 have f:∀{k'} ,k=k'->EP X z σ Q (.bool k') { s with toks:=s.toks+1 }:=λe=>by subst e;exact⟨.bl k,H,I.tok _,rfl,q⟩
 have p:T="bool"∨T="int"∨T="str"∨T="tuple"∨T="list":=by
  simp[okT]at B;rcases B with(((h|h)|h)|h)|h<;>simp[h]
 cases d with
 |non =>
  simp only[aM,Rep]at rd;subst rd;simp only[aO]at r;subst r;cases e;rcases p with rfl|rfl|rfl|rfl|rfl
  ·exact IsiPair.NoneType_bool (f rfl)
  ·exact IsiPair.NoneType_int (f rfl)
  ·exact IsiPair.NoneType_str (f rfl)
  ·exact IsiPair.NoneType_tuple (f rfl)
  ·exact IsiPair.NoneType_list (f rfl)
 |bl b =>
  simp only[aM,Rep]at rd;subst rd;simp only[aO]at r;subst r;cases e;rcases p with rfl|rfl|rfl|rfl|rfl
  ·exact IsiPair.bool_bool (l rfl)
  ·exact IsiPair.bool_int (l rfl)
  ·exact IsiPair.bool_str (f rfl)
  ·exact IsiPair.bool_tuple (f rfl)
  ·exact IsiPair.bool_list (f rfl)
 |int i =>
  simp only[aM,Rep]at rd;subst rd;obtain⟨t,rfl⟩:=r;cases e;rcases p with rfl|rfl|rfl|rfl|rfl
  ·exact IsiPair.int_bool (f rfl)
  ·exact IsiPair.int_int (l rfl)
  ·exact IsiPair.int_str (f rfl)
  ·exact IsiPair.int_tuple (f rfl)
  ·exact IsiPair.int_list (f rfl)
 |str x =>
  simp only[aM,Rep]at rd;subst rd;obtain⟨t,rfl⟩:=r;cases e;rcases p with rfl|rfl|rfl|rfl|rfl
  ·exact IsiPair.str_bool (f rfl)
  ·exact IsiPair.str_int (f rfl)
  ·exact IsiPair.str_str (l rfl)
  ·exact IsiPair.str_tuple (f rfl)
  ·exact IsiPair.str_list (f rfl)
 |tup E =>
  obtain⟨a,J,rfl,sq,G⟩:=rd;cases r;cases e;obtain⟨A,L,⟨o,j,m,_⟩,_⟩:=I.tuple sq;rcases p with rfl|rfl|rfl|rfl|rfl
  ·exact IsiPair.tuple_bool j m (f rfl)
  ·exact IsiPair.tuple_int j m (f rfl)
  ·exact IsiPair.tuple_str j m (f rfl)
  ·exact IsiPair.tuple_tuple j m (l rfl)
  ·exact IsiPair.tuple_list j m (f rfl)
 |lst E =>
  obtain⟨a,J,rfl,sq,G⟩:=rd;cases r;cases e;obtain⟨A,L,⟨o,n,j,m,_⟩,_⟩:=I.list (SqL.of sq);rcases p with rfl|rfl|rfl|rfl|rfl
  ·exact IsiPair.list_bool j m (f rfl)
  ·exact IsiPair.list_int j m (f rfl)
  ·exact IsiPair.list_str j m (f rfl)
  ·exact IsiPair.list_tuple j m (f rfl)
  ·exact IsiPair.list_list j m (l rfl)
 |emp =>
  simp only[aM,Rep]at rd;obtain⟨a,rfl,N,_⟩:=rd;cases r;cases e;obtain⟨_,_,_,_,o,g,O,j,w,_⟩:=I.hok a _ N;rcases p with rfl|rfl|rfl|rfl|rfl
  ·exact IsiPair.dict_bool j w.1 (f rfl)
  ·exact IsiPair.dict_int j w.1 (f rfl)
  ·exact IsiPair.dict_str j w.1 (f rfl)
  ·exact IsiPair.dict_tuple j w.1 (f rfl)
  ·exact IsiPair.dict_list j w.1 (f rfl)
 |_=>cases e
abbrev TOd:=DE->DH->(Option Int->DH->Prop)->Prop
def upO(K:E2)(t:TOd):TO:=λb H Q=>∃(a:DE) (M:DH) (R:Option Int->DH->Prop),SR K M H b a/\HR K M H/\t a M R/\∀i M' H',R i M'->Ext M H M' H'->HR K M' H'->Q i H'
theorem upO.el{K:E2}{t:TOd}{σ:St}{H:Hp}{Q:Option Int->Hp->Prop}{P:Prop}(h:upO K t σ H Q)(f:∀(e:DE) (M:DH) (R:Option Int->DH->Prop),SR K M H σ e->HR K M H->t e M R->(∀i M' H',R i M'->Ext M H M' H'->HR K M' H'->Q i H')->P):P:=by
 obtain⟨j,l,g,a,b,c,d⟩:=h;exact f j l g a b c d
def POd(X:Cx)(e:Option K8)(t:TOd):Prop:=PO X e (upO X.K t)
def oy:TOd:=λ_ M Q=>Q none M
def vV(t:TEd):TOd:=λa M Q=>t a M λd M1=>∃i,d=.int i/\Q (some i) M1
theorem PO.conv{e:Option K8}{t t':TO}(h:PO X e t)(k:∀ σ H Q,t' σ H Q->t σ H Q):PO X e t':=λp s σ H Q I q=>h p s σ H Q I (k σ H Q q)
theorem zA:POd X none oy:=yR.conv λf H Q a=>a.el λg M R e b q k=>k none M H q (Ext.refl _ _) b
theorem xQ(h:PEd X e te):POd X (some e) (vV te):=(yY h).conv λp H Q a=>a.el λm M R f g q k=>⟨m,M,_,f,g,q,λd M1 v H1 ⟨i,l,o⟩ j b n=>⟨i,by subst l;simpa only[Rep]using n,k _ M1 H1 o j b⟩⟩
def cY(xs:List D)(lo hi:Option Int):List D:=(xs.drop (HT.sIx xs.length 0 lo)).take (HT.sIx xs.length xs.length hi-HT.sIx xs.length 0 lo)
def slD:D->Option Int->Option Int->Option D
 |.lst a,lo,b=>some (.lst (cY a lo b))
 |.scr a,lo,b=>some (.lst (cY a lo b))
 |.str x,lo,b=>if x.length<=F2 then some (.str (am5 x lo b))else none
 |.tup a,lo,b=>if HT.sIx a.length 0 lo=0/\HT.sIx a.length a.length b=a.length then none else some (.tup (cY a lo b))
 |_,_,_=>none
def En:V->Option Int->Option Int->Hp->VK->Prop:=λx lo a H Q=>∃z,x=.str z/\z.length<=F2/\Q (.str (am5 z lo a)) H
theorem AI:SlR X En:=by
 intro n s o H x v vl vu lo hi sl Q I rx hs pl pu h;obtain⟨z,rfl,b,q⟩:=h;obtain⟨t,rfl⟩:=rx;refine⟨"str",_,PySem.F.slot_str_getitem.lookup,typeIs_str _ _ _,?_⟩;have a:∀(e:Tok) (k:Nat),EP X n o Q (.str (am5 z lo hi) e) { s with toks:=k }:=λe k=>⟨.str (am5 z lo hi),H,I.tok _,⟨e,rfl⟩,q⟩;cases pl with
 |none =>
  cases pu with
  |none=>exact ab6 (l:=none) (u:=none) (st:=none) hs rfl (aj0 ⟨Q8 (am6 z _ _) b,a⟩)
  |int j f=>exact ab6 (l:=none) (u:=some (j,f)) (st:=none) hs rfl (aj0 ⟨Q8 (am6 z _ _) b,a⟩)
 |int i g =>
  cases pu with
  |none=>exact ab6 (l:=some (i,g)) (u:=none) (st:=none) hs rfl (aj0 ⟨Q8 (am6 z _ _) b,a⟩)
  |int j f=>exact ab6 (l:=some (i,g)) (u:=some (j,f)) (st:=none) hs rfl (aj0 ⟨Q8 (am6 z _ _) b,a⟩)
end
def cP(names:List (Str×S2))(a:List (Str×F0)):List (Str×F0):=(names.filterMap λy=>if y.2==.free then(a.lookup y.1).map λc=>(y.1,c)else none).reverse
noncomputable def fS(env:Env)(y:Str×S2)(cs:List (Str×F0)):Sem (ForInStep (List (Str×F0))):=if(y.2==.free)=true then(do let c <-cellOf env y.1;ae2 (U7 ((y.1,c)::cs)))else ae2 (U7 cs)
theorem ki{env:Env}:∀(names:List (Str×S2)) (a:List (Str×F0)),(∀y∈names,y.2=.free->(env.cells.lookup y.1).isSome=true) ->
  (forIn names a (fS env):Sem (List (Str×F0)))=ae2 (cP names env.cells++a)
 |[],a,_=>by simp[cP]
 |y::r,a,h=>by
  rw[List.forIn_cons]
  by_cases b:(y.2==V8)=true
  ·have j:=h y R9 (by simpa using b);obtain⟨c,i⟩:=W5.mp j;have f:fS env y a=ae2 (U7 ((y.1,c)::a)):=by
    unfold fS cellOf;rw[if_pos b,i];simp only[aq3]
   rw[f];simp only[aq3];rw[ki r ((y.1,c)::a) λy e=>h y (K2 _ e)];have g:cP (y::r) env.cells=cP r env.cells++[(y.1,c)]:=by
    unfold cP;rw[X8,if_pos b,i];simp
   rw[g];simp
  ·have f:fS env y a=ae2 (U7 a):=by
    unfold fS;rw[if_neg b]
   rw[f];simp only[aq3];rw[ki r a λy e=>h y (K2 _ e)];have g:cP (y::r) env.cells=cP r env.cells:=by
    unfold cP;rw[X8,if_neg b]
   rw[g]
theorem yG{a:ac4}{env:Env}(h:∀y∈a.names,y.2=.free->(env.cells.lookup y.1).isSome=true):closureFor a env=ae2 (cP a.names env.cells):=by
 have:=ki (env:=env) a.names [] h;simp only[S3]at this;show(forIn a.names [] (fS env) >>= λb=>ae2 b)=_;rw[this];simp only[aq3]
theorem uZ{a:List (Str×F0)}{names:List (Str×S2)}{x:Str}{c:F0}(h:(cP names a).lookup x=some c):a.lookup x=some c:=by
 have b:=S4 h;unfold cP at b;rw[List.mem_reverse,W1]at b;obtain⟨y,_,e⟩:=b
 split at e
 ·cases q:a.lookup y.1 with
  |none=>rw[q]at e;cases e
  |some f=>rw[q]at e;cases e;exact q
 ·cases e
theorem fc:∀{l:List (Str×F0)}{x:Str}{c:F0},(x,c)∈l->∃a,l.lookup x=some a
 |(y,d)::l,x,c,h=>by
  rw[M0];cases q:x==y with
  |true=>exact⟨d,by simp⟩
  |false =>
   rcases I0.mp h with e|h
   ·cases e;simp at q
   ·simpa using fc h
theorem u7{a:List (Str×F0)}{names:List (Str×S2)}{x:Str}(h:names.lookup x=some .free)(b:(a.lookup x).isSome=true):∃c,(cP names a).lookup x=some c:=by
 obtain⟨c,e⟩:=W5.mp b;refine fc (c:=c) ?_;unfold cP;rw[List.mem_reverse,W1];exact⟨(x,.free),S4 h,by simp[e]⟩
noncomputable def bo(fs:ac4)(N:List Str)(a:ac4)(ms:List Bool):Bool :=
 a.kind==.function&&a.names.all (λy=>y.2 != .cell)&&a.names.all (λy=>y.2 != .local || a.names.lookup y.1==some .local) &&
 a.names.all (λy=>y.2 != .free || fs.names.lookup y.1==some .cell)&&(ms.zip N).all (λy=>!y.1 || a.names.lookup y.2==some .free)&&decide (ms.length<=N.length)
theorem aP{X:Cx}{f:ac4}{ms:List Bool}{ar:List Str}{n0:Nat}(p:X.env.cells=ap9 n0 X.env.scope.names [])(c:bo X.env.scope X.N f ms=true):fw X f (cP f.names X.env.cells) ms ar:=by
 unfold bo at c;simp only[J9,N3,decide_eq_true_eq]at c;obtain⟨⟨⟨⟨⟨o,t⟩,n⟩,u⟩,s⟩,q⟩:=c;have m:∀x,(x,V8)∈f.names->X.env.scope.names.lookup x=some .cell:=λx j=>by
  have:=u _ j;simpa using this
 have l:∀x,(x,V8)∈f.names->(X.env.cells.lookup x).isSome=true:=λx j=>by
  rw[p];exact PySem.W.cellsFrom_some _ _ _ (.inl (m x j))
 refine⟨by simpa using o,λy g e=>?_,λy g e=>?_,yG λy g e=>?_,λx c h=>uZ h,λx h=>u7 h (l x (S4 h)),λx h=>.inl (m x (S4 h)),λi x z w=>?_,q⟩
 ·have:=t y g;rw[e]at this;simp at this
 ·have:=n y g;simpa[e]using this
 ·obtain⟨a,b⟩:=y;cases e;exact l a g
 ·have:=s (true,x) (by
   rw[List.mem_iff_getElem?];exact⟨i,by rw[aa6];exact⟨z,w⟩⟩)
  simpa using this
structure FnD(P:K3) (w:Q5) (K:E2) (mg:Str->Option E1) (base:J6) (x:Str) (k n:Nat) (S:SpD):Prop where
 ex:∃(f:F0) (fd:J7) (ps:List Str),aU P w K mg base CX0 k f fd ps (spD K n S)/\mg x=some (.ref f)/\T8 K (.ref f)=true/\cQ K fd ps []
section
variable{X:Cx}{e:K8}{g:List K8}{t:TAd}{pos p:Pos}{x:Str}{k n:Nat}{S:SpD}
theorem dc(F:FnD X.prog X.w X.K X.mg X.base x k n S)(hr:cc k X.A)(hg:Gl X x)(ha:PAd X (e::g) t)(hdb:(x==("__debug__":Str))=false:=by decide)(he:E9 (e::g) X.env=(false,X7 e X.env)::E9 g X.env:=by rfl)(hpl:(U3 pos (E9 g X.env)).any (·.1)=false:=by rfl):
  PEd X (.Call (.Name x p) (e::g) [] pos) (qD n S t):=by
 obtain⟨f,l,j,h,b,i,a⟩:=F.ex;exact Bv h hr hg b i a ha hdb he hpl
end
section
variable{X:Cx}{a b c e:K8}{z:List K8}{te B G:TEd}{t:TAd}{pos:Pos}{W g:K8}
def zS(te:TEd):TSd:=λE e M=>te e M λd M1=>∃a b,d=.ref a/\M1 a=some (.lst b)/\E.rt (.lst b) (mQ M1 a)
theorem As:bB X (ap8 .Add) (iOp λi j=>some (.int (i+j))):=by
 intro f s a H M x y v u dx dy dz Q I hr rx ry r1 r2 e k;obtain⟨i,j,rfl,rfl,b⟩:=lQ e;cases b;exact Bs f s a H x y v u Q I rx ry ⟨i,j,fQ r1,fQ r2,k _ H (Ext.refl _ _) hr (by simp[Rep])⟩
theorem yT:DQ X (unaryOp .USub) (λd=>match d with|.int i=>some (.int (-i))|_=>none):=by
 intro b s a H M x v dx dz Q I hr rx r1 e k;cases dx with
 |int i=>cases e;exact Bp b s a H x v Q I rx ⟨i,fQ r1,k _ H (Ext.refl _ _) hr (by simp[Rep])⟩
 |_=>cases e
def iY:D->Option (List D)
 |.tup a=>some a
 |.lst a=>some a
 |.scr a=>some a
 |.str x=>if x.length<=F2 then some (fT x)else none
 |_=>none
def pL(te:TEd):TId:=λb M R=>te b M λd M1=>∃a,iY d=some a/\(a.length<=F2->R a M1)
theorem rH{a:List (F0×Obj)}{σ:St}{H:Hp}{s:E6}{o:Obj}(I:Inv X a σ H s):∀b∈[s.heap.objs.size],gI X a H b:=λb f=>by
 have e:b=s.heap.objs.size:=by simpa using f
 subst e;exact I.fpOk (F5 _) (I.hok.fresh (F5 _))
theorem A8{K:E2}{x:Str}{M1:DH}{H1:Hp}:ItD K (ItW x.cps.size λi v=>∃c,x.cps[i]?=some c/\v=.str ⟨#[c]⟩) (fT x) M1 H1:=λM2 H2 m e i=>⟨λd a=>by
  unfold fT at a;rw[F4]at a;cases q:x.cps.toList[i]? with
  |none=>rw[q]at a;cases a
  |some c =>
   rw[q]at a;cases a;have f:x.cps[i]?=some c:=by simpa using q
   refine⟨?_,λy H' ⟨g,l,b,j⟩=>?_⟩
   ·exact(T1.mp f).1
   ·subst g;subst j;rw[f]at b;cases b;exact⟨Ext.refl _ _,e,by simp[Rep]⟩,λh=>by
  show x.cps.size<=i;simpa[fT]using h⟩
end
section
variable{M:DH}
theorem zt{i:Int}:rdM M (.int i)=.int i:=rfl
theorem A3{i:Bool}:rdM M (.bl i)=.bl i:=rfl
theorem yA{i:Str}:rdM M (.str i)=.str i:=rfl
theorem y8:rdM M .non=.non:=rfl
theorem zj{i:List D}:rdM M (.tup i)=.tup i:=rfl
theorem ze{i:List D}:rdM M (.lst i)=.lst i:=rfl
theorem xS{i:List D}:rdM M (.scr i)=.scr i:=rfl
theorem jo{a:F0}{ds:List D}(h:M a=some (.lst ds)):rdM M (.ref a)=.lst ds:=by simp[rdM,h]
theorem yf{a:F0}{ds:List D}:rdM (aG M a (.lst ds)) (.ref a)=.lst ds:=jo bj
theorem BD{f:Int->Int->Option D}{a b:Int}:iOp f (.int a) (.int b)=f a b:=rfl
theorem zk{a b:Int}:oQ (.int a) (.int b)=some (.int (a+b)):=rfl
theorem yg{a b:Str}:oQ (.str a) (.str b)=if a.length+b.length<=F2 then some (.str (a++b))else none:=rfl
theorem sj{a b:List D}:oQ (.lst a) (.lst b)=if a.length+b.length<=F2 then some (.lst (a++b))else none:=rfl
theorem zp{a b:List D}:oQ (.tup a) (.tup b)=if a.length+b.length<=F2 then some (.tup (a++b))else none:=rfl
theorem Df{a:List D}{b:Int}:ixD (.lst a) (.int b)=atI a b:=rfl
theorem Cc{a:List D}{b:Int}:ixD (.scr a) (.int b)=atI a b:=rfl
theorem Cr{a:List D}{b:Int}:ixD (.tup a) (.int b)=atI a b:=rfl
theorem C7{a:Type}{x:a}{xs:List a}:atI (x::xs) 0=some x:=aE (j:=0) rfl
theorem CG{a:Type}{x y:a}{xs:List a}:atI (x::y::xs) 1=some y:=aE (j:=1) rfl
theorem CA{a:Type}{x y z:a}{xs:List a}:atI (x::y::z::xs) 2=some z:=aE (j:=2) rfl
theorem xK{f:D->Option D}{d:D}:m9 f [d]=f d:=rfl
theorem Bq{a:List D}:qX (.lst a)=some (.int a.length):=rfl
theorem AV{a:List D}:qX (.tup a)=some (.int a.length):=rfl
theorem Ar{a:List D}:qX (.scr a)=some (.int a.length):=rfl
theorem Bz{x:Str}:qX (.str x)=if x.length<=F2 then some (.int x.length)else none:=rfl
theorem Aq{i:Int}:DF (.int i)=some (.int (if i<0 then -i else i)):=rfl
theorem Av{a:List D}:AH (.lst a)=some (.tup a):=rfl
theorem Ax{a:List D}:AH (.tup a)=some (.tup a):=rfl
theorem DM{b:Bool}{x:D}{ds:List D}:inD b x (.lst ds)=if br x=true/\ds.all br=true then some (.bl (xor b (ds.any λd=>eqD d x)))else none:=rfl
theorem Dl{b:Bool}{x:D}{ds:List D}:inD b x (.tup ds)=if br x=true/\ds.all br=true then some (.bl (xor b (ds.any λd=>eqD d x)))else none:=rfl
theorem AY{a b:Int}:eqF (.int a) (.int b)=some (.bl (a==b)):=by simp[eqF,dLe,eqD]
theorem A5{a b:Str}:eqF (.str a) (.str b)=some (.bl (a==b)):=by simp[eqF,dLe,eqD]
theorem AK{a b:Bool}:eqF (.bl a) (.bl b)=some (.bl (a==b)):=by simp[eqF,dLe,eqD]
theorem CK{ds:List D}{lo hi:Option Int}:slD (.scr ds) lo hi=some (.lst (cY ds lo hi)):=rfl
theorem Cd{ds:List D}{lo hi:Option Int}:slD (.lst ds) lo hi=some (.lst (cY ds lo hi)):=rfl
theorem Cq{x:Str}{lo hi:Option Int}:slD (.str x) lo hi=if x.length<=F2 then some (.str (am5 x lo hi))else none:=rfl
theorem wH{a:List D}:iY (.lst a)=some a:=rfl
theorem vR{a:List D}:iY (.tup a)=some a:=rfl
theorem xj{a:List D}:iY (.scr a)=some a:=rfl
theorem v7{x:Str}:iY (.str x)=if x.length<=F2 then some (fT x)else none:=rfl
theorem BZ{n:Nat}:ixN (n+1) 0=some 0:=by simp[ixN]<;>omega
theorem Cf{n:Nat}:ixN (n+2) 1=some 1:=by simp[ixN]<;>omega
theorem DP{n:Nat}:ixN (n+3) 2=some 2:=by simp[ixN]<;>omega
theorem sz3(n:Nat)(h:n<=1000:=by decide):n<=F2:=Q8 h (by decide)
theorem Bt{b:Bool}:yo "bool" (.bl b)=some true:=rfl
end
end L2
namespace L2
theorem CC{i j:Int}(h:-18446744073709551616<j/\j<18446744073709551616):jU i j=True:=by unfold jU;simp;right;omega
theorem CI{i j:Int}(h:-18446744073709551616<i/\i<18446744073709551616):jU i j=True:=by unfold jU;simp;left;omega
theorem vP:p7 10 18=True:=by simp[p7]
theorem DJ{i j:Int}(h:0<j/\j<1073741824):mI i j=True:=by unfold mI;simp[h]
end L2
namespace L2
open PySem PySem.Spec PyProof.Rows
theorem fh{g:GD}{tc:TTd}{te:TEd}{M:DH}{Q:List D->DH->Prop}(b:D->Bool)(y:D->D)(Ok:DE->Prop):∀(ds:List D) (f:DE) (e:List D),
  (∀d∈ds,∀ f,Ok f->∃ a,g d f=some a/\Ok a/\(∀j:Bool->DH->Prop,j (b d) M->tc a M j)/\(b d=true->∀i:D->DH->Prop,i (y d) M->te a M i))->Ok f ->
  Q (e++(ds.filter b).map y) M->dA g tc te ds f M e Q
 |[],f,e,_,_,q=>by simpa[dA]using q
 |d::ds,f,e,h,l,q=>by
  simp only[dA];obtain⟨a,o,ok,t,s⟩:=h d R9 f l;refine⟨a,o,t _ ?_⟩;have n:∀d∈ds,∀ f,Ok f->∃ a,g d f=some a/\Ok a/\(∀j:Bool->DH->Prop,j (b d) M->tc a M j)/\(b d=true->∀i:D->DH->Prop,i (y d) M->te a M i):=λx p=>h x (K2 _ p);cases m:b d with
  |true =>
   simp only[if_true];refine s m _ (fh b y Ok ds a (e++[y d]) n ok ?_);simpa[List.filter_cons,m]using q
  |false =>
   simp only[F1,if_false];refine fh b y Ok ds a e n ok ?_;simpa[List.filter_cons,m]using q
theorem zm{a b:Str}:eqD (.str a) (.str b)=(a==b):=by simp[eqD]
theorem gK{x:Str}:∀{ws:List Str},(ws.map D.str).any (λd=>eqD d (.str x))=decide (x∈ws)
 |[]=>by simp
 |w::ws=>by
  rw[J1,X0,gK (ws:=ws),zm]
  by_cases h:w=x
  ·subst h;simp
  ·have a:(w==x)=false:=by simpa using h
   have b:¬ x=w:=λe=>h e.symm;simp[a,b]
theorem jB{ws:List Str}:(ws.map D.str).all br=true:=by
 induction ws with
 |nil=>rfl
 |cons w ws ih=>rw[J1,V7,ih];rfl
section
variable{X:Cx}{e:K8}{te:TEd}{pos:Pos}
def zW(te:TEd):TSd:=λE a M=>te a M λd M1=>∃M2,LeM M2 M1/\E.rt d M2
theorem cq{M:DH}{q:F0}{o:HD}(h:M q=none):LeM M (aG M q o):=λa u e=>by
 by_cases b:a=q
 ·subst b;rw[h]at e;cases e
 ·rw[bY b];exact e
end
end L2
namespace L2
open PySem PySem.Spec PyProof.Rows PySem.Builtin.Str
def tx(cs:List Nat):Str:=⟨cs.toArray⟩
theorem ip(cs:List Nat):(tx cs).cps.toList=cs:=by simp[tx]
theorem oK(cs:List Nat):(tx cs).length=cs.length:=by show(tx cs).cps.size=_;simp[tx]
theorem eM{b:Type}[DecidableEq b]:∀(V K:List b),V.Nodup->(∀x∈V,x∈K)->V.length<=K.length
 |[],_,_,_=>P9 _
 |x::V,K,f,h=>by
  have e:=h x R9;obtain⟨g,i⟩:=ab0.mp f;have:=eM V (K.erase x) i λy a=>(List.mem_erase_of_ne (by rintro rfl;exact g a)).mpr (h y (K2 _ a));rw[List.length_erase_of_mem e]at this;have j:0<K.length:=List.length_pos_of_mem e;simp only[Q6]
  lia
abbrev abc:Str:=R7 "abcdefghijklmnopqrstuvwxyz"
def fO:List Nat:=al6 97 26
theorem qU:abc=tx fO:=by decide +kernel
theorem uK:fT abc=fO.map λc=>D.str (tx [c]):=by
 unfold fT;rw[qU,ip];rfl
end L2
namespace L2
open PySem PySem.Spec PyProof.Rows
theorem nr{g:GD}{m:TSd}{E:dP}{all:List D}(I:Nat->DE->DH->Prop)
  (step:∀(i:Nat) (d:D) (b:DE) (M:DH) (X:DE->DH->Prop),all[i]?=some d->I i b M->(∀ a j,I (i+1) a j->X a j)->∃ a,g d b=some a/\m { E with nx:=X,ct:=X,bk:=E.nx } a M)
  (f:∀ b M,I all.length b M->E.nx b M):∀(ds:List D) (i:Nat) (b:DE) (M:DH),all.drop i=ds->i<=all.length->I i b M->bN g m E ds b M
 |[],i,b,M,e,p,h=>by
  have:i=all.length:=by
   have:=congrArg aa3 e;simp at this;lia
  subst this;simpa only[bN]using f b M h
 |d::ds,i,b,M,e,p,h=>by
  have l:i<all.length:=by
   have:=congrArg aa3 e;simp at this;lia
  have o:all[i]?=some d:=by
   have:=congrArg List.head? e;simpa using this
  have q:all.drop (i+1)=ds:=by
   rw[<-List.tail_drop,e];rfl
  simp only[bN];exact step i d b M _ o h λa j n=>nr I step f ds (i+1) a j q l n
theorem bt{g:GD}{h:TSd}{E:dP}{ds:List D}{b:DE}{M:DH}(I:Nat->DE->DH->Prop)(j:I 0 b M)
  (step:∀(i:Nat) (d:D) (b:DE) (M:DH) (X:DE->DH->Prop),ds[i]?=some d->I i b M->(∀ a f,I (i+1) a f->X a f)->∃ a,g d b=some a/\h { E with nx:=X,ct:=X,bk:=E.nx } a M)
  (e:∀ b M,I ds.length b M->E.nx b M):bN g h E ds b M:=nr I step e ds 0 b M rfl (P9 _) j
theorem qb{g:GD}{tc:TTd}{te:TEd}{all:List D}{Q:List D->DH->Prop}(I:Nat->List D->DE->DH->Prop)
  (step:∀ (i:Nat) (d:D) (a:List D) (l:DE) (M:DH) (X:List D → DE → DH → Prop),all[i]? = some d → I i a l M → (∀ j f m,I (i + 1) j f m → X j f m) →
   ∃ f,g d l=some f/\tc f M λb M1=>if b=true then te f M1 λy M2=>X (a++[y]) f M2 else X a f M1)
  (n:∀a l M,I all.length a l M->Q a M):∀(ds:List D) (i:Nat) (a:List D) (l:DE) (M:DH),all.drop i=ds->i<=all.length->I i a l M->dA g tc te ds l M a Q
 |[],i,a,l,M,e,s,h=>by
  have:i=all.length:=by
   have:=congrArg aa3 e;simp at this;lia
  subst this;simpa only[dA]using n a l M h
 |d::ds,i,a,l,M,e,s,h=>by
  have o:i<all.length:=by
   have:=congrArg aa3 e;simp at this;lia
  have q:all[i]?=some d:=by
   have:=congrArg List.head? e;simpa using this
  have t:all.drop (i+1)=ds:=by
   rw[<-List.tail_drop,e];rfl
  simp only[dA];exact step i d a l M (λj f m=>dA g tc te ds f m j Q) q h λj f m p=>qb I step n ds (i+1) j f m t o p
theorem pE{g:GD}{tc:TTd}{te:TEd}{ds:List D}{h:DE}{M:DH}{Q:List D->DH->Prop}(I:Nat->List D->DE->DH->Prop)(m:I 0 [] h M)
  (step:∀ (i:Nat) (d:D) (e:List D) (h:DE) (M:DH) (X:List D → DE → DH → Prop),ds[i]? = some d → I i e h M → (∀ f a l,I (i + 1) f a l → X f a l) →
   ∃ a,g d h=some a/\tc a M λb M1=>if b=true then te a M1 λy M2=>X (e++[y]) a M2 else X e a M1)
  (j:∀e h M,I ds.length e h M->Q e M):dA g tc te ds h M [] Q:=qb I step j ds 0 [] h M rfl (P9 _) m
theorem szB(n:Nat)(h:n<=16000000:=by decide):n<=F2:=Q8 h (by decide)
theorem ft{a:Type}{f:a->D}{xs:List a}{i:Nat}{d:D}(h:(xs.map f)[i]?=some d):∃x,xs[i]?=some x/\d=f x:=by
 rw[F4]at h;cases e:xs[i]? with
 |none=>rw[e]at h;cases h
 |some x=>rw[e]at h;cases h;exact⟨x,rfl,rfl⟩
theorem qp{K:E2}{M:DH}{H:Hp}:∀ns:List Int,aq K M H (ns.map D.int) (ns.map V.int)
 |[]=>aq.nil
 |n::ns=>aq.cons (by simp[Rep]) (qp ns)
theorem tX{K:E2}{H:Hp}{a:F0}{ns:List Int}(b:yC H)(e:SqL K H a (ns.map V.int)):aq K noM H [.scr (ns.map D.int)] [.ref a]:=by
 refine aq.cons ?_ aq.nil;simp only[Rep];refine⟨a,ns.map V.int,rfl,?_,qp ns⟩;rcases e with h|h
 ·left;rcases h with h|h
  ·rcases b a with z|⟨o,f,z⟩<;>(rw[h]at z;cases z)
  ·exact⟨h,rfl⟩
 ·right;exact .inr h
def Dc(S:SpD):Prop:=∀(a:List Int) (R:D->DH->Prop),a.length<=63->(∀b,R (.bl true) b)->S [.scr (a.map .int)] noM R
theorem Cv{S:SpD}(E:Dc S){k:Nat}{x:Str}{l:PySem.W.OpenLaw}{q:K3}{b:List Str}{t:(Str->Option E1)->J6->Prop}{m:Q5->J6->Prop}{d:DefRec}{K:Params->E2}(hr:cc k an3)(B:l.most=some 63)(i:d.params.defaults=[])
  (A:∀(w:Q5) (h:J6),m w h->(K w.params).In h)
  (F:∀ (w:Q5) (g:Str → Option E1) (p:F0) (h:J6),(K w.params).In h → h.Ns J3 g → g d.name = some (.ref p) →
   ∃j:J7,(∀(s:E6) (u:E1),ao7 s j ⟨[u],[]⟩ [(x,u)])/\∀base:J6,(K w.params).In base->base.Ns J3 g->aU l.prog w (K w.params) g base CX0 k p j [x] (spD (K w.params) 1 S)) :
  PySem.W.WalkO q b t m l.row.toRowW d [] (λf J=>PySem.call f J) :=
 L2.rY (n:=63) (k:=k) (x:=x) (CX:=λ_=>CX0) (sp:=λw=>spD (K w.params) 1 S) B (by decide) i hr A F
  (λw H a o G I C=>⟨[.scr (o.map .int)],noM,λd _=>d=.bl true,rfl,tX I C,HR.nil,E o _ G (λ_=>rfl),λd M v N e _ _ L=>by subst e;simpa only[Rep]using L⟩) λ_ _ _ _ _ z=>z
section
variable{X:Cx}
def neF(x y:D):Option D:=if dLe x 60=true/\dLe y 60=true then some (.bl (!(eqD x y)))else none
theorem j8(b:X.A.units+64<ao2):bB X (L8 .NotEq) neF:=by
 intro g s f H M x y v u dx dy dz Q I hr rx ry r1 r2 e k;unfold neF at e
 by_cases a:dLe dx 60=true/\dLe dy 60=true
 ·rw[if_pos a]at e;cases e;exact(qL I 60 (A:=X.A) (by lia) a.1 a.2 r1 r2 rx ry).2.2 X.prog X.w X.xe _ ⟨.bl (!(eqD dx dy)),H,I,rfl,k _ H (Ext.refl _ _) hr (by simp[Rep])⟩
 ·rw[if_neg a]at e;cases e
theorem pf{a b:Int}:neF (.int a) (.int b)=some (.bl (!(a==b))):=by simp[neF,dLe,eqD]
theorem Bm{a b:Str}:neF (.str a) (.str b)=some (.bl (!(a==b))):=by simp[neF,dLe,eqD]
theorem By{a b:Bool}:neF (.bl a) (.bl b)=some (.bl (!(a==b))):=by simp[neF,dLe,eqD]
end
end L2
namespace HT
open PySem PyProof.Rows
section
variable{prog:K3}{w:Q5}{A:M9}{E:E1->E6->Prop}{s:E6}
theorem mP{t:F0}{a:Array E1}{Q:Bool->E6->Prop}(b:am0 s.heap t a)(h:Q true s):H0 (K7 prog w) A (K1.Tuple.tupleIsExact (.ref t)) Q E s:=by
 unfold K1.Tuple.tupleIsExact;exact o0 (ak0 b.typeIs (E5 (by simpa using h)))
theorem getItem_tuple_whole{t i:F0}{a:Array E1}{l n:E1}{lo hi:Option Int}{Q:E1->E6->Prop}(b:am0 s.heap t a)(j:s.heap.IsSliceOf i l n .none)(pl:ao3 l lo)(o:ao3 n hi)
  (m:sIx a.size 0 lo=0/\sIx a.size a.size hi=a.size) (h:Q (.ref t) s):H0 (K7 prog w) A (am2 (.ref t) (.ref i)) Q E s:=by
 obtain⟨os,f,e,p⟩:=id j;have g:s.TypeIs (.ref i) "slice":=⟨os,f,e⟩;unfold am2
 try with_reducible refine P2 ?_
 first|refine o0 (E5 ?_)|skip
 refine o0 (wpAny_sequenceKey b.typeIs (by decide) ?_);refine o0 (R0 (name:=R7 "__getitem__") b.typeIs M7
  (V0 M7 b.typeIs entry_tuple_getitem ?_ (args_tuple_getitem _ _)))
 show H0 _ _ (Z4 (.ref t) >>= _) _ _ s;refine o0 (al3 b ?_);refine o0 (ak0 g ?_);rw[if_pos (by decide)];refine o0 (fL j pl o ?_);show H0 _ _ (if(((sIx a.size 0 lo:Nat):Int)==0&&(1:Int)==1&&(sIx a.size a.size hi-sIx a.size 0 lo)==a.size)=true then _ else _) _ _ s;rw[if_pos (by rw[m.1,m.2];simp)];refine o0 (mP b ?_);rw[if_pos rfl];refine o0 (ak9 ?_)
 first
  |exact E5 ⟨_,rfl,E5 h⟩
  |exact o0 (E5 (E5 ⟨_,rfl,E5 h⟩))
theorem jS{g:F0}{f:Tok}{n:Nat}{Q:Int×Int×Nat->E6->Prop}(j:s.heap.IsSliceOf g .none .none (.int (-1) f))
  (h:Q ((n:Int)-1,-1,n) s):H0 (K7 prog w) A (Z3 (.ref g) (ae2 (n:Int))) Q E s:=by
 obtain⟨os,a,i,b⟩:=id j;unfold Z3 K1.Slice.sliceFields;refine o0 (o0 (P1 a b (x:=.none) rfl (o0 (P1 a b (x:=.none) rfl (o0 (P1 a b (x:=.int (-1) f) rfl (E5 ?_)))))));refine o0 (slicePart_int ?_);show H0 _ _ (if((-1:Int)==0)=true then _ else _) _ _ s;rw[if_neg (by decide)];refine o0 (ak5 (o0 (ak5 (o0 (E5 ?_)))));show H0 _ _ (ae2 ((n:Int)-1,(-1:Int),R4 ((n:Int)-1) (-1) (-1))) _ _ s;have e:R4 ((n:Int)-1) (-1) (-1)=n:=by
  unfold R4;simp only[show ¬ ((-1:Int) > 0)by omega,if_false]
  split<;>simp<;>omega
 rw[e];exact E5 h
theorem pick_rev(xs:Array E1):((Q4 xs.size).filterMap λ(m:Nat)=>xs[((xs.size:Int)-1+(m:Int)*-1).toNat]?)=xs.toList.reverse:=by
 have:∀k,k<=xs.size->((Q4 k).filterMap λ(m:Nat)=>xs[((xs.size:Int)-1+(m:Int)*-1).toNat]?)=xs.toList.reverse.take k:=by
  intro k
  induction k with
  |zero=>intro _;simp
  |succ k ih =>
   intro g;rw[List.range_succ,List.filterMap_append,ih (by omega)];have e:((xs.size:Int)-1+(k:Int)*-1).toNat=xs.size-1-k:=by omega
   have a:xs[xs.size-1-k]?=some xs[xs.size-1-k]:=by simp[show xs.size-1-k<xs.size by omega]
   have f:xs.toList.reverse[k]?=some xs[xs.size-1-k]:=by
    rw[List.getElem?_reverse (by simp;omega)];simpa using a
   rw[R5,f];have b:(List.filterMap (λ(m:Nat)=>xs[((xs.size:Int)-1+(m:Int)*-1).toNat]?) [k])=[xs[xs.size-1-k]]:=by
    rw[X8,e,a];rfl
   rw[b];rfl
 rw[this xs.size (F5 _)];exact R8 (by simp)
theorem getItem_tuple_rev{t j:F0}{a:Array E1}{n:Tok}{Q:E1->E6->Prop}(e:am0 s.heap t a)(l:s.heap.IsSliceOf j .none .none (.int (-1) n))
  (h:Q (.ref s.heap.objs.size) { s with heap:=s.heap.push { cls:=.type "tuple",data:=.seq a.toList.reverse.toArray } }) (hsz:a.size<=F2):H0 (K7 prog w) A (am2 (.ref t) (.ref j)) Q E s:=by
 have b:sizeOk (.seq a.toList.reverse.toArray):=by
  show a.toList.reverse.toArray.size<=F2;simpa using hsz
 obtain⟨os,g,f,o⟩:=id l;have i:s.TypeIs (.ref j) "slice":=⟨os,g,f⟩;unfold am2
 try with_reducible refine P2 ?_
 first|refine o0 (E5 ?_)|skip
 refine o0 (wpAny_sequenceKey e.typeIs (by decide) ?_);refine o0 (R0 (name:=R7 "__getitem__") e.typeIs M7
  (V0 M7 e.typeIs entry_tuple_getitem ?_ (args_tuple_getitem _ _)))
 show H0 _ _ (Z4 (.ref t) >>= _) _ _ s;refine o0 (al3 e ?_);refine o0 (ak0 i ?_);rw[if_pos (by decide)];refine o0 (jS l ?_);show H0 _ _ (if((((a.size:Int)-1)==0&&(-1:Int)==1&&a.size==a.size)=true)then _ else _) _ _ s;rw[if_neg (by simp),pick_rev]
 first
  |exact o0 (m:=N4 _) (O4 (E5 ⟨_,rfl,E5 h⟩) b)
  |exact o0 (m:=N4 _) (O4 (o0 (E5 (E5 ⟨_,rfl,E5 h⟩))) b)
  |exact o0 (o0 (m:=N4 _) (O4 (E5 (E5 ⟨_,rfl,E5 h⟩)) b))
  |exact o0 (o0 (m:=N4 _) (O4 (E5 ⟨_,rfl,E5 h⟩) b))
end
end HT
namespace L2
open PySem PySem.Spec PyProof.Rows
section
variable{X:Cx}{a b c e:K8}{Y:List K8}{te G tb W:TEd}{t:TAd}{pos:Pos}
def slE:D->Option Int->Option Int->Option D
 |.tup b,lo,a=>some (.tup (cY b lo a))
 |d,lo,a=>slD d lo a
def EB(K:E2):V->Option Int->Option Int->Hp->VK->Prop:=λx lo e H Q=>∃a b,x=.ref a/\SqT K H a b/\(HT.sIx b.length 0 lo=0/\HT.sIx b.length b.length e=b.length)/\Q (.ref a) H
theorem uY:SlR X (EB X.K):=by
 intro n s m H x v vl vu lo hi sl Q I rx hs pl pu h;obtain⟨a,f,rfl,j,g,q⟩:=h;cases rx;obtain⟨b,r,e,l⟩:=I.tuple j;have i:b.toArray.size=f.length:=by rw[E8];exact r.length.symm
 exact⟨"tuple",_,M7.lookup,e.typeIs,HT.getItem_tuple_whole e hs pl pu (by rw[i];exact g) ⟨.ref a,H,I,rfl,q⟩⟩
theorem qN{ds:List D}{lo hi:Option Int}(h:HT.sIx ds.length 0 lo=0/\HT.sIx ds.length ds.length hi=ds.length):cY ds lo hi=ds:=by
 unfold cY;rw[h.1,h.2];simp
def Di(te:TEd)(f e:TOd):TEd:=λa M Q=>te a M λx M1=>f a M1 λl M2=>e a M2 λu b=>∃z,slE (rdM b x) l u=some z/\Q z b
theorem Dw{ds:List D}{lo hi:Option Int}:slE (.tup ds) lo hi=some (.tup (cY ds lo hi)):=rfl
theorem DX{ds:List D}{lo hi:Option Int}:slE (.lst ds) lo hi=some (.lst (cY ds lo hi)):=rfl
theorem Dp{ds:List D}{lo hi:Option Int}:slE (.scr ds) lo hi=some (.lst (cY ds lo hi)):=rfl
theorem CM{x:Str}{lo hi:Option Int}:slE (.str x) lo hi=if x.length<=F2 then some (.str (am5 x lo hi))else none:=rfl
theorem aq.reverse{K:E2}{M:DH}{H:Hp}:∀{ds:List D}{a:List V},aq K M H ds a->aq K M H ds.reverse a.reverse
 |[],_,h=>by simp only[aq]at h;subst h;exact aq.nil
 |d::ds,_,h=>by
  simp only[aq]at h;obtain⟨v,f,rfl,e,b⟩:=h;rw[ah1,ah1];exact(aq.reverse b).append (aq.cons e aq.nil)
def vB(te W:TEd):TEd:=λa M Q=>te a M λx M1=>W a M1 λst M2=>st=.int (-1)/\∃b,x=.tup b/\Q (.tup b.reverse) M2
def uT:TSd:=λ_ _ _=>False
variable{y:ac4}{B:List (Str×F0)}{ar:List Str}{E:K8}
def xU(X:Cx)(y:ac4)(B:List (Str×F0))(ar:List Str)(e:List K8)(g:GDs):Prop:=∃i:TGs,(∀C s H m,PGs (aK X y B (X.N++ar) C s H m) e i)/\∀(l:List D) (j:List V) (f:St) (h b:DE) (M:DH) (H:Hp) (Q:St->Hp->Prop),SR X.K M H f h->HR X.K M H->aq X.K M H l j->g l h=some b->(∀ a,SR X.K M H a b->Q a H)->i j f H Q
theorem ja:xU X y B ar [] fD:=⟨Bh,λ_ _ _ _=>sX,λf j h l g M H Q b i a e k=>by
 cases f with
 |nil=>simp only[aq]at a;subst a;cases e;exact⟨rfl,k _ b⟩
 |cons _ _=>cases e⟩
theorem bV{a:List K8}{g:GD}{m:GDs}(R:PGa X y B ar E g)(P:xU X y B ar a m)
  (z:∀env,(V5 (E::a) env).map (·.2)=aj8 E env::(V5 a env).map (·.2):=by intro _;rfl):xU X y B ar (E::a) (cg g m):=by
 obtain⟨u,G,I⟩:=R;obtain⟨w,O,A⟩:=P;refine⟨xJ u w,λC s H p=>qv (G C s H p) (O C s H p) (z _),λJ S L l f M H Q t j o e k=>?_⟩;cases J with
 |nil=>cases e
 |cons d r =>
  simp only[aq]at o;obtain⟨v,n,rfl,x,N⟩:=o;simp only[cg]at e;cases q:g d l with
  |none=>rw[q]at e;cases e
  |some b =>
   rw[q]at e;exact⟨v,n,rfl,I d v L l b M H _ t j x q λh i=>A r n h b f M H Q i j N e k⟩
theorem i7{b:List K8}{w:Nat}{g:GDs}{n:Nat}(J:X.calm=true)(h:xU X y B ar b g)(A:∀env,(V5 b env).length=n:=by intro _;rfl)(f:∀env,(V5 b env).findIdx? (·.1)=none:=by intro _;rfl):PGa X y B ar (.Tuple b w pos) (eX g n):=by
 obtain⟨I,E,L⟩:=h;refine⟨BQ X.K n I,λC s H q=>wG (X:=aK X y B (X.N++ar) C s H q) J (E C s H q) (A _) (f _),λd v u z i M H Q t x o e k=>?_⟩;cases d with
 |tup p =>
  simp only[eX]at e
  by_cases j:p.length=n
  ·rw[if_pos j]at e;simp only[Rep]at o;obtain⟨a,m,rfl,G,l⟩:=o;exact⟨a,m,rfl,G.sq,by rw[<-l.length];exact j,L p m u z i M H Q t x l e k⟩
  ·rw[if_neg j]at e;cases e
 |_=>cases e
end
section
variable{X:Cx}{a b c e:K8}{Y:List K8}{te ta tb ts:TEd}{t:TAd}{pos:Pos}
def inE(a:Bool)(x y:D):Option D:=match y with
 |.str j=>match x with
  |.str i=>some (.bl (xor a (!(ab5 j i 0 j.length 1).isEmpty)))
  |_=>none
 |y=>inD a x y
theorem tv:bB X (L8 .In) (inE false):=by
 intro b s a H M x y v u dx dy dz Q I hr rx ry r1 r2 e k;cases dy with
 |str j =>
  cases dx with
  |str i =>
   cases e;exact uh b s a H x y v u Q I rx ry ⟨i,j,mG r1,mG r2,k _ H (Ext.refl _ _) hr (by simp[Rep])⟩
  |_=>cases e
 |_=>exact Ey b s a H M x y v u dx _ dz Q I hr rx ry r1 r2 e k
theorem kY:bB X (L8 .NotIn) (inE true):=by
 intro b s a H M x y v u dx dy dz Q I hr rx ry r1 r2 e k;cases dy with
 |str j =>
  cases dx with
  |str i =>
   cases e;exact oz b s a H x y v u Q I rx ry ⟨i,j,mG r1,mG r2,k _ H (Ext.refl _ _) hr (by simp[Rep])⟩
  |_=>cases e
 |_=>exact zl b s a H M x y v u dx _ dz Q I hr rx ry r1 r2 e k
theorem Cg{b:Bool}{x:D}{ds:List D}:inE b x (.lst ds)=if br x=true/\ds.all br=true then some (.bl (xor b (ds.any λd=>eqD d x)))else none:=rfl
theorem C8{b:Bool}{x:D}{ds:List D}:inE b x (.tup ds)=if br x=true/\ds.all br=true then some (.bl (xor b (ds.any λd=>eqD d x)))else none:=rfl
theorem zM{b:Bool}{c:Nat}{y:Str}:inE b (.str (tx [c])) (.str y)=some (.bl (xor b (decide (c∈y.cps.toList)))):=by
 show some (D.bl (xor b (!(ab5 y ⟨#[c]⟩ 0 y.length 1).isEmpty)))=_;rw[StrLaws.found_one]
theorem yB{a:List (F0×Obj)}{σ:St}{H:Hp}{s:E6}(I:Inv X a σ H s):ao6<s.heap.objs.size:=by
 have h:J3<s.heap.objs.size:=(I.mod.glob.keeps I.bk).lt;exact Nat.lt_trans (by decide) h
def Ck:TEd:=λ_ M Q=>Q .emp M
theorem jP:fillsNumberSlot (.type "tuple") "mul"=ae2 false :=
 PySem.fillsNumberSlot_seq (id:="tuple.__mul__") (r:=some (.builtin "tuple.__rmul__")) F.slot_tuple_mul.lookup (by decide +kernel) F.slot_tuple_rmul.lookup (by decide +kernel)
theorem oA:seqRepeat? (.type "tuple")=ae2 (some (.builtin "tuple.__mul__")):=by
 unfold seqRepeat?;rw[PySem.seqSlot_of (T:="tuple") (name:="__mul__") (id:="tuple.__mul__") F.slot_tuple_mul.lookup (by decide +kernel),PySem.seqSlot_of (T:="tuple") (name:="__rmul__") (id:="tuple.__rmul__") F.slot_tuple_rmul.lookup (by decide +kernel)];rfl
theorem mi(a:Int)(t:Tok)(l:F0)(b:Array E1):
  Meets (K1.«int.__rmul__» ⟨[.int a t,.ref l],[]⟩) (λ_ R s=>am0 s.heap l b/\R (.ok (.ret E1.notImplemented)) s) :=
 .of_wp λprog w A R s h=>by
  obtain⟨m,g,d,p,os⟩:=s;obtain⟨⟨⟨cls,o,f,q⟩,j,i,n,e⟩,h⟩:=h;simp only at i e;subst i e
  wp_walk;exact⟨_,rfl,h⟩
theorem mK(l:F0)(b:Array E1)(x:Int)(u:Tok)(e:b.isEmpty=false)(E:2<=x)(t:x<2 ^ 62)(z:b.size*x.toNat<=F2):
  Meets (K1.«tuple.__mul__» ⟨[.ref l,.int x u],[]⟩) (λ_ R s=>am0 s.heap l b/\R (.ok (.ret (.ref s.heap.objs.size))) { s with heap:=s.heap.push { cls:=.type "tuple",data:=.seq (F3 x.toNat b.toList).flatten.toArray } }) :=
 .of_wp λprog w A R s h=>by
  obtain⟨q,h⟩:=h;show H0 _ _ (do
   let n <-asIndex (.int x u)
   if n < -(2 ^ 63) || n>=2 ^ 63 then
    rule "tuple.repeat.overflow";raiseError "OverflowError" s!"cannot fit '{← typeNameOf (.int x u)}' into an index-sized integer"
   let f <-Z4 (.ref l)
   if f.isEmpty || n==1 then
    if <-K1.Tuple.tupleIsExact (.ref l)then rule "tuple.repeat.same-object";return <-ret (.ref l)
   if n<=0 || f.isEmpty then return <-ret (<-N4 #[])
   if f.size*n > (2 ^ 63-1) / 8 then rule "tuple.repeat.no-memory";raiseNew (<-newExc (.type "MemoryError") [])
   if K1.Tuple.tupleTooMany (f.size*n)then unsupported "tuple.__mul__:memory"
   ret (<-N4 ((F3 n.toNat f).foldl (·++·) #[]))) _ _ s
  refine o0 (an6 (a:=x) rfl ?_);dsimp only;rw[if_neg (by simp only[Bool.or_eq_true,decide_eq_true_eq];lia)];refine o0 (al3 q ?_);rw[if_neg (by simp[e];lia)];rw[if_neg (by simp[e];lia)];have g:((x.toNat:Nat):Int)=x:=by lia
  have i:(b.size:Int)*x=((b.size*x.toNat:Nat):Int):=by rw[Int.natCast_mul,g]
  have p:F2=16777216:=rfl;rw[if_neg (by rw[i];lia)];rw[if_neg (by unfold K1.Tuple.tupleTooMany;rw[i];simp only[decide_eq_true_eq];lia)];have o:ao9 (λC j=>C++j) #[] (F3 x.toNat b)=(F3 x.toNat b.toList).flatten.toArray:=by
   have:=ke b.toList x.toNat [];rw[L6]at this;simpa using this
  rw[o];have B:sizeOk (.seq (F3 x.toNat b.toList).flatten.toArray):=by
   show(F3 x.toNat b.toList).flatten.toArray.size<=F2;rw[E8,oS,P7,Nat.mul_comm];exact z
  exact o0 (m:=N4 _) (O4 (E5 ⟨_,rfl,h⟩) B)
theorem aq.rep{K:E2}{M:DH}{H:Hp}{ds:List D}{a:List V}(h:aq K M H ds a):∀k:Nat,aq K M H (F3 k ds).flatten (F3 k a).flatten
 |0=>aq.nil
 |k+1=>by
  rw[P8,P8,X5,X5];exact h.append (aq.rep h k)
def md:D->D->Option D
 |.int a,.int b=>if jU a b then some (.int (a*b))else none
 |.str x,.int n=>if x.length<=16777216/\-(2 ^ 63)<=n/\n<=16777216/\x.length*n.toNat<=16777216 then some (.str (Txt.mul x n))else none
 |.tup e,.int n=>if 2<=n/\n<2 ^ 62/\e≠[]/\e.length*n.toNat<=F2 then some (.tup (F3 n.toNat e).flatten)else none
 |.lst e,.int n=>if -(2 ^ 63)<=n/\n<2 ^ 63/\e.length*n.toNat<=F2 then some (.lst (F3 n.toNat e).flatten)else none
 |_,_=>none
theorem bZ:bB X (W3 .Mult) md:=by
 intro G s J H M x y v u dx dy dz Q I hr rx ry r1 r2 e k;cases dx with
 |int a =>
  cases dy with
  |int b=>exact Ak G s J H M x y v u _ _ dz Q I hr rx ry r1 r2 e k
  |_=>cases e
 |str z =>
  cases dy with
  |int n =>
   simp only[md]at e
   by_cases f:z.length<=16777216/\-(2 ^ 63)<=n/\n<=16777216/\z.length*n.toNat<=16777216
   ·rw[if_pos f]at e;cases e;have N:=mG r1;have C:=fQ r2;subst N;subst C;obtain⟨Y,rfl⟩:=rx;obtain⟨m,rfl⟩:=ry;have A:MulOk z n:=by
     by_cases Z:0<=n
     ·exact mulOk_of z.length n.toNat (F5 _) (by lia) f.2.1 (by lia) f.2.2.2
     ·exact mulOk_of z.length 0 (F5 _) (by lia) f.2.1 (by lia) (by lia)
    exact SB.mul A λE kk=>⟨.str _,H,I.tok _,⟨E,rfl⟩,k _ H (Ext.refl _ _) hr (by simp[Rep])⟩
   ·rw[if_neg f]at e;cases e
  |_=>cases e
 |tup j =>
  cases dy with
  |int n =>
   simp only[md]at e
   by_cases f:2<=n/\n<2 ^ 62/\j≠[]/\j.length*n.toNat<=F2
   ·rw[if_pos f]at e;cases e;have C:=fQ r2;subst C;obtain⟨m,rfl⟩:=ry;obtain⟨a,t,rfl,sq,l⟩:=r1;cases rx;obtain⟨g,L,pt,hz⟩:=I.tuple sq;have i:=L.length;have h:=l.length;have w:g.toArray.isEmpty=false:=by
     cases g with
     |nil =>
      have R:j.length=0:=by rw[h,i];rfl
      exact absurd (List.length_eq_zero_iff.mp R) f.2.2.1
     |cons _ _=>rfl
    have B:g.toArray.size*n.toNat<=F2:=by rw[E8,<-i,<-h];exact f.2.2.2
    refine wpAny_binaryOp_repeat_ref (T:="tuple") (U:="int") (by decide) pt.typeIs (λS=>am9 S n m) jP F.fills_int_mul ai8 oA F.slot_int_index.lookup
     (af5 ai8 (am9 s n m) F.entry_int_rmul (F.args_int_rmul_2 _ _) (mi n m a g.toArray)
      ⟨pt,rfl,pt.typeIs,af5 F.slot_tuple_mul pt.typeIs F.entry_tuple_mul (F.args_tuple_mul_2 _ _) (mK a g.toArray n m w f.1 f.2.1 B) ⟨pt,?_⟩⟩)
    have O:aA (F3 n.toNat t).flatten (F3 n.toNat g).flatten:=L.rep n.toNat;refine⟨.ref s.heap.objs.size,_,I.laid (t':=s.toks) (o:=.tup (F3 n.toNat t).flatten) (λb ob q=>u8 _ q) (F5 _) ?_,rfl,?_⟩
    ·refine⟨?_,_,O,by simpa using jJ.new _ _⟩;rw[oS,Nat.mul_comm,<-h];exact f.2.2.2
    ·exact lr hr (I.hok.fresh (F5 _)) (l.rep n.toNat) k
   ·rw[if_neg f]at e;cases e
  |_=>cases e
 |lst j =>
  cases dy with
  |int n =>
   simp only[md]at e
   by_cases f:-(2 ^ 63)<=n/\n<2 ^ 63/\j.length*n.toNat<=F2
   ·rw[if_pos f]at e;cases e;obtain⟨a,t,rfl,sq,l⟩:=r1;exact u9 G s J H _ _ v u Q I rx ry ⟨a,n,t,rfl,fQ r2,sq,f.1,f.2.1,by rw[<-l.length];exact f.2.2,λp P=>eO hr P (l.rep n.toNat) k⟩
   ·rw[if_neg f]at e;cases e
  |_=>cases e
 |_=>cases e
theorem zg{a b:Int}:md (.int a) (.int b)=if jU a b then some (.int (a*b))else none:=rfl
def so:D->Bool
 |.non=>true
 |_=>false
def sH(a:Bool)(x y:D):Option D:=match y with|.non=>some (.bl (xor a (so x)))|_=>none
theorem yM{K:E2}{M:DH}{H:Hp}{d:D}{x:V}(r:aM K M H d x):decide (x=V.non)=so d:=by
 cases d with
 |tup e=>obtain⟨a,b,rfl,_⟩:=r;rfl
 |lst e=>obtain⟨a,b,rfl,_⟩:=r;rfl
 |scr e=>obtain⟨a,b,rfl,_⟩:=r;rfl
 |emp=>simp only[aM,Rep]at r;obtain⟨a,rfl,_⟩:=r;rfl
 |box _ _=>simp only[aM,Rep]at r;obtain⟨a,_,rfl,_⟩:=r;rfl
 |_=>simp only[aM,Rep]at r;subst r;rfl
theorem EE:bB X (L8 .Is) (sH false):=by
 intro b s a H M x y v u dx dy dz Q I hr rx ry r1 r2 e k;cases dy with
 |non =>
  cases e;refine Ag b s a H x y v u Q I rx ry ⟨Ew r2,?_⟩;rw[yM r1];exact k _ H (Ext.refl _ _) hr (by simp[Rep])
 |_=>cases e
theorem uG{b:Bool}{x:D}:sH b x .non=some (.bl (xor b (so x))):=rfl
variable{B:ac4}{cl:List (Str×F0)}{ms:List Bool}{ar:List Str}{G:List K8}{tg E W:K8}
end
@[irreducible] def QEd(X:Cx)(e:K8)(t:TEd):Prop:=PEd X e t
theorem QEd.eq{X:Cx}{e:K8}{t:TEd}:QEd X e t=(PEd X e t):=by unfold QEd;rfl
@[irreducible] def QAd(X:Cx)(e:List K8)(t:TAd):Prop:=PAd X e t
theorem QAd.eq{X:Cx}{e:List K8}{t:TAd}:QAd X e t=(PAd X e t):=by unfold QAd;rfl
@[irreducible] def QTd(X:Cx)(e:K8)(t:TTd):Prop:=PTd X e t
theorem QTd.eq{X:Cx}{e:K8}{t:TTd}:QTd X e t=(PTd X e t):=by unfold QTd;rfl
@[irreducible] def QWd(X:Cx)(e:K8)(t:TTd):Prop:=PWd X e t
theorem QWd.eq{X:Cx}{e:K8}{t:TTd}:QWd X e t=(PWd X e t):=by unfold QWd;rfl
@[irreducible] def QSd(X:Cx)(e:W8)(t:TSd):Prop:=PSd X e t
theorem QSd.eq{X:Cx}{e:W8}{t:TSd}:QSd X e t=(PSd X e t):=by unfold QSd;rfl
@[irreducible] def QSs(X:Cx)(e:List W8)(t:TSd):Prop:=xZ X e t
theorem QSs.eq{X:Cx}{e:List W8}{t:TSd}:QSs X e t=(xZ X e t):=by unfold QSs;rfl
@[irreducible] def QId(X:Cx)(a e:K8)(t:TId):Prop:=PId X a e t
theorem QId.eq{X:Cx}{a e:K8}{t:TId}:QId X a e t=(PId X a e t):=by unfold QId;rfl
@[irreducible] def QIf(X:Cx)(e:List K8)(t:TTd):Prop:=CJ X e t
theorem QIf.eq{X:Cx}{e:List K8}{t:TTd}:QIf X e t=(CJ X e t):=by unfold QIf;rfl
@[irreducible] def QOd(X:Cx)(e:Option K8)(t:TOd):Prop:=POd X e t
theorem QOd.eq{X:Cx}{e:Option K8}{t:TOd}:QOd X e t=(POd X e t):=by unfold QOd;rfl
theorem aa{X:Cx}(i:Nat){x:Str}{pos:Pos}(l:X.N[i]?=some x:=by rfl)(b:Vis X.env.scope x:=by first|exact L7 rfl|exact ai9 (L7 rfl)|exact ai9 (ai9 rfl))(f:(x==("__debug__":Str))=false:=by decide)
  (a:(x==("__classdict__":Str))=false:=by decide):QEd X (.Name x pos) (fA i):=by
 simp only[QEd.eq]at *
 exact(wF l b f a).conv λn H Q ⟨o,M,R,g,h,⟨d,e,q⟩,k⟩=>let⟨v,j,m⟩:=g.2 i d e;⟨v,j,k d M v H q (Ext.refl _ _) h m⟩
theorem ah{X:Cx}{i j pos}:QEd X (.Constant (.int i) j pos) (dC (.int i)):=by
 simp only[QEd.eq]at *
 exact BM.conv λf H Q a=>a.el λg M R e b q k=>k _ M _ H q (Ext.refl _ _) b (by simp[Rep])
theorem iJ{X:Cx}{i j pos}:QEd X (.Constant (.bool i) j pos) (dC (.bl i)):=by
 simp only[QEd.eq]at *
 exact Cz.conv λf H Q a=>a.el λg M R e b q k=>k _ M _ H q (Ext.refl _ _) b (by simp[Rep])
theorem cX{X:Cx}{i j pos}:QEd X (.Constant (.str i) j pos) (dC (.str i)):=by
 simp only[QEd.eq]at *
 exact wm.conv λf H Q a=>a.el λg M R e b q k=>k _ M _ H q (Ext.refl _ _) b (by simp[Rep])
theorem mw{X:Cx}{j pos}:QEd X (.Constant .none j pos) (dC .non):=by
 simp only[QEd.eq]at *
 exact BP.conv λf H Q a=>a.el λg M R e b q k=>k _ M _ H q (Ext.refl _ _) b (by simp[Rep])
theorem xf{X:Cx}{x:Str}{i:Int}{pos:Pos}(hg:Gl X x)(f:∃e,X.mg x=some (.int i e))(a:(x==("__debug__":Str))=false:=by decide):QEd X (.Name x pos) (dC (.int i)):=by
 simp only[QEd.eq]at *
 obtain⟨t,b⟩:=f;exact xX hg b a
theorem xB{X:Cx}{x y:Str}{pos:Pos}(hg:Gl X x)(f:∃e,X.mg x=some (.str y e))(a:(x==("__debug__":Str))=false:=by decide):QEd X (.Name x pos) (dC (.str y)):=by
 simp only[QEd.eq]at *
 obtain⟨t,b⟩:=f;exact yW hg b a
theorem ag{X:Cx}:QAd X [] CV:=by
 simp only[QAd.eq]at *
 exact dY.conv λf H Q a=>a.el λg M R e b q k=>k _ M _ H q (Ext.refl _ _) b aq.nil
theorem ae{X:Cx}{a:K8}{b:List K8}{n:TEd}{m:TAd}(ha:QEd X a n)(hr:QAd X b m)(s:E9 (a::b) X.env=(false,X7 a X.env)::E9 b X.env:=by rfl):QAd X (a::b) (zQ n m):=by
 simp only[QEd.eq,QAd.eq]at *
 exact(bF ha hr s).conv λA H Q e=>e.el λl M R i hr q k=>⟨l,M,_,i,hr,q,λd M1 v x w j f t=>⟨l,M1,_,i.ext j,f,w,λz M2 B u p o h g =>
   k _ M2 _ u p (j.trans o) h (aq.cons (t.ext o) g)⟩⟩
theorem bf{X:Cx}{f:List K8}{pos:Pos}{x1}{t:TAd}(h:QAd X f t):QEd X (.Tuple f x1 pos) (DW t):=by
 simp only[QEd.eq,QAd.eq]at *
 exact(BR h).conv λs H Q e=>e.el λl M R i j q k=>⟨l,M,_,i,j,q,λw M1 n u ⟨z,o⟩ m a g=>⟨by rw[<-g.length];exact z,λp b=>k _ M1 _ _ o (m.trans (Ext.new a b)) (a.new b) (by
   simp only[Rep];exact⟨p,n,rfl,.inl ⟨.inl aY,a.fresh b⟩,g.ext (Ext.new a b)⟩)⟩⟩
theorem cA{X:Cx}{f:List K8}{pos:Pos}{t:TAd}(h:QAd X f t):QEd X (.List f pos) (C9 t):=by
 simp only[QEd.eq,QAd.eq]at *
 exact(xE h).conv λs H Q e=>e.el λl M R i j q k=>⟨l,M,_,i,j,q,λw M1 n u ⟨z,o⟩ m a g=>⟨by rw[<-g.length];exact z,λp b=>k _ M1 _ _ o (m.trans (Ext.new a b)) (a.new b) (by
   simp only[Rep];exact⟨p,n,rfl,⟨aY,a.fresh b⟩,g.ext (Ext.new a b)⟩)⟩⟩
theorem dI{X:Cx}{f:List K8}{pos:Pos}{t:TAd}(h:QAd X f t):QEd X (.List f pos) (zV t):=by
 simp only[QEd.eq,QAd.eq]at *
 exact(xE h).conv λo H Q b=>b.el λl M R i j q k=>⟨l,M,_,i,j,q,λw M1 u s ⟨z,n⟩ m a g=>⟨by rw[<-g.length];exact z,λp e=>k _ _ _ _ (n p (a.fresh e)) (m.trans (Ext.own e)) (a.own e g) (by
   simp only[Rep])⟩⟩
theorem az{X:Cx}{a:K8}{b:K8}{e:TEd}{g:TEd}{pos:Pos}{f:ap3}{r:D->D->Option D}(h:bB X (W3 f) r)(ha:QEd X a e)(i:QEd X b g):QEd X (.BinOp a f b pos) (dOp r e g):=by
 simp only[QEd.eq]at *
 exact(zG h.v ha i).conv vZ
theorem ky{X:Cx}{a:K8}{b:K8}{f:TEd}{g:TEd}{pos:Pos}{e:an2}{r:D->D->Option D}(h:bB X (L8 e) r)(ha:QEd X a f)(j:QEd X b g)(i:ad2 e b=false):QEd X (.Compare a [e] [b] pos) (dOp r f g):=by
 simp only[QEd.eq]at *
 exact(yr h.v ha j i).conv vZ
theorem aB{X:Cx}{a:K8}{b:K8}{e:TEd}{f:TEd}{pos:Pos}{r:D->D->Option D}(g:IxR X (opV X.K r))(ha:QEd X a e)(i:QEd X b f)(h:r8 b):QEd X (.Subscript a b pos) (dOp r e f):=by
 simp only[QEd.eq]at *
 exact(CB g ha i h).conv vZ
theorem xT{X:Cx}{a:K8}{p:TEd}{pos:Pos}{m:UnaryOp}{r:D->Option D}(J:DQ X (unaryOp m) r)(ha:QEd X a p):QEd X (.UnaryOp m a pos) (dUn r p):=by
 simp only[QEd.eq]at *
 have h:UnR X (unaryOp m) (λx H Q=>∃g i M,HR X.K M H/\aM X.K M H g x/\r g=some i/\∀w b,Ext M H M b->HR X.K M b->Rep X.K M b i w->Q w b):=λN s t H x v Q I B ⟨g,i,M,j,L,e,k⟩=>J N s t H M x v g i Q I j B L e k;exact(B4 h ha).conv λt H Q l=>l.el λC M R u j q k=>⟨C,M,_,u,j,q,λx M1 v S ⟨z,G,E⟩ A f O=>⟨_,z,M1,f,O.rd f,G,λw b P o n=>k z M1 w b E (A.trans P) o n⟩⟩
theorem aH{X:Cx}{a:K8}{b:K8}{o:TEd}{s:TEd}{pos:Pos}{j:an2}{r:D->D->Option D}(B:bB X (L8 j) r)(ha:QEd X a o)(I:QEd X b s)(G:ad2 j b=false):QTd X (.Compare a [j] [b] pos) (mX (dOp r o s)):=by
 simp only[QEd.eq,QTd.eq]at *
 refine(zu B.v ha I G).conv λT H Q h=>?_;obtain⟨n,M,R,l,t,q,k⟩:=h;exact⟨n,M,_,l,t,q,λx M1 v S J m i L=>⟨n,M1,_,l.ext m,i,J,λy M2 u U ⟨z,P,b,A,E⟩ p e N=>⟨_,_,z,M2,e,(L.ext p).rd e,N.rd e,P,λw O C f g =>
  ⟨b,by subst A;simpa only[Rep]using g,k b M2 O E ((m.trans p).trans C) f⟩⟩⟩⟩
theorem bg{X:Cx}{a:K8}{e:TEd}(h:QEd X a e)(he:∀b,isTrue a X.env b=(do let v <-b;am1 a.pos;ak4 [v] (truthy v)):=by intro _;rfl):QTd X a (mX e):=by
 simp only[QEd.eq,QTd.eq]at *
 exact(Ai h he).conv Dg
theorem bG{X:Cx}{a:K8}{pos:Pos}{g:TTd}(h:QTd X a g):QTd X (.UnaryOp .Not a pos) (zP g):=by
 simp only[QTd.eq]at *
 exact(Az h).conv λp H Q e=>e.el λl M R i j q k=>⟨l,M,_,i,j,q,λb M1 m o n f=>k _ M1 m o n f⟩
theorem fU{X:Cx}{a:K8}{pos:Pos}{b:TTd}(ha:QTd X a b):QWd X (.BoolOp .And [a] pos) b:=by
 simp only[QTd.eq,QWd.eq]at *
 exact yz ha
theorem dJ{X:Cx}{a:K8}{pos:Pos}{b:TTd}(ha:QTd X a b):QWd X (.BoolOp .Or [a] pos) b:=by
 simp only[QTd.eq,QWd.eq]at *
 exact A6 ha
theorem gO{X:Cx}{a:K8}{b:K8}{pos:Pos}{m:TTd}{e:TTd}{rest:List K8}(ha:QTd X a m)(t:QWd X (.BoolOp .And (b::rest) pos) e):QWd X (.BoolOp .And (a::b::rest) pos) (sV m e):=by
 simp only[QTd.eq,QWd.eq]at *
 exact(Bc ha t).conv λx H Q i=>i.el λn M R l o q k=>⟨n,M,_,l,o,q,λc M1 p g h f=>by
   cases c with
   |true=>simp only[if_true]at g ⊢;exact⟨n,M1,R,l.ext h,f,g,λb M2 u s w j=>k b M2 u s (h.trans w) j⟩
   |false=>simp only[F1,if_false]at g ⊢;exact k _ M1 p g h f⟩
theorem et{X:Cx}{a:K8}{b:K8}{pos:Pos}{m:TTd}{e:TTd}{rest:List K8}(ha:QTd X a m)(t:QWd X (.BoolOp .Or (b::rest) pos) e):QWd X (.BoolOp .Or (a::b::rest) pos) (Dh m e):=by
 simp only[QTd.eq,QWd.eq]at *
 exact(CP ha t).conv λx H Q i=>i.el λn M R l o q k=>⟨n,M,_,l,o,q,λc M1 p g h f=>by
   cases c with
   |false=>simp only[F1,if_false]at g ⊢;exact⟨n,M1,R,l.ext h,f,g,λb M2 u s w j=>k b M2 u s (h.trans w) j⟩
   |true=>simp only[if_true]at g ⊢;exact k _ M1 p g h f⟩
theorem iO{X:Cx}{a:K8}{b:TEd}{pos:Pos}{op}(h:QEd X a b):QEd X (.BoolOp op [a] pos) b:=by
 simp only[QEd.eq]at *
 exact Bb h
theorem eP{X:Cx}{a:K8}{b:K8}{n:TEd}{o:TEd}{pos:Pos}{rest:List K8}(ha:QEd X a n)(u:QEd X (.BoolOp .And (b::rest) pos) o):QEd X (.BoolOp .And (a::b::rest) pos) (CN n o):=by
 simp only[QEd.eq]at *
 exact(AU ha u).conv λC H Q i=>i.el λm M R l p q k=>⟨m,M,_,l,p,q,λd M1 v s ⟨c,e,g⟩ h f z=>⟨c,by subst e;simpa only[Rep]using z,by
   cases c with
   |true=>simp only[if_true]at g ⊢;exact⟨m,M1,R,l.ext h,f,g,λb M2 w A t B j x=>k b M2 w A t (h.trans B) j x⟩
   |false=>simp only[F1,if_false]at g ⊢;exact k _ M1 _ s g h f (by simp[Rep])⟩⟩
theorem xG{X:Cx}{a:K8}{g:TEd}{pos:Pos}(ha:QEd X a g):QEd X (.UnaryOp .Not a pos) (Da g):=by
 simp only[QEd.eq]at *
 exact(BJ ha).conv λp H Q b=>b.el λj M R h i q k=>⟨j,M,_,h,i,q,λd M1 v l ⟨c,e,o⟩ m f n =>
  ⟨c,by subst e;simpa only[Rep]using n,k _ M1 _ l o m f (by simp[Rep])⟩⟩
theorem Eb{X:Cx}{a:K8}{b:K8}{c:K8}{u:TEd}{w:TEd}{pos:Pos}{t:TTd}(A:QTd X c t)(ha:QEd X a u)(z:QEd X b w):QEd X (.IfExp c a b pos) (dIf t u w):=by
 simp only[QEd.eq,QTd.eq]at *
 exact(wX A ha z).conv λC H Q j=>j.el λn M R i x q k=>⟨n,M,_,i,x,q,λc M1 B h g f=>by
   cases c with
   |true=>simp only[if_true]at h ⊢;exact⟨n,M1,R,i.ext g,f,h,λb M2 m p l s e o=>k b M2 m p l (g.trans s) e o⟩
   |false=>simp only[F1,if_false]at h ⊢;exact⟨n,M1,R,i.ext g,f,h,λb M2 m p l s e o=>k b M2 m p l (g.trans s) e o⟩⟩
theorem sQ{X:Cx}{a:K8}{b:K8}{c:K8}{G:TEd}{N:TEd}{pos:Pos}{tc:TEd}{B e:an2}{r L:D->D->Option D}(T:bB X (L8 B) r)(C:bB X (L8 e) L)(ha:QEd X a G)(hb:QEd X b N)(hc:QEd X c tc)
  (hm:ai6 [B,e] [b,c]=false:=by with_unfolding_all rfl):QEd X (.Compare a [B,e] [b,c] pos) (rE r L G N tc):=by
 simp only[QEd.eq]at *
 refine(uU T.v C.v ha hb hc hm).conv λσ H Q h=>?_;obtain⟨A,M,R,o,O,q,k⟩:=h;refine⟨A,M,_,o,O,q,λx M1 v H1 q1 j s rv=>⟨A,M1,_,o.ext j,s,q1,λy M2 u H2 ⟨b,S,m⟩ n g I=>⟨_,_,.bl b,M2,g,(rv.ext n).rd g,I.rd g,S,λw H3 l i p =>
  ⟨b,by simpa only[Rep]using p,?_⟩⟩⟩⟩
 cases b with
 |true =>
  simp only[if_true]at m ⊢;exact⟨A,M2,_,(o.ext (j.trans n)).ext l,i,m,λz J w4 H4 ⟨d,P,Z⟩ E f Y=>⟨_,_,d,J,f,((I.ext l).ext E).rd f,Y.rd f,P,λw5 H5 e5 t U=>k d J w5 H5 Z ((((j.trans n).trans l).trans E).trans e5) t U⟩⟩
 |false =>
  simp only[F1,if_false]at m ⊢;exact k _ M2 _ H3 m ((j.trans n).trans l) i (by simp[Rep])
theorem vA{X:Cx}{a:K8}{b:K8}{c:K8}{J:TEd}{P:TEd}{pos:Pos}{tc:TEd}{E e:an2}{r O:D->D->Option D}(Y:bB X (L8 E) r)(G:bB X (L8 e) O)(ha:QEd X a J)(hb:QEd X b P)(hc:QEd X c tc)
  (hm:ai6 [E,e] [b,c]=false:=by with_unfolding_all rfl):QTd X (.Compare a [E,e] [b,c] pos) (mX (rE r O J P tc)):=by
 simp only[QEd.eq,QTd.eq]at *
 refine(vk Y.v G.v ha hb hc hm).conv λσ H Q h=>?_;obtain⟨C,M,R,p,S,q,k⟩:=h;refine⟨C,M,_,p,S,q,λx M1 v H1 q1 m A rv=>⟨C,M1,_,p.ext m,A,q1,λy M2 u H2 ⟨b,U,j⟩ o i L=>⟨_,_,.bl b,M2,i,(rv.ext o).rd i,L.rd i,U,λw H3 n l s =>
  ⟨b,by simpa only[Rep]using s,?_⟩⟩⟩⟩
 cases b with
 |true =>
  simp only[if_true]at j ⊢;exact⟨C,M2,_,(p.ext (m.trans o)).ext n,l,j,λz N w4 H4 ⟨d,T,t,f,q4⟩ I g r4=>⟨_,_,d,N,g,((L.ext n).ext I).rd g,r4.rd g,T,λw5 H5 e5 B Z=>⟨t,by subst f;simpa only[Rep]using Z,k t N H5 q4 ((((m.trans o).trans n).trans I).trans e5) B⟩⟩⟩
 |false =>
  simp only[F1,if_false]at j ⊢;obtain⟨t,f,j⟩:=j;cases f;exact⟨false,rfl,k _ M2 H3 j ((m.trans o).trans n) l⟩
theorem av{X:Cx}{pos:Pos}{x:Str}{p:Pos}{e:K8}{a:List K8}{t:TAd}{id:String}{r:List D->Option D}(g:bE X (.builtin id) r)(hg:Gl X x)(h:X.mg x=none)(b:W0 x=some (.builtin id))(ha:QAd X (e::a) t)(f:x≠"__name__":=by decide)(hdb:(x==("__debug__":Str))=false:=by decide)
  (he:E9 (e::a) X.env=(false,X7 e X.env)::E9 a X.env:=by rfl) (hpl:(U3 pos (E9 a X.env)).any (·.1)=false:=by rfl):QEd X (.Call (.Name x p) (e::a) [] pos) (dCB r t):=by
 simp only[QEd.eq,QAd.eq]at *
 exact(ic g.v hg h b ha f hdb he hpl).conv zU
theorem aQ{X:Cx}{pos:Pos}{x:Str}{p:Pos}{e:K8}{a:List K8}{t:TAd}{id:String}{r:List D->Option D}(g:bE X (.type id) r)(hg:Gl X x)(h:X.mg x=none)(b:W0 x=some (.type id))(ha:QAd X (e::a) t)(f:x≠"__name__":=by decide)(hdb:(x==("__debug__":Str))=false:=by decide)
  (he:E9 (e::a) X.env=(false,X7 e X.env)::E9 a X.env:=by rfl) (hpl:(U3 pos (E9 a X.env)).any (·.1)=false:=by rfl):QEd X (.Call (.Name x p) (e::a) [] pos) (dCB r t):=by
 simp only[QEd.eq,QAd.eq]at *
 exact(nE g.v hg h b ha f hdb he hpl).conv zU
theorem aN{X:Cx}:QSs X [] pF:=by
 simp only[QSs.eq]at *
 exact sP.conv λD e H a=>a.el λg M E b f q u=>u.nx g M e H q (Ext.refl _ _) f b
theorem ai{X:Cx}{st:W8}{rest:List W8}{t:TSd}{u:TSd}(p:QSd X st t)(m:QSs X rest u):QSs X (st::rest) (zF t u):=by
 simp only[QSd.eq,QSs.eq]at *
 exact(mz p m).conv λD s H b=>b.el λi M E g h q k=>⟨i,M,{ E with nx:=u E },g,h,q,⟨λf l j x n o a e=>⟨f,l,E,e,a,n,k.ext o⟩,k.bk,k.ct,k.rt⟩⟩
theorem ao{X:Cx}{st:W8}{t:TSd}(a:QSd X st t):QSs X [st] t:=by
 simp only[QSd.eq,QSs.eq]at *
 exact pe a
theorem aX{X:Cx}{e:K8}{te:TEd}{pos:Pos}(he:QEd X e te):QSd X (.Return (some e) pos) (DB te):=by
 simp only[QEd.eq,QSd.eq]at *
 exact(qM he).conv λD h H a=>a.el λg M E b f q k=>⟨g,M,_,b,f,q,k.rt⟩
theorem cF{X:Cx}{e:K8}{te:TEd}{pos:Pos}(he:QEd X e te)(m:af9 e none pos.line X.env=ae2 false:=by rfl):QSd X (.Expr e pos) (sG te):=by
 simp only[QEd.eq,QSd.eq]at *
 exact(oW he m).conv λD i H a=>a.el λg M E f j q k=>⟨g,M,_,f,j,q,λd M1 v l n h b _=>k.nx g M1 i l n h b (f.ext h)⟩
theorem aZ{X:Cx}{c:K8}{pos:Pos}{t:TSd}{u:TSd}{l j:List W8}{tc:TTd}(o:QTd X c tc)(ha:QSs X l t)(n:QSs X j u):QSd X (.If c l j pos) (wA tc t u):=by
 simp only[QTd.eq,QSd.eq,QSs.eq]at *
 exact(Ad o ha n).conv λD s H h=>h.el λi M E g m q k=>⟨i,M,_,g,m,q,λb M1 p f e a=>by
   cases b with
   |true=>simp only[if_true]at f ⊢;exact⟨i,M1,E,g.ext e,a,f,k.ext e⟩
   |false=>simp only[F1,if_false]at f ⊢;exact⟨i,M1,E,g.ext e,a,f,k.ext e⟩⟩
theorem aF{X:Cx}{e:K8}{te:TEd}{pos:Pos}{i:Nat}{x:Str}{a:Pos}(s:X.N.Nodup)(hi:X.N[i]?=some x)(n:Loc X.env.scope x)(he:QEd X e te)(o:af9 e (some (.Name x a)) pos.line X.env=ae2 false:=by rfl)(m:X.fn x=true∨X.env.scope.names.lookup x=some .local:=by first|exact .inl rfl|exact .inr rfl|assumption):
  QSd X (.Assign [.Name x a] e pos) (xp i te):=by
 simp only[QEd.eq,QSd.eq]at *
 exact(BN s hi n he o m).conv λD w H b=>b.el λp M E g j q k=>⟨p,M,_,g,j,q,λd M1 v l u h f t=>k.nx _ M1 _ l u h f ((g.ext h).set i t)⟩
theorem CY{X:Cx}{e:K8}{te:TEd}{pos:Pos}{i:Nat}{x:Str}{l:ap3}{r:D->D->Option D}{b:Pos}(P:X.N.Nodup)(hi:X.N[i]?=some x)(J:Loc X.env.scope x)(he:QEd X e te)(G:bB X (ap8 l) r)(t:X.fn x=true∨X.env.scope.names.lookup x=some .local:=by first|exact .inl rfl|exact .inr rfl|assumption):
  QSd X (.AugAssign (.Name x b) l e pos) (CF i te r):=by
 simp only[QEd.eq,QSd.eq]at *
 have h:PIp X l (opV X.K r):=λL s n H x y v u Q I A C q=>G.v L s n H x y v u Q I A C q;refine(AJ P hi J he h t).conv λD n H S=>?_;obtain⟨N,M,E,f,p,⟨d,B,q⟩,k⟩:=S;obtain⟨v,O,T⟩:=f.2 i d B;refine⟨v,O,N,M,_,f,p,q,λy M1 w H1 ⟨z,Z,Y⟩ g a j=>⟨_,_,z,M1,a,(T.ext g).rd a,j.rd a,Z,λw2 U o m R=>k.nx _ M1 _ U Y (g.trans o) m (((f.ext g).ext o).set i R)⟩⟩
theorem tN{X:Cx}{t:TSd}{b:List W8}(i:Nat)(h:QSs X b t):QSs X b (xy i t):=by
 simp only[QSs.eq]at *
 exact PSs.conv h λD e H ⟨w,M,E,f,g,⟨a,x,o,u,q⟩,k⟩=>by
  refine⟨_,mQ M a,E,?_,g.le LeM.del,q,k.ext (Ext.le LeM.del)⟩;obtain⟨v,l,n⟩:=f.2 i _ o;simp only[Rep]at n;subst n;have:=(f.ext (Ext.le (M1:=mQ M a) LeM.del)).set i (Rep.froze (M1:=mQ M a) g LeM.del u nK);have p:e.set i (some (.ref a))=e:=by
   apply List.ext_getElem?;intro j
   by_cases m:j=i
   ·subst m;have s:j<e.length:=(J8.mp l).1;rw[N5 s,l]
   ·rw[T4 (T7 m)]
  rw[p]at this;exact this
theorem lT{X:Cx}{e:K8}{te:TEd}{pos:Pos}{a:K8}{g:GD}(he:QEd X e te)(hg:PGd X a g)(w:swapsWithSole [a] e pos.line X.env=ae2 false:=by rfl)(z:swappedStores [a] e X.env=ae2 none:=by rfl)
  (B:(V5 [a] X.env).map (·.2)=[aj8 a X.env]:=by rfl):QSd X (.Assign [a] e pos) (C6 te g):=by
 simp only[QEd.eq,QSd.eq]at *
 obtain⟨G,u,t⟩:=hg;exact(xq he u w z B).conv λD x H i=>i.el λo M E l s q k=>⟨o,M,_,l,s,q,λd M1 v m ⟨b,p,C⟩ n f A=>t d v x o b M1 m _ (l.ext n) f A p λh j=>k.nx b M1 h m C n f j⟩
theorem ix{X:Cx}{a:K8}{pos:Pos}{s:K8}{h:TAd}{p:Pos}(hg:Gl X "range")(t:X.mg "range"=none)(ha:QAd X [a] h)(u:E9 [a] X.env=[(false,X7 a X.env)]:=by rfl):QId X s (.Call (.Name "range" p) [a] [] pos) (uS h):=by
 simp only[QAd.eq,QId.eq]at *
 exact(uD hg t ha u).conv λI H R e=>e.el λw M E i l q k=>⟨w,M,_,i,l,q,λG M1 J m ⟨j,o,B,A,C⟩ n f z=>by
   subst o;obtain⟨v,x,g⟩:=z.one;have b:v=.int j:=by simpa only[Rep]using g
   subst b;subst x;exact⟨j,rfl,B,A,k _ M1 _ m C n f yh⟩⟩
theorem fq{X:Cx}{pos:Pos}{R:K8}{iter:K8}{p:List W8}{wi:TId}{g:GD}{P:TSd}(hp:T0 (K7 X.prog X.w) X.A X.env X.xe)(hc:X.calm=true)(hi:QId X R iter wi)(hg:PGd X R g)(hb:QSs X p P)
  (hs:∀x,O3 iter X.env x=ae2 x:=by intro _;rfl):QSd X (.For R iter p [] pos) (AM wi g P):=by
 simp only[QSd.eq,QSs.eq,QId.eq]at *
 obtain⟨gv,pg,kg⟩:=hg;refine(wU hp hc hi pg hb hs).conv λD σ H hh=>?_;obtain⟨Z,M,E,U,hr,q,k⟩:=hh;refine⟨Z,M,_,U,hr,q,λl M1 J H1 q1 O T it=>?_⟩;refine⟨λi m b n=>∃ a e,m=l.length-i/\i<=l.length/\Ext M1 H1 e n/\HR X.K e n/\SR X.K e n b a/\bN g P E (l.drop i) a e,⟨l.length,Z,M1,by simp,P9 _,Ext.refl _ _,T,U.ext O,q1⟩,?_⟩;rintro i m A H2 ⟨C,M2,rfl,a1,u,N,B,w⟩;obtain⟨go,stop⟩:=it M2 H2 u N i
 by_cases o:i<l.length
 ·have hd:l[i]?=some l[i]:=by simp[o]
  obtain⟨g1,y1⟩:=go _ hd;rw[aa5 o]at w;simp only[bN]at w;obtain⟨G,eg,f3⟩:=w;refine .inr ⟨g1,λb n=>∃Y,Y<l.length-i/\∃ a e,Y=l.length-(i+1)/\i+1<=l.length/\Ext M1 H1 e n/\HR X.K e n/\SR X.K e n b a/\bN g P E (l.drop (i+1)) a e,λb n z=>z,λx n hy=>?_⟩;obtain⟨L,I,rx⟩:=y1 x n hy;refine kg _ x A C G M2 n _ (B.ext L) I rx eg λa0 S=>?_;refine⟨G,M2,_,S,I,f3,⟨λa e b h s t f j=>?_,λa e b h s t f j=>?_,λa e b h s t f j=>?_,λd e v h s t f Q=>?_⟩⟩
  ·exact⟨_,by lia,a,e,rfl,o,(u.trans L).trans t,f,j,s⟩
  ·exact k.nx a e b h s (((O.trans u).trans L).trans t) f j
  ·exact⟨_,by lia,a,e,rfl,o,(u.trans L).trans t,f,j,s⟩
  ·exact k.rt d e v h s (((O.trans u).trans L).trans t) f Q
 ·rw[ac2 (by lia)]at w;exact .inl ⟨stop (by lia),k.nx C M2 A H2 w (O.trans u) N B⟩
theorem oH{X:Cx}{c:K8}{pos:Pos}{l:List W8}{tc:TTd}{L:TSd}(Q:T0 (K7 X.prog X.w) X.A X.env X.xe)(Y:QTd X c tc)(R:QSs X l L):QSd X (.While c l [] pos) (vp tc L):=by
 simp only[QTd.eq,QSd.eq,QSs.eq]at *
 refine(wu Q Y R).conv λD σ H Z=>?_;obtain⟨U,M,E,N,O,⟨W,⟨S,P⟩,u⟩,k⟩:=Z;refine⟨λm e n=>∃ a f,Ext M H f n/\HR X.K f n/\SR X.K f n e a/\W m a f,⟨S,U,M,Ext.refl _ _,O,N,P⟩,?_⟩;rintro m C H1 ⟨j,M1,t,A,q,T⟩;refine⟨j,M1,_,q,A,u m j M1 T,λb M2 H2 x p w=>?_⟩;cases b with
 |true =>
  simp only[if_true]at x ⊢;refine⟨λe n=>∃s,s<m/\∃ a f,Ext M H f n/\HR X.K f n/\SR X.K f n e a/\W s a f,λe n z=>z,j,M2,_,q.ext p,w,x,⟨λa f e i ⟨s,I,B⟩ o g h=>?_,λa f e i G o g h=>?_,λa f e i ⟨s,I,B⟩ o g h=>?_,λd f v i G o g J=>?_⟩⟩
  ·exact⟨s,I,a,f,(t.trans p).trans o,g,h,B⟩
  ·exact k.nx a f e i G ((t.trans p).trans o) g h
  ·exact⟨s,I,a,f,(t.trans p).trans o,g,h,B⟩
  ·exact k.rt d f v i G ((t.trans p).trans o) g J
 |false =>
  simp only[F1,if_false]at x ⊢;exact k.nx j M2 C H2 x (t.trans p) w (q.ext p)
theorem bS{X:Cx}:QIf X [] xv:=by
 simp only[QIf.eq]at *
 exact λe s a H Q I ⟨g,M,R,f,b,q,k⟩=>zw e s a H Q I (k true M H q (Ext.refl _ _) b)
theorem oE{X:Cx}{c:K8}{tc:TTd}(h:QTd X c tc):QIf X [c] tc:=by
 simp only[QTd.eq,QIf.eq]at *
 exact ym h
theorem m4{X:Cx}{pos:Pos}{i:K8}{iter:K8}{e:K8}{a:ac4}{f:List (Str×F0)}{ms:List Bool}{ar:List Str}{b:List K8}{l:TId}{g:GD}{tc:TTd}{te:TEd}(S:fw X a f ms ar)(n:X.calm=true)(hi:QId X i iter l)(hg:PGa X a f ar i g)
  (h:∀C s H j,QIf (aK X a f (X.N++ar) C s H j) b tc) (he:∀C s H j,QEd (aK X a f (X.N++ar) C s H j) e te)
  (p:∀x,O3 iter X.env x=ae2 x:=by intro _;rfl):QEd X (.ListComp e [⟨i,iter,b,0⟩] a pos) (dLc ms ar.length l g tc te):=by
 simp only[QEd.eq,QId.eq,QIf.eq]at *
 obtain⟨q,o,m⟩:=hg;exact(wk (tc:=upT X.K tc) S n hi o h (wC (te:=up X.K te) he) p).conv (su m)
theorem iB{X:Cx}{pos:Pos}{j:K8}{iter:K8}{h:K8}{a:ac4}{l:List (Str×F0)}{ms:List Bool}{ar:List Str}{f:List K8}{i:Nat}{x:Str}{b e:Pos}{z:TId}{g:GD}{tc:TTd}{te:TEd}(Q:X.N.Nodup)(o:X.N[i]?=some x)(O:X.env.scope.names.lookup x=some .local)
  (m:af9 (.ListComp h [⟨j,iter,f,0⟩] a pos) (some (.Name x e)) b.line X.env=ae2 true) (S:fw X a l ms ar) (T:X.calm=true) (hi:QId X j iter z) (hg:PGa X a l ar j g)
  (n:∀C s H t,QIf (aK X a l (X.N++ar) C s H t) f tc) (he:∀C s H t,QEd (aK X a l (X.N++ar) C s H t) h te)
  (G:∀x,O3 iter X.env x=ae2 x:=by intro _;rfl):QSd X (.Assign [.Name x e] (.ListComp h [⟨j,iter,f,0⟩] a pos) b) (xp i (dLc ms ar.length z g tc te)):=by
 simp only[QEd.eq,QSd.eq,QId.eq,QIf.eq]at *
 obtain⟨Y,B,L⟩:=hg;refine(nO (tc:=upT X.K tc) Q o O m S T hi B n (wC (te:=up X.K te) he) G).conv λD P H R=>?_;obtain⟨I,M,E,u,A,q,k⟩:=R;exact su L P H _ ⟨I,M,_,u,A,q,λd M1 v N J w p U=>k.nx _ M1 _ N J w p ((u.ext w).set i U)⟩
theorem se{X:Cx}{e:K8}{te:TEd}{pos:Pos}{o i:K8}{z G:TEd}{p:Pos}(T:QEd X o z)(hi:QEd X i G)(he:QEd X e te)
  (ha:∀ v,aj8 (.Subscript o i p) X.env v = (do
   let f <-ak4 [v] (X7 o X.env)
   let n <-ak4 [v,f] (X7 i X.env)
   am1 p
   ak4 [v,f,n] (setItem f n v)
   release [v,f,n] []):=by intro _;rfl) (N:swapsWithSole [.Subscript o i p] e pos.line X.env=ae2 false:=by rfl) (P:swappedStores [.Subscript o i p] e X.env=ae2 none:=by rfl)
  (h1:(V5 [.Subscript o i p] X.env).map (·.2)=[aj8 (.Subscript o i p) X.env]:=by rfl):QSd X (.Assign [.Subscript o i p] e pos) (B0 z G te):=by
 simp only[QEd.eq,QSd.eq]at *
 exact(xq he (AD T hi vj ha) N P h1).conv λD Y H t=>t.el λl M E g J q k=>⟨l,M,_,g,J,q,λd M1 v H1 S h w rv=>⟨l,M1,_,g.ext h,w,S,λo M2 f H2 L s x C=>⟨l,M2,_,(g.ext h).ext s,x,L,λi M3 n H3 ⟨a,ds,Q,j,O,Z,m,U,R⟩ u b A=>by
   subst O;subst Z;simp only[Rep]at C A;subst C;subst A;obtain⟨vs,I,B⟩:=b a _ m;refine⟨a,vs,Q,j,rfl,rfl,I,by rw[<-B.length];exact U,?_⟩;exact k.nx l _ Y _ R (((h.trans s).trans u).trans (Ext.write m)) (b.write m (B.set j ((rv.ext s).ext u))) ((((g.ext h).ext s).ext u).ext (Ext.write m))⟩⟩⟩
theorem gu{X:Cx}{e:K8}{te:TEd}{o:K8}{p:TEd}{t j:Pos}(E:QEd X o p)(he:QEd X e te)(C:U6 o "append" X.env (X7 o X.env)=X7 o X.env:=by rfl)
  (h:E9 [e] X.env=(false,X7 e X.env)::E9 [] X.env:=by rfl)
  (G:((U3 j (E9 [e] X.env)).all (λx => !x.1) && (ak1 j (ad1 [] X.env)).all (λx => x.1.isSome)
  &&decide ([e].length+([]:List ae8).length+(if([]:List ae8).isEmpty then 0 else 1)<30))=true:=by rfl)
  (O:(t.endLine==j.line)=true:=by rfl) (I:(U3 j (E9 [] X.env)).any (·.1)=false:=by rfl):QEd X (.Call (.Attribute o "append" t) [e] [] j) (zr p te):=by
 simp only[QEd.eq]at *
 exact(vb ab7 PySem.F.slot_list_append PySem.F.type_list_append (show MtR X "list.append" sR from uf) E (bF he dY h) C G O h I).conv λσ H Q m=>m.el λu M R n A q k=>⟨u,M,_,n,A,q,λo M1 ov H1 ⟨a,l,N,B,Z⟩ s f w=>by
   subst N;simp only[Rep]at w;subst w;obtain⟨T,z,rl⟩:=f a _ B;refine⟨.inl ⟨rfl,T,SqL.of z⟩,u,M1,_,n.ext s,f,Z,λd M2 v H2 ⟨ds,b,P,J⟩ Y i U=>?_⟩;obtain⟨L,S,g⟩:=i a _ b;refine⟨a,L,v,rfl,rfl,S,by rw[<-g.length];exact P,k _ _ _ _ J ((s.trans Y).trans (Ext.write b)) (i.write b (g.append (aq.cons U aq.nil))) (by simp[Rep])⟩⟩
theorem dB{X:Cx}{a:K8}{u:TEd}{pos:Pos}{T:Str}{Tn:String}{p b:Pos}(x:okT Tn=true)(hg:Gl X "isinstance")(C:X.mg "isinstance"=none)(j:Gl X T)(f:X.mg T=none)(m:W0 T=some (.type Tn))(ha:QEd X a u)(g:T≠"__name__":=by decide)(i:(T==("__debug__":Str))=false:=by decide)
  (t:E9 [a,.Name T b] X.env=(false,X7 a X.env)::E9 [.Name T b] X.env:=by rfl) (l:E9 [.Name T b] X.env=(false,X7 (.Name T b) X.env)::E9 [] X.env:=by rfl) (hpl:(U3 pos (E9 [.Name T b] X.env)).any (·.1)=false:=by rfl) :
  QEd X (.Call (.Name "isinstance" p) [a,.Name T b] [] pos) (B6 Tn u):=by
 simp only[QEd.eq]at *
 have G:cL X (.builtin "isinstance") (λw H Q=>∃v d k M,w=[v,.ty Tn]/\aM X.K M H d v/\yo Tn d=some k/\Q (.bl k) H):=by
  intro af s S H w Z Q I n h;obtain⟨v,d,k,M,rfl,rd,o,q⟩:=h;obtain⟨u1,Y,rfl,P,J⟩:=aA.two n;cases J;exact ux x I P rd o q
 refine(ic G hg C (by kernel_rfl) (bF ha (bF (sM (v:=.ty Tn) j f m rfl g i) dY l) t) (by decide) (by decide) t hpl).conv λS H Q U=>?_;obtain⟨E,M,R,z,A,q,k⟩:=U;exact⟨E,M,_,z,A,q,λd M1 v O ⟨L,o,N⟩ B e n=>⟨v,_,L,M1,rfl,n.rd e,o,k _ M1 _ O N B e (by simp[Rep])⟩⟩
theorem bu{X:Cx}:QOd X none oy:=by
 simp only[QEd.eq,QAd.eq,QTd.eq,QWd.eq,QSd.eq,QSs.eq,QId.eq,QIf.eq,QOd.eq]at *
 exact zA 
theorem bh{X:Cx}{e:K8}{te:TEd}(h:QEd X e te):QOd X (some e) (vV te):=by
 simp only[QEd.eq,QAd.eq,QTd.eq,QWd.eq,QSd.eq,QSs.eq,QId.eq,QIf.eq,QOd.eq]at *
 exact xQ (h:=h)
theorem qc{X:Cx}{e:K8}{a:List K8}{t:TAd}{pos:Pos}{p:Pos}{x:Str}{k:Nat}{n:Nat}{S:SpD}(F:FnD X.prog X.w X.K X.mg X.base x k n S)(hr:cc k X.A)(hg:Gl X x)(ha:QAd X (e::a) t)(hdb:(x==("__debug__":Str))=false:=by decide)(he:E9 (e::a) X.env=(false,X7 e X.env)::E9 a X.env:=by rfl)(hpl:(U3 pos (E9 a X.env)).any (·.1)=false:=by rfl):
  QEd X (.Call (.Name x p) (e::a) [] pos) (qD n S t):=by
 simp only[QEd.eq,QAd.eq,QTd.eq,QWd.eq,QSd.eq,QSs.eq,QId.eq,QIf.eq,QOd.eq]at *
 exact dc (F:=F) (hr:=hr) (hg:=hg) (ha:=ha) (hdb:=hdb) (he:=he) (hpl:=hpl)
theorem lG{X:Cx}{e:K8}{te:TEd}{pos:Pos}(he:QEd X e te):QSd X (.Return (some e) pos) (zS te):=by
 simp only[QEd.eq,QSd.eq]at *
 exact(qM he).conv λD s H f=>f.el λm M E h j q k=>⟨m,M,_,h,j,q,λd M1 v l ⟨a,t,o,i,p⟩ n b g=>by
  subst o;simp only[Rep]at g;subst g;exact k.rt _ _ _ l p (n.trans (Ext.le LeM.del)) (b.le LeM.del) (Rep.froze b LeM.del i nK)⟩
theorem bb{X:Cx}{te:TEd}{tg:K8}{iter:K8}(h:QEd X iter te):QId X tg iter (pL te):=by
 simp only[QEd.eq,QId.eq]at *
 intro af s σ H R I hh;obtain⟨Δ,M,R',sr,hr,q,k⟩:=hh;refine thn (h af s σ H (λv l=>∃d S M1,iY d=some S/\(S.length<=F2->R' S M1)/\Ext M H M1 l/\HR X.K M1 l/\Rep X.K M1 l d v) I ⟨Δ,M,_,sr,hr,q,λd M1 v l ⟨S,n,P⟩ N j B=>⟨d,S,M1,n,P,N,j,B⟩⟩) λu C ⟨v,l,m,r1,d,S,M1,n,P,N,j,B⟩=>?_;have lo:=aM.len (K:=X.K) m B;cases d with
 |tup es =>
  cases n;simp only[Rep]at B;obtain⟨a,z,rfl,f,J⟩:=B;cases r1;obtain⟨L,U,p,O⟩:=m.tuple f.sq;refine ac3 (show C.heap.IsTuple a L.toArray from p) ?_;refine⟨C.heap.objs.size,[C.heap.objs.size],_,_,l,rfl,m.kept (t':=C.toks) λb o e=>u8 _ e,rS a _,⟨_,F9 _ rfl,rfl,rfl⟩,rH (o:=default) m,?_⟩;refine k _ M1 _ l (P lo) N j λM2 H2 g w i=>⟨λd Z=>?_,λY=>⟨z,(f.ext g).sq,by rw[<-J.length];exact Y⟩⟩;obtain⟨v,G,r⟩:=J.get Z;refine⟨⟨z,v,(f.ext g).sq,G⟩,λx H' ⟨T,y⟩=>?_⟩;subst T;have:=y z (f.ext g).sq;rw[G]at this;cases this;exact⟨Ext.refl _ _,w,r.ext g⟩
 |lst es =>
  cases n;simp only[Rep]at B;obtain⟨a,z,rfl,f,J⟩:=B;cases r1;obtain⟨L,U,p,O⟩:=m.list (SqL.of f.1);refine U2 p.isList ?_;refine⟨C.heap.objs.size,[C.heap.objs.size],_,_,l,rfl,m.kept (t':=C.toks) λb o e=>u8 _ e,nY a _,⟨_,F9 _ rfl,rfl,rfl⟩,rH (o:=default) m,?_⟩;refine k _ M1 _ l (P lo) N j λM2 H2 g w i=>⟨λd Z=>?_,λY=>⟨z,SqL.of (f.ext g).1,by rw[<-J.length];exact Y⟩⟩;obtain⟨v,G,r⟩:=J.get Z;refine⟨⟨z,v,SqL.of (f.ext g).1,G⟩,λx H' ⟨T,y⟩=>?_⟩;subst T;have:=y z (SqL.of (f.ext g).1);rw[G]at this;cases this;exact⟨Ext.refl _ _,w,r.ext g⟩
 |scr es =>
  cases n;simp only[Rep]at B;obtain⟨a,z,rfl,f,J⟩:=B;cases r1;obtain⟨L,U,p,O⟩:=m.list f.sq;refine U2 p.isList ?_;refine⟨C.heap.objs.size,[C.heap.objs.size],_,_,l,rfl,m.kept (t':=C.toks) λb o e=>u8 _ e,nY a _,⟨_,F9 _ rfl,rfl,rfl⟩,rH (o:=default) m,?_⟩;refine k _ M1 _ l (P lo) N j λM2 H2 g w i=>⟨λd Z=>?_,λY=>⟨z,(f.ext g).sq,by rw[<-J.length];exact Y⟩⟩;obtain⟨v,G,r⟩:=J.get Z;refine⟨⟨z,v,(f.ext g).sq,G⟩,λx H' ⟨T,y⟩=>?_⟩;subst T;have:=y z (f.ext g).sq;rw[G]at this;cases this;exact⟨Ext.refl _ _,w,r.ext g⟩
 |str x =>
  simp only[iY]at n
  by_cases O:x.length<=F2
  ·rw[if_pos O]at n;cases n;simp only[Rep]at B;subst B;obtain⟨t,rfl⟩:=r1;have hq:=k _ M1 _ l (P (by have a0:x.cps.size<=F2:=O;simpa[fT]using a0)) N j A8;cases ha:x.cps.all (·<128)
   ·exact wpAny_pyIter_wide ha (sE m "str_iterator" (by decide) (λA hA=>Walks.strWide hA _ x t) (λA i s' Q E st q=>wpAny_pyIter_striter_wide st q) hq)
   ·exact wpAny_pyIter_ascii ha (sE m "str_ascii_iterator" (by decide) (λA hA=>Walks.strAscii hA _ x t) (λA i s' Q E st q=>wpAny_pyIter_striter_ascii st q) hq)
  ·rw[if_neg O]at n;cases n
 |_=>cases n
theorem cE{X:Cx}{e:K8}{te:TEd}{pos:Pos}(he:QEd X e te):QSd X (.Return (some e) pos) (zW te):=by
 simp only[QEd.eq,QSd.eq]at *
 exact(qM he).conv λD o H b=>b.el λj M E g h q k=>⟨j,M,_,g,h,q,λd M1 v i ⟨M2,a,n⟩ l f m =>
  k.rt _ _ _ i n (l.trans (Ext.le a)) (f.le a) (m.ext (Ext.le a))⟩
theorem aV{X:Cx}{e:K8}{te:TEd}{pos:Pos}{lo hi:Option K8}{S T:TOd}{p2:Pos}(he:QEd X e te)(hl:QOd X lo S)(U:QOd X hi T):QEd X (.Subscript e (.Slice lo hi none p2) pos) (Di te S T):=by
 simp only[QEd.eq,QOd.eq]at *
 refine(wY (SlR.or yj (SlR.or BV (SlR.or AI uY))) he hl U).conv λσ H Q hh=>?_;obtain⟨I,M,R,A,Y,q,k⟩:=hh;refine⟨I,M,_,A,Y,q,λx M1 v H1 q1 B C rv=>⟨I,M1,_,A.ext B,C,q1,λl M2 H2 q2 O J=>⟨I,M2,_,(A.ext B).ext O,J,q2,λu h E ⟨z,g,q3⟩ P b=>?_⟩⟩⟩;have i:=((rv.ext O).ext P).rd b;have ee:=(B.trans O).trans P;have t:∀w n,Ext h E h n->HR X.K h n->Rep X.K h n z w->Q w n:=λw n e4 G Z=>k z h w n q3 (ee.trans e4) G Z;generalize rdM h x=d at i g;cases d with
 |lst j =>
  cases g;obtain⟨a,m,rfl,sq,f⟩:=i;refine .inl ⟨a,m,rfl,SqL.of sq,λp o=>eO b o ?_ t⟩;unfold cY o8;rw[<-f.length];exact(f.drop _).take _
 |scr j =>
  cases g;obtain⟨a,m,rfl,sq,f⟩:=i;refine .inl ⟨a,m,rfl,sq,λp o=>eO b o ?_ t⟩;unfold cY o8;rw[<-f.length];exact(f.drop _).take _
 |str s =>
  simp only[slE,slD]at g
  by_cases L:s.length<=F2
  ·rw[if_pos L]at g;cases g;exact .inr (.inr (.inl ⟨s,mG i,L,t _ E (Ext.refl _ _) b (by simp[Rep])⟩))
  ·rw[if_neg L]at g;cases g
 |tup j =>
  cases g;have rt:=aM.tup b i;obtain⟨a,m,rfl,sq,f⟩:=i
  by_cases N:HT.sIx j.length 0 l=0/\HT.sIx j.length j.length u=j.length
  ·refine .inr (.inr (.inr ⟨a,m,rfl,sq,by rw[<-f.length];exact N,t _ E (Ext.refl _ _) b ?_⟩));rw[qN N];exact rt
  ·refine .inr (.inl ⟨a,m,rfl,sq,by rw[<-f.length];exact N,λp o=>lr b o ?_ t⟩);unfold cY o8;rw[<-f.length];exact(f.drop _).take _
 |_=>cases g
theorem pU{X:Cx}{e:K8}{te:TEd}{E:TEd}{pos:Pos}{st:K8}{p2:Pos}(he:QEd X e te)(hs:QEd X st E):QEd X (.Subscript e (.Slice none none (some st) p2) pos) (vB te E):=by
 simp only[QEd.eq]at *
 intro p s z H Q I hh;obtain⟨B,M,R,O,U,q,k⟩:=hh;refine ao8 (thn (he p s z H (λv f=>∃x M1,Rep X.K M1 f x v/\Ext M H M1 f/\HR X.K M1 f/\E B M1 λst M2=>st=.int (-1)/\∃a,x=.tup a/\R (.tup a.reverse) M2) I
  ⟨B,M,_,O,U,q,λx M1 v f N m g G=>⟨x,M1,G,m,g,N⟩⟩) λv s1 ⟨vx,f,I1,r1,x,M1,G,m,g,N⟩=>?_)
 refine wpAny_Slice ?_;rw[al4];refine E5 (E5 ?_);rw[evalPart_some];refine thn (hs p s1 z f (λu l=>∃M2 a,u=.int (-1)/\x=.tup a/\R (.tup a.reverse) M2/\Ext M1 f M2 l/\HR X.K M2 l) I1 ⟨B,M1,_,O.ext m,g,N,λd M2 u l ⟨Y,a,L,t⟩ n h ru=>⟨M2,a,by subst Y;simpa only[Rep]using ru,L,t,n,h⟩⟩) λu i ⟨vu,l,I2,r2,M2,a,eu,L,t,n,h⟩=>?_;subst eu;subst L;obtain⟨tk,rfl⟩:=r2;have j:=G.ext n;simp only[Rep]at j;obtain⟨ad,T,rfl,ta,rl⟩:=j;cases r1;have C:Inv X p z l { i with heap:=i.heap.push { cls:=.type "slice",data:=.fields #[.none,.none,.int (-1) tk] } }:=I2.kept (t':=i.toks) λb ob q=>u8 _ q;obtain⟨J,r,S,P⟩:=C.tuple ta.sq;have hl:=r.length;refine tail_any (ops:=[.ref ad,.ref i.heap.objs.size]) S.typeIs M7.lookup (HT.getItem_tuple_rev S (J6.IsSliceOf.new ..) ?_ (by rw[E8,<-hl];exact P)) (by with_unfolding_all rfl);have Z:aA T.reverse J.reverse:=aA.reverse r;refine⟨.ref _,_,C.laid (t':=i.toks) (o:=.tup T.reverse) (λb ob q=>u8 _ q) (F5 _) ?_,rfl,?_⟩
 ·exact⟨by simpa using P,_,Z,jJ.new _ _⟩
 ·exact lr (ds:=a.reverse) h (C.hok.fresh (F5 _)) rl.reverse λw H' e4 A r4=>k _ M2 w H' t ((m.trans n).trans e4) A r4
theorem yb{X:Cx}{st:W8}:QSd X st uT:=by
 simp only[QSd.eq]at *
 exact λb s a H D I ⟨_,_,_,_,_,q,_⟩=>S1 q
theorem zO{X:Cx}{pos:Pos}:QEd X (.Dict [] [] pos) Ck:=by
 simp only[QEd.eq]at *
 exact λi s g H Q I ⟨h,M,R,f,b,q,k⟩=>by
  have e:=I.hok.fresh (F5 _);refine wpAny_Dict_empty ⟨.ref s.heap.objs.size,_,I.laid (a:=s.heap.objs.size) (o:=.dK []) (t':=s.toks) (λ_ _ q=>u8 _ q) (F5 _) (vo s.heap (yB I)),rfl,?_⟩;refine k _ M _ _ q (Ext.new b e) (b.new e) ?_;simp only[Rep];exact⟨_,rfl,aY,b.fresh e⟩
section
variable{X:Cx}{rest:List W8}{t:TSd}{e:K8}{g:TTd}
theorem zx(h:QSs X rest t):xZ X rest t:=by
 rw[QSs.eq]at h;exact h
theorem fE(h:QWd X e g):QTd X e g:=by
 simp only[QWd.eq,QTd.eq]at *
 exact PWd.pt h
end
end L2
namespace L2
open PySem PySem.Spec PyProof.Rows PySem.Builtin.Str
theorem rf(c:Nat)(n:Nat):Txt.mul (tx [c]) (n:Int)=tx (F3 n c):=by
 have f:∀(k:Nat) (a:Array Nat),(F3 k #[c]).foldl (·++·) a=a++(F3 k c).toArray:=by
  intro k
  induction k with
  |zero=>intro a;simp
  |succ k ih =>
   intro a;rw[P8,List.foldl_cons,ih,P8];apply Array.ext';simp
 unfold Txt.mul
 by_cases b:n=0
 ·subst b;rfl
 ·rw[if_neg (by lia)]
  by_cases e:n=1
  ·subst e;rfl
  ·rw[if_neg (by simp[oK];lia)];show(⟨(F3 (n:Int).toNat #[c]).foldl (·++·) #[]⟩:Str)=_;rw[f];simp[tx]
end L2
namespace L2
open PySem PySem.Spec PyProof.Rows
def Few(n:Int):Prop:=K1.Int.intBits n<=2 ^ 20
end L2
namespace Att
open PySem PySem.W PySem.Calls PyProof.Rows
end Att
namespace L2
open PySem PySem.Spec PyProof.Rows
section
variable{X:Cx}{pos:Pos}
def zN(i j:Int):Prop:=jU i j∨(Few i/\Few j)
theorem zN.ok{i j:Int}(h:zN i j):IntMulOk i j:=by
 rcases h with h|⟨a,b⟩
 ·exact h.ok
 ·exact .of_bits a b
theorem C3{K:E2}{M:DH}{H:Hp}{a b:D}{xs:List V}(h:ac0 (aM K M H) [a,b] xs):∃v w,xs=[v,w]/\aM K M H a v/\aM K M H b w:=by
 cases h with
 |cons r t =>
  cases t with
  |cons e f=>cases f;exact⟨_,_,rfl,r,e⟩
def dmD:List D->Option D
 |[.int i,.int j]=>if mI i j then some (.tup [.int (i / j),.int (i % j)])else none
 |_=>none
noncomputable def Bo:List D->Option D
 |[.int i,.int j]=>some (.int (if j > i then j else i))
 |_=>none
theorem Ae(g:X.calm=true):bE X (.builtin "max") Bo:=bE.of (uO g) λH M m n l Q a b e q=>by
 unfold Bo at e
 split at e
 ·rename_i i j;cases e;obtain⟨v,w,rfl,f,h⟩:=C3 b;rw[fQ f,fQ h];exact⟨i,j,rfl,q _ H (Ext.refl _ _) a (by simp[Rep])⟩
 ·cases e
end
open AutoSeq1 (wpAny_loadPart')
section
variable{prog:K3}{w:Q5}{A:M9}{E:E1->E6->Prop}{s:E6}
theorem kQ{it t:F0}{i:Nat}{its}{x:E1}{Q:E1->E6->Prop}(a:s.heap.IsTupleIter it t i)(l:s.heap.IsTuple t its)(h:its[i]?=some x)
  (j:∀h',h'.IsTupleIter it t (i+1)->Z6 it s.heap h'->Q x { s with heap:=h' }):H0 (K7 prog w) A (N8 (.ref it)) Q E s:=by
 obtain⟨o,e,m,b⟩:=id a;obtain⟨p,g,_,n,f⟩:=l;unfold N8;refine o0 (R0 (name:=R7 "__next__") a.typeIs Z5 (V0 Z5 a.typeIs F.entry_tuple_iterator_next ?_ (F.args_tuple_iterator_next_1 _)));show H0 _ _ (field (.ref it) 0 >>= _) _ _ s;refine o0 (P1 e b (x:=.ref t) rfl ?_);show H0 _ _ (if(J0 t==J5)=true then _ else _) _ _ s;rw[if_neg (show ¬ ((J0 t==J5)=true)from O7)];show H0 _ _ (field (.ref it) 1 >>= _) _ _ s;refine o0 (P1 e b (x:=.int i 0) rfl ?_);show H0 _ _ (seqItems? (.ref t) >>= _) _ _ s;refine o0 (X4 g f ?_);simp only[P4,h];refine o0 (ah4 e b (by simp) (E5 ⟨x,rfl,E5 (j _ ?_ (Z6.update ..))⟩));exact⟨_,P5 _ e (Obj.isFreed_of_fields (Z9 b _)),(Obj.cls_mapFields ..).trans m,by rw[Z9 b];simp[ai5]⟩
theorem lD{it t:F0}{i:Nat}{its}{Q:E1->E6->Prop}(l:A.handled=none)(b:s.heap.IsTupleIter it t i)(q:s.heap.IsTuple t its)(n:its[i]?=none)
  (p:∀h' e,J6.ExtBut it s.heap h'->(∃o,h'.get? e=some o/\o.cls=.type "StopIteration")->E (.ref e) { s with heap:=h' }):H0 (K7 prog w) A (N8 (.ref it)) Q E s:=by
 obtain⟨o,g,u,j⟩:=id b;obtain⟨B,h,_,z,f⟩:=q;unfold N8;refine o0 (R0 (name:=R7 "__next__") b.typeIs Z5 (V0 Z5 b.typeIs F.entry_tuple_iterator_next ?_ (F.args_tuple_iterator_next_1 _)));show H0 _ _ (field (.ref it) 0 >>= _) _ _ s;refine o0 (P1 g j (x:=.ref t) rfl ?_);show H0 _ _ (if(J0 t==J5)=true then _ else _) _ _ s;rw[if_neg (show ¬ ((J0 t==J5)=true)from O7)];show H0 _ _ (field (.ref it) 1 >>= _) _ _ s;refine o0 (P1 g j (x:=.int i 0) rfl ?_);show H0 _ _ (seqItems? (.ref t) >>= _) _ _ s;refine o0 (X4 h f ?_);simp only[P4,n];refine o0 (ak9 (o0 (ah4 g j (by simp) ?_)));show H0 _ _ (newExc (.type "StopIteration") [] >>= _) _ _ _;refine o0 ?_;simp only[newExc,newTuple];refine o0 (O4 ?_ (by size_fits));refine o0 (m:=ak6 _ _) (an6 (a:=J5) (by first|rfl|(simp only[ak6];rfl)) ?_);refine O4 ?_ (by size_fits);simp only[raiseNew];refine o0 (wpAny_handled ?_)
 first|rw[show A.in1.handled=none from l]|rw[l]
 refine o0 (E5 (wpAny_throw ?_));exact p _ _ (((Z6.update ..).extBut.push _).push _) ⟨_,F9 _ rfl,rfl⟩
end
theorem gI.upd{X:Cx}{a:List (F0×Obj)}{H:Hp}{b T:F0}{o:HO}(f:gI X a H b)(h:b≠T):gI X a (upd H T o) b:=by
 obtain⟨e,r⟩:=f;exact⟨by rw[aJ h];exact e,r⟩
section
variable{X:Cx}{pos:Pos}
def xc(t:TAd):TEd:=λb M Q=>t b M λe M1=>∃a,e=[.tup a]/\∀p,M1 p=none->Q (.ref p) (aG M1 p (.lst a))
theorem sF{e:K8}{t:TAd}{p:Pos}(hg:Gl X "list")(s:X.mg "list"=none)(i:W0 "list"=some (.type "list"))(ha:QAd X [e] t)
  (he:E9 [e] X.env=(false,X7 e X.env)::E9 [] X.env:=by rfl) (hpl:(U3 pos (E9 [] X.env)).any (·.1)=false:=by rfl):QEd X (.Call (.Name "list" p) [e] [] pos) (xc t):=by
 simp only[QEd.eq,QAd.eq]at *
 exact(nE jA hg s i ha (by decide) (by decide) he hpl).conv λG H Q f=>f.el λw M R j m q k=>⟨w,M,_,j,m,q,λE M1 J C ⟨I,o,B⟩ n b A=>by
   subst o;obtain⟨v,rfl,h⟩:=A.one;simp only[Rep]at h;obtain⟨a,u,rfl,z,x⟩:=h;exact⟨a,u,rfl,.inr z.sq,λl g=>k _ _ _ _ (B l (b.fresh g)) (n.trans (Ext.own g)) (b.own g x) (by simp only[Rep])⟩⟩
theorem A9{i j:Int}:dmD [.int i,.int j]=if mI i j then some (.tup [.int (i / j),.int (i % j)])else none:=rfl
theorem zz{i j:Int}:Bo [.int i,.int j]=some (.int (if j > i then j else i)):=rfl
theorem vf:p7 10 60=True:=by simp[p7]
end
section
variable{X:Cx}{e:K8}{te g:TEd}{pos:Pos}
theorem mM(a:List E1):aq0 a.toArray none none (some (-1))=a.reverse.toArray:=by
 unfold aq0;have f:ad0 none none (some (-1)) a.toArray.size=((a.toArray.size:Int)-1,-1,-1):=by simp[ad0]
 rw[f];have e:sliceRange ((a.toArray.size:Int)-1) (-1) (-1)=(Q4 a.toArray.size).map λ(k:Nat)=>((a.toArray.size:Int)-1+(k:Int)*-1).toNat:=by
  unfold sliceRange;have g:(if(-1:Int) > 0 then(if(a.toArray.size:Int)-1 < -1 then((-1)-((a.toArray.size:Int)-1)+(-1)-1) / (-1)else 0)else(if(a.toArray.size:Int)-1 > -1 then((a.toArray.size:Int)-1-(-1)-(-1)-1) / (-(-1))else 0))=(a.toArray.size:Int):=by
   rw[if_neg (by lia),show(-(-1):Int)=1 from rfl,Int.ediv_one]
   split<;>lia
  simp only[g,P4];apply List.map_congr_left;intro k _;rw[Int.mul_comm]
 simp only[e,List.filterMap_map];have b:=HT.pick_rev a.toArray;show(List.filterMap (λ(m:Nat)=>a.toArray[((a.toArray.size:Int)-1+(m:Int)*-1).toNat]?) (Q4 a.toArray.size)).toArray=_;rw[b]
def Ac(te g:TEd):TEd:=λa M Q=>te a M λx M1=>g a M1 λst M2=>st=.int (-1)/\∃b,rdM M2 x=.lst b/\Q (.lst b.reverse) M2
theorem uA{st:K8}{p2:Pos}(he:QEd X e te)(hs:QEd X st g):QEd X (.Subscript e (.Slice none none (some st) p2) pos) (Ac te g):=by
 simp only[QEd.eq]at *
 intro t s A H Q I hh;obtain⟨C,M,R,O,U,q,k⟩:=hh;refine ao8 (thn (he t s A H (λv h=>∃x M1,Rep X.K M1 h x v/\Ext M H M1 h/\HR X.K M1 h/\g C M1 λst M2=>st=.int (-1)/\∃a,rdM M2 x=.lst a/\R (.lst a.reverse) M2) I
  ⟨C,M,_,O,U,q,λx M1 v h N n i G=>⟨x,M1,G,n,i,N⟩⟩) λv s1 ⟨vx,h,I1,r1,x,M1,G,n,i,N⟩=>?_)
 refine wpAny_Slice ?_;rw[al4];refine E5 (E5 ?_);rw[evalPart_some];refine thn (hs t s1 A h (λu m=>∃M2 a,u=.int (-1)/\rdM M2 x=.lst a/\R (.lst a.reverse) M2/\Ext M1 h M2 m/\HR X.K M2 m) I1 ⟨C,M1,_,O.ext n,i,N,λd M2 u m ⟨Y,a,L,z⟩ p f ru=>⟨M2,a,by subst Y;simpa only[Rep]using ru,L,z,p,f⟩⟩) λu j ⟨vu,m,I2,r2,M2,a,eu,L,z,p,f⟩=>?_;subst eu;obtain⟨tk,rfl⟩:=r2;have l:=(G.ext p).rd f;rw[L]at l;obtain⟨ad,T,rfl,hH,rl⟩:=l;cases r1;have E:Inv X t A m { j with heap:=j.heap.push { cls:=.type "slice",data:=.fields #[.none,.none,.int (-1) tk] } }:=I2.kept (t':=j.toks) λb ob q=>u8 _ q;obtain⟨J,r,P,S⟩:=E.list (SqL.of hH);have hl:=r.length;refine tail_any (ops:=[.ref ad,.ref j.heap.objs.size]) P.isList.typeIs slot_list_getitem.lookup (wpAny_getItem_list_slice P.isList (J6.IsSliceOf.new ..) .none .none (.int _ _) (by decide) ?_ (by rw[E8,<-hl];exact S)) (by with_unfolding_all rfl);rw[mM];have Z:aA T.reverse J.reverse:=aA.reverse r;refine⟨.ref _,_,E.laid (t':=j.toks) (o:=.lst T.reverse) (λb ob q=>u8 _ q) (F5 _) ?_,rfl,?_⟩
 ·exact⟨by simpa using S,_,0,Z,F9 _ rfl⟩
 ·exact eO (ds:=a.reverse) f (E.hok.fresh (F5 _)) rl.reverse λw H' e4 B r4=>k _ M2 w H' z ((n.trans p).trans e4) B r4
end
section
variable{κ:Type} [DecidableEq κ]
noncomputable def rP(a:List (κ×D))(k:κ):Option D:=(a.find? λb=>decide (b.1=k)).map (·.2)
noncomputable def Cj(a:List (κ×D))(k:κ)(v:D):List (κ×D) :=
 if(a.any λb=>decide (b.1=k))=true then a.map (λb=>if b.1=k then(b.1,v)else b)else a++[(k,v)]
theorem vI{p:κ×D}{r:List (κ×D)}{k:κ}(e:p.1=k):rP (p::r) k=some p.2:=by simp[rP,Z0,e]
theorem xr{p:κ×D}{r:List (κ×D)}{k:κ}(e:¬ p.1=k):rP (p::r) k=rP r k:=by simp[rP,Z0,e]
variable{K:E2}{M:DH}{H:Hp}
theorem KR.val{a:List (κ×D)}{ks:List (κ×V)}(h:KR K M H a ks)(k:κ):(∀d,rP a k=some d->∃v,pX ks k=some v/\Rep K M H d v)/\(pX ks k).isSome=(rP a k).isSome:=by
 unfold KR at h
 induction h with
 |nil=>exact⟨λd e=>(nomatch e),rfl⟩
 |@cons p q b f r t ih =>
  by_cases e:p.1=k
  ·rw[vI e,pM (r.1.symm.trans e)];exact⟨λd z=>(by cases z;exact⟨_,rfl,r.2⟩),rfl⟩
  ·rw[xr e,pP (λz=>e (r.1.trans z))];exact ih
theorem KR.any{a:List (κ×D)}{ks:List (κ×V)}(h:KR K M H a ks)(k:κ):(ks.any λb=>decide (b.1=k))=a.any λb=>decide (b.1=k):=by
 unfold KR at h
 induction h with
 |nil=>rfl
 |cons r _ ih=>rw[X0,X0,ih,r.1]
theorem KR.length{a:List (κ×D)}{ks:List (κ×V)}(h:KR K M H a ks):a.length=ks.length:=ac0.length h
theorem KR.put{a:List (κ×D)}{ks:List (κ×V)}(h:KR K M H a ks)(k:κ){d:D}{v:V}(r:Rep K M H d v):KR K M H (Cj a k d) (yy ks k v):=by
 unfold Cj yy;rw[h.any k]
 by_cases e:(a.any λf=>decide (f.1=k))=true
 ·rw[if_pos e,if_pos e];clear e;unfold KR at h ⊢
  induction h with
  |nil=>exact .nil
  |@cons p q g i b t ih =>
   rw[J1,J1];refine .cons ?_ ih
   by_cases e:p.1=k
   ·rw[if_pos e,if_pos (b.1.symm.trans e)];exact⟨b.1,r⟩
   ·rw[if_neg e,if_neg (λz=>e (b.1.trans z))];exact b
 ·rw[if_neg e,if_neg e];exact ac0.snoc h ⟨rfl,r⟩
end
def kD:Key->D
 |.inl i=>.int i
 |.inr x=>.str x
section
variable{X:Cx}{a b c e o i:K8}{g:List K8}{te y z B E:TEd}{t:TAd}{pos:Pos}
end
section
variable{X:Cx}{a b c e o:K8}{y:List K8}{te g:TEd}{t:TAd}{pos:Pos}{z:K8}
noncomputable def D4:List D->Option D
 |[.int i,.int j]=>some (.int (if j<i then j else i))
 |_=>none
noncomputable def eU:List D->Option (List Int)
 |[]=>some []
 |.int i::a=>(eU a).map (i::·)
 |_=>none
theorem ly:∀{ns:List Int},eU (ns.map D.int)=some ns
 |[]=>rfl
 |n::ns=>by simp[eU,ly (ns:=ns)]
def Dq(g:TEd):TEd:=λe M Q=>g e M λo M1=>∃a b d,o=.ref a/\M1 a=some (.lst (b++[d]))/\Q d (aG M1 a (.lst b))
def Dz(g te:TEd):TEd:=λf M Q=>g f M λo M1=>∃a l,o=.ref a/\M1 a=some (.lst l)/\te f M1 λd M2=>∃e b,d=.lst b/\M2 a=some (.lst e)/\e.length+b.length<=F2/\Q .non (aG M2 a (.lst (e++b)))
end
section
variable{X:Cx}{E y z:K8}{pos:Pos}{g:ac4}{G:List (Str×F0)}{ms:List Bool}{ar:List Str}{B:List K8}
end
end L2
namespace L2
open PySem PySem.W PyProof.Rows
section
variable{y z:Type}
def tw(n:Nat)(lt:Nat->Nat->Bool):KasT y->(y->Prop)->Prop
 |.ret a,Q=>Q a
 |.ask i j k,Q=>i<n/\j<n/\tw n lt (k (lt i j)) Q
theorem ir{n:Nat}{lt:Nat->Nat->Bool}{f:y->KasT z}{Q:z->Prop}:∀{t:KasT y},tw n lt t (λa=>tw n lt (f a) Q)->tw n lt (t.bind f) Q
 |.ret _,h=>h
 |.ask _ _ _,h=>⟨h.1,h.2.1,ir h.2.2⟩
theorem wQ{n:Nat}{lt:Nat->Nat->Bool}{b:Nat->Nat->(Bool->E6->Prop)->E6->Prop}{J:E6->Prop}(l:∀i j C s,i<n->j<n->J s->(∀s',J s'->C (lt i j) s')->b i j C s){Q:y->Prop}{G:y->E6->Prop}(g:∀a s,J s->Q a->G a s):
  ∀{t:KasT y} {s:E6},tw n lt t Q->J s->t.kasWp b G s
 |.ret _,s,h,f=>g _ s f h
 |.ask i j k,s,h,f=>l i j _ s h.1 h.2.1 f λs' e=>wQ l g h.2.2 e
variable{O:aa0}{key:Nat->O.α}{n:Nat}
def eA(O:aa0)(key:Nat->O.α)(i j:Nat):Bool:=O.blt (key i) (key j)
def Ab(O:aa0)(key:Nat->O.α):KeyKind:={ O with keyOf:=λv=>match v with|.int i _=>some (key i.toNat)|_=>none,dflt:=key 0 }
def m6(p:Array Nat):Array Keyed:=p.map λ(i:Nat)=>((ah7 (i:Int) 0,J5):Keyed)
noncomputable def kp(O:aa0)(key:Nat->O.α)(p:Array Nat)(i:Nat):O.α:=key (p.getD i 0)
theorem k9{p:Array Nat}{i:Nat}(h:i<p.size):KK (Ab O key) (m6 p) i=kp O key p i:=by
 unfold KK kp m6;rw[Array.getElem?_map,Array.getElem?_eq_getElem h];simp[Ab,al0,h]
theorem zy{p:Array Nat}{i j:Nat}:m6 (kas_rev p i j)=mirror (m6 p) i j ((j-i) / 2):=by
 unfold m6 kas_rev mirror;exact(kas_swaps_map _ _ _ _ _).symm
theorem zd{p:Array Nat}{k d:Nat}:m6 (bubble p k d)=bubble (m6 p) k d:=by
 unfold m6 bubble;exact(kas_swaps_map _ _ _ _ _).symm
theorem pT{p:Array Nat}:(m6 p).size=p.size:=by simp[m6]
theorem wV{p:Array Nat}{i j:Nat}:(kas_rev p i j).size=p.size:=mirror_size _ _ _ _
theorem qW{p:Array Nat}{i j k:Nat}(b:j<=p.size)(a:k<p.size):kp O key (kas_rev p i j) k=if i<=k/\k<j then kp O key p (i+j-1-k)else kp O key p k:=by
 rw[<-k9 (by rw[wV];exact a),zy,KK_mirror (by rw[pT];exact b)]
 by_cases h:i<=k/\k<j
 ·rw[if_pos h,if_pos h,k9 (by lia)]
 ·rw[if_neg h,if_neg h,k9 a]
theorem wj{p:Array Nat}{src d k:Nat}(f:src<p.size)(g:d<=src)(e:k<p.size):kp O key (bubble p src d) k=if k=src-d then kp O key p src else if src-d<k/\k<=src then kp O key p (k-1)else kp O key p k:=by
 rw[<-k9 (by rw[bubble_size];exact e),zd,KK_bubble (by rw[pT];exact f) g]
 by_cases b:k=src-d
 ·rw[if_pos b,if_pos b,k9 f]
 ·rw[if_neg b,if_neg b]
  by_cases a:src-d<k/\k<=src
  ·rw[if_pos a,if_pos a,k9 (by lia)]
  ·rw[if_neg a,if_neg a,k9 e]
def cC(n:Nat)(p:Array Nat):Prop:=p.toList.Perm (Q4 n)
theorem cC.size{p:Array Nat}(h:cC n p):p.size=n:=by
 have:=h.length_eq;simpa using this
theorem cC.lt{p:Array Nat}(h:cC n p){i:Nat}(hi:i<n):p.getD i 0<n:=by
 have a:=h.size;have e:p.getD i 0=p.toList[i]'(by simp;lia):=by simp[al0,show i<p.size by lia]
 rw[e];exact aa2.mp (h.mem_iff.mp (P0 _))
theorem cC.rev{p:Array Nat}(h:cC n p)(i j:Nat):cC n (kas_rev p i j):=(Array.perm_iff_toList_perm.mp (mirror_perm p i j _)).trans h
theorem cC.bub{p:Array Nat}(h:cC n p)(i j:Nat):cC n (bubble p i j):=(Array.perm_iff_toList_perm.mp (bubble_perm p i j)).trans h
def dE(O:aa0)(key:Nat->O.α)(p:Array Nat)(k:Nat):Prop:=∀i j,i<=j->j<k->O.kle (kp O key p i) (kp O key p j)
def iQ(O:aa0)(key:Nat->O.α)(p:Array Nat)(k:Nat):Prop:=∀i j,i<=j->j<k->O.kle (kp O key p j) (kp O key p i)
theorem dE.more{p:Array Nat}{x:Nat}(h:dE O key p x)(f:1<=x)(le:O.kle (kp O key p (x-1)) (kp O key p x)):dE O key p (x+1):=λi j a g=>by
 rcases ak3 j x with b|b
 ·exact h i j a b
 ·obtain rfl:j=x:=by lia
  rcases ak3 i j with e|e
  ·exact ai2 (h i (j-1) (by lia) (by lia)) le
  ·obtain rfl:i=j:=by lia
   exact ab3 _
theorem iQ.more{p:Array Nat}{x:Nat}(h:iQ O key p x)(f:1<=x)(le:O.kle (kp O key p x) (kp O key p (x-1))):iQ O key p (x+1):=λi j a g=>by
 rcases ak3 j x with b|b
 ·exact h i j a b
 ·obtain rfl:j=x:=by lia
  rcases ak3 i j with e|e
  ·exact ai2 le (h i (j-1) (by lia) (by lia))
  ·obtain rfl:i=j:=by lia
   exact ab3 _
theorem rG{p:Array Nat}(g:cC n p):∀{f a:Nat}{Q:Nat->Prop},1<=a->a+f<=n->dE O key p a ->
  (∀m,a<=m->m<=a+f->dE O key p m->(m=a+f∨O.klt (kp O key p m) (kp O key p (m-1)))->Q m)->tw n (eA O key) (kas_asc p f a) Q
 |0,a,Q,h,l,b,k=>k a (F5 _) (F5 _) b (.inl rfl)
 |f+1,a,Q,h,l,b,k=>by
  refine⟨g.lt (by lia),g.lt (by lia),?_⟩;cases q:eA O key (p.getD a 0) (p.getD (a-1) 0)with
  |true=>exact k a (F5 _) (by lia) b (.inr q)
  |false=>exact rG g (by lia) (by lia) (b.more h q) λm o s j i=>k m (by lia) (by lia) j (i.imp (λe=>by lia) id)
theorem jE{p:Array Nat}{i j:Nat}(a:j<=p.size)(he:∀k,i<=k->k<j->kp O key p k=kp O key p (j-1)){k:Nat}(b:k<p.size):kp O key (kas_rev p i j) k=kp O key p k:=by
 rw[qW a b]
 by_cases h:i<=k/\k<j
 ·rw[if_pos h,he _ (by lia) (by lia),he k h.1 h.2]
 ·rw[if_neg h]
theorem kT:∀{f:Nat}{p:Array Nat}{x q:Nat}{Q:Array Nat×Nat×Nat->Prop},cC n p->1<=x->x+f<=n->iQ O key p x->q+1<=x->(∀i,x-(q+1)<=i->i<x->kp O key p i=kp O key p (x-1)) ->
  (∀l m s,cC n l->1<=m->m<=x+f->iQ O key l m->s+1<=m->(∀i,m-(s+1)<=i->i<m->kp O key l i=kp O key l (m-1))->Q (l,m,s))->tw n (eA O key) (kas_desc f p x q) Q
 |0,p,x,q,Q,o,u,J,t,z,w,k=>k p x q o u (F5 _) t z w
 |f+1,p,x,q,Q,o,u,J,t,z,w,k=>by
  have L:=o.size;refine⟨o.lt (by lia),o.lt (by lia),?_⟩;cases c:eA O key (p.getD x 0) (p.getD (x-1) 0)with
  |true =>
   have lt:O.klt (kp O key p x) (kp O key p (x-1)):=c;simp only[if_true]
   by_cases H:q > 0
   ·rw[if_pos H];have same:∀{i},i<n->kp O key (kas_rev p (x-(q+1)) x) i=kp O key p i:=λM=>jE (by lia) w (by lia);refine kT (o.rev _ _) (by lia) (by lia) ?_ (by lia) (λi G E=>by obtain rfl:i=x:=(by lia);rfl) λl m s a b B d e g=>k l m s a b (by lia) d e g;refine iQ.more (λi j A I=>?_) u ?_
    ·rw[same (by lia),same (by lia)];exact t i j A I
    ·rw[same (by lia),same (by lia)];exact ad6 lt
   ·rw[if_neg H];exact kT o (by lia) (by lia) (t.more u (ad6 lt)) (by lia) (λi G E=>by obtain rfl:i=x:=(by lia);rfl) λl m s a b B d e g=>k l m s a b (by lia) d e g
  |false =>
   simp only[F1,if_false];refine⟨o.lt (by lia),o.lt (by lia),?_⟩;cases C:eA O key (p.getD (x-1) 0) (p.getD x 0)with
   |true=>exact k p x q o u (by lia) t z w
   |false =>
    simp only[F1,if_false];have eq:kp O key p x=kp O key p (x-1):=O.total _ _ c C;refine kT o (by lia) (by lia) (t.more u C) (by lia) (λi G E=>?_) λl m s a b B d e g=>k l m s a b (by lia) d e g;rw[show x+1-1=x by lia];rcases ak3 i x with h|h
    ·rw[eq];exact w i (by lia) h
    ·obtain rfl:i=x:=by lia
     rfl
theorem sv{p:Array Nat}{m e:Nat}{Q:Nat×Array Nat->Prop}(h:cC n p)(q:1<=m)(w:m<=e)(s:e<=n)(l:iQ O key p m)
  (k:∀f g,cC n g->1<=f->f<=e->dE O key g f->Q (f,g)):tw n (eA O key) (kas_tail3 m e p) Q:=by
 have u:=h.size;unfold kas_tail3;refine ir (rG (h.rev 0 m) q (by lia) (λi j o t=>?_) λf a b c _=>k f _ (h.rev 0 m) (by lia) (by lia) c);rw[qW (by lia) (by lia),qW (by lia) (by lia),if_pos ⟨by lia,by lia⟩,if_pos ⟨by lia,by lia⟩];exact l _ _ (by lia) (by lia)
theorem kr{p:Array Nat}{m a:Nat}{Q:Nat×Array Nat->Prop}(u:cC n p)(H:m+1<=a)(l:a<=n)(z:iQ O key p (m+1))
  (k:∀g f,cC n f->1<=g->g<=a->dE O key f g->Q (g,f)):tw n (eA O key) (kas_descPart m a p) Q:=by
 unfold kas_descPart;refine ir (kT u (by lia) (by lia) z (by lia) (λi B G=>by obtain rfl:i=m:=(by lia);rfl) λf x w b s A e E o=>?_);have C:=b.size;dsimp only
 by_cases q:w > 0
 ·rw[if_pos q];refine sv (b.rev _ _) s (by lia) l (λi j h t=>?_) k;rw[jE (by lia) o (by lia),jE (by lia) o (by lia)];exact e i j h t
 ·rw[if_neg q];exact sv b s (by lia) l e k
theorem wo{p:Array Nat}{a:Nat}{Q:Nat×Array Nat->Prop}(f:cC n p)(B:1<=a)(w:a<=n)
  (k:∀l s,cC n s->1<=l->l<=a->dE O key s l->Q (l,s)):tw n (eA O key) (kas_count a p) Q:=by
 have A:=f.size;unfold kas_count;refine ir (rG f (F5 1) (by lia) (λi j h t=>by obtain rfl:i=j:=(by lia);exact ab3 _) λm q z o x=>?_)
 by_cases e:m=a
 ·rw[if_pos (by simpa using e)];exact k m p f q (by lia) o
 ·rw[if_neg (by simpa using e)];have lt:O.klt (kp O key p m) (kp O key p (m-1)):=x.resolve_left (by lia)
  by_cases g:m > 1
  ·rw[if_pos g];refine⟨f.lt (by lia),f.lt (by lia),?_⟩;cases c:eA O key (p.getD 0 0) (p.getD (m-1) 0)with
   |true=>exact k m p f q (by lia) o
   |false =>
    simp only[F1,if_false];have b:∀i,0<=i->i<m->kp O key p i=kp O key p (m-1):=λi _ u =>
     aa0.kle_antisymm (o i (m-1) (by lia) (by lia)) (ai2 (show O.kle (kp O key p (m-1)) (kp O key p 0)from c) (o 0 i (by lia) u))
    have same:∀{i},i<n->kp O key (kas_rev p 0 m) i=kp O key p i:=λu=>jE (by lia) b (by lia);refine kr (f.rev _ _) (by lia) w (iQ.more (λi j h t=>?_) q ?_) k
    ·rw[same (by lia),same (by lia),b i (by lia) (by lia),b j (by lia) t];exact ab3 _
    ·rw[same (by lia),same (by lia)];exact ad6 lt
  ·rw[if_neg g];obtain rfl:m=1:=by lia
   refine kr f (by lia) w (iQ.more (λi j h t=>by obtain rfl:i=j:=(by lia);exact ab3 _) (F5 1) (ad6 lt)) k
theorem k8{p:Array Nat}(h:cC n p){x:Nat}(m:x<n)(j:dE O key p x):∀{f l r:Nat}{Q:Nat->Prop},l<=r->r<=x->r-l<=f ->
  (∀i,i<l->O.kle (kp O key p i) (kp O key p x))->(∀i,r<=i->i<x->O.klt (kp O key p x) (kp O key p i)) ->
  (∀e,e<=x->(∀i,i<e->O.kle (kp O key p i) (kp O key p x))->(∀i,e<=i->i<x->O.klt (kp O key p x) (kp O key p i))->Q e)->tw n (eA O key) (kas_place p x f l r) Q
 |0,l,r,Q,u,o,s,a,b,k=>by
  obtain rfl:l=r:=by lia
  exact k l o a b
 |f+1,l,r,Q,u,o,s,a,b,k=>by
  unfold kas_place
  by_cases g:l>=r
  ·rw[if_pos g];obtain rfl:l=r:=by lia
   exact k l o a b
  ·rw[if_neg g];refine⟨h.lt m,h.lt (by lia),?_⟩;cases c:eA O key (p.getD x 0) (p.getD ((l+r) / 2) 0)with
   |true =>
    simp only[if_true];exact k8 h m j (by lia) (by lia) (by lia) a (λi q t=>aa0.klt_of_klt_of_kle (show O.klt (kp O key p x) (kp O key p ((l+r) / 2))from c) (j _ _ q t)) k
   |false =>
    simp only[F1,if_false];exact k8 h m j (by lia) (by lia) (by lia) (λi w=>ai2 (j i ((l+r) / 2) (by lia) (by lia)) (show O.kle (kp O key p ((l+r) / 2)) (kp O key p x)from c)) b k
theorem vL:∀{f:Nat}{p:Array Nat}{x:Nat}{Q:Array Nat->Prop},cC n p->1<=x->x+f<=n->dE O key p x->(∀g,cC n g->dE O key g (x+f)->Q g)->tw n (eA O key) (kas_bin f p x) Q
 |0,p,x,Q,h,_,_,e,k=>k p h e
 |f+1,p,x,Q,h,C,B,e,k=>by
  have A:=h.size;refine ir (k8 h (by lia) e (P9 _) (F5 _) (by lia) (λi t=>by lia) (λi a b=>by lia) λl z lo t=>?_);refine vL (h.bub _ _) (by lia) (by lia) (λi j o w=>?_) λg a b=>k g a (by rw[show x+(f+1)=x+1+f by lia];exact b);rw[wj (by lia) (by lia) (by lia),wj (by lia) (by lia) (by lia),show x-(x-l)=l by lia]
  by_cases q:i=l
  ·rw[if_pos q]
   by_cases m:j=l
   ·rw[if_pos m];exact ab3 _
   ·rw[if_neg m,if_pos (by lia)];exact ad6 (t _ (by lia) (by lia))
  ·rw[if_neg q]
   by_cases u:l<i/\i<=x
   ·rw[if_pos u,if_neg (by lia),if_pos (by lia)];exact e _ _ (by lia) (by lia)
   ·rw[if_neg u]
    by_cases m:j=l
    ·rw[if_pos m];exact lo _ (by lia)
    ·rw[if_neg m]
     by_cases s:l<j/\j<=x
     ·rw[if_pos s];exact e _ _ (by lia) (by lia)
     ·rw[if_neg s];exact e _ _ o (by lia)
theorem yv(h:1<=n){Q:Array Nat->Prop}(k:∀p,cC n p->dE O key p n->Q p):tw n (eA O key) (kas_sort n) Q:=by
 have j:cC n (List.toArray (Q4 n)):=ao4.refl _;unfold kas_sort;refine ir (wo j h (F5 _) λm p i l q f=>?_);dsimp only
 by_cases g:m<n
 ·rw[if_pos g];have e:max m 1=m:=by lia
  rw[e];exact vL i l (by lia) f λo a b=>k o a (by rwa [show m+(n-m)=n by lia]at b)
 ·rw[if_neg g];obtain rfl:m=n:=by lia
  exact k p i f
end
end L2
namespace L2
open PySem PySem.W PySem.Calls PyProof.Rows
section
variable{prog:K3}{w:Q5}{A:M9}{E:E1->E6->Prop}{O:aa0}
def iR(a:List E1)(p:Array Nat):List E1:=p.toList.map λi=>a.getD i J5
theorem nA{a:List E1}{p:Array Nat}(h:cC a.length p):(iR a p).length=a.length:=by
 unfold iR;rw[E3,P7];exact h.size
def qE(x:F0)(s t:E6):Prop:=∀b o,b≠x->s.heap.get? b=some o->t.heap.get? b=some o
theorem AR{s:E6}{x:F0}{f:List E1}{n:Nat}{key:Nat->O.α}{κ:ap6}{P:PySem.Fin->E6->Prop}(G:s.heap.get? x=some (al1 "list" f.toArray n))(hz:f.length<64)
  (hk:∀l Q,2<=f.length->qE x s l->Q κ l->H0 (K7 prog w) A (keyKind' f.toArray) Q (λ_ _=>False) l)
  (hc:∀i j l C,i<f.length->j<f.length->qE x s l->C (eA O key i j) l->kas_ask prog w A κ f i j C l)
  (k:∀p c h',cC f.length p->dE O key p f.length->(∀b o,b≠x->s.heap.get? b=some o->h'.get? b=some o)->h'.get? x=some (al1 "list" (iR f p).toArray c)->P (.done (.ret .none)) { s with heap:=h' }) :
  H0 (K7 prog w) A (K1.«list.sort» ⟨[.ref x],[]⟩) P E s:=by
 have lx:x<s.heap.objs.size:=F8 G;obtain⟨c1,T⟩:∃c,(s.heap.update x (ah0 λ_=>#[])).get? x=some (al1 "list" #[] c):=⟨_,get?_update_seq G (λ_=>#[])⟩;rw[list_sort_plain];refine o0 (listItems_at G rfl (o0 (listUpdate_at G rfl (o0 (seqEpoch_at T rfl (o0 (wpAny_newTuple (o0 (wpAny_newList (P2 ?_) (P9 _))) ?_)))) ?_ (P9 _))))
 rotate_left
 ·show f.length<=_;rw[ae7];lia
 ·rw[E8,ae7];lia
 generalize U:((s.heap.update x (ah0 λ_=>#[])).push (al1 "tuple" f.toArray 0)).push (al1 "list" #[] 0)=h;show H0 _ A _ P E { s with heap:=h };have m:h.get? x=some (al1 "list" #[] c1):=by
  rw[<-U];exact u8 _ (u8 _ T)
 have st:qE x s { s with heap:=h }:=λb o I e=>by
  show h.get? b=some o;rw[<-U];exact u8 _ (u8 _ (by rw[J6.get?_update_ne _ _ _ _ I];exact e))
 have B:∀p,cC f.length p->dE O key p f.length->P (.done (.ret .none)) { s with heap:=h.update x (ah0 λ_=>(iR f p).toArray) }:=λp H M =>
  k p _ _ H M (λb o I e=>by rw[J6.get?_update_ne _ _ _ _ I];exact st b o I e) (get?_update_seq m λ_=>(iR f p).toArray)
 dsimp only
 by_cases g:f.toArray.size<2
 ·rw[if_pos g,if_pos g];refine o0 (E5 ?_);rw[StateT.run_pure];refine o0 (E5 ?_);dsimp only;have S:f.length<2:=by rw[E8]at g;exact g
  have L:(arrOf (SortSt.mk' general' (f.toArray.zip f.toArray) #[] 7 none)).map (·.2)=(iR f (List.toArray (Q4 f.length))).toArray:=by
   refine kat_snds rfl ?_;have e:=kas_range (f.toArray.zip f.toArray);have z0:(f.toArray.zip f.toArray).size=f.length:=by simp
   rw[z0]at e;exact e.symm
  rw[L];refine o0 (seqEpoch_at m rfl (o0 (listUpdate_at m rfl ?_ (P9 _) ?_)))
  ·simp only[failedOf,bne_self_eq_false,F1,if_false];exact E5 (B _ (ao4.refl _) λi j a1 R=>by
    obtain rfl:i=j:=by lia
    exact ab3 _)
  ·rw[E8,nA (show cC f.length (List.toArray (Q4 f.length))from ao4.refl _),ae7];lia
 ·rw[if_neg g,if_neg g];have two:2<=f.length:=by rw[E8]at g;lia
  refine o0 (O1 (hk { s with heap:=h } (λq t=>q=κ/\t=({ s with heap:=h }:E6)) two st ⟨rfl,rfl⟩) ?_ λ_ _ z=>z.elim);rintro a0 _ ⟨ek,rfl⟩;rw[ek];have ask:(kas_sort f.length).kasWp (kas_ask prog w A κ f) (λp t=>t=({ s with heap:=h }:E6)/\cC f.length p/\dE O key p f.length) { s with heap:=h } :=
   wQ (J:=λt=>t=({ s with heap:=h }:E6)) (lt:=eA O key) (Q:=λp=>cC f.length p/\dE O key p f.length) (λi j C t hi R N Y=>by subst N;exact hc i j _ C hi R st (Y _ rfl)) (λp t N hq=>⟨N,hq⟩) (yv (by lia) λp a b=>⟨a,b⟩) rfl
  refine o0 (O1 (kat_run (Q:=λu t=>∃p:Array Nat,arrOf u=p.map (kas_item (f.toArray.zip f.toArray))/\failedOf u=none/\t=({ s with heap:=h }:E6)/\cC f.length p/\dE O key p f.length) rfl two hz (λp u t _ a2 a3 a4=>⟨p,a2,a3,a4⟩) ask) ?_ λ_ _ z=>z);rintro⟨⟨⟩,u⟩ t ⟨p,X,Z,rfl,H,M⟩;dsimp only;have L:(arrOf u).map (·.2)=(iR f p).toArray:=kat_snds rfl X;rw[L];refine o0 (seqEpoch_at m rfl (o0 (listUpdate_at m rfl ?_ (P9 _) ?_)))
  ·rw[Z];simp only[bne_self_eq_false,F1,if_false];exact E5 (B p H M)
  ·rw[E8,nA H,ae7];lia
end
noncomputable def ltP(a b:Int×Int):Bool:=decide (a.1<b.1) || (decide (a.1=b.1)&&decide (a.2<b.2))
def leP(a b:Int×Int):Bool:=! ltP b a
theorem iq{a b:Int×Int}:ltP a b=true↔a.1<b.1∨(a.1=b.1/\a.2<b.2):=by simp[ltP]
theorem mr{a b:Int×Int}:ltP a b=false↔b.1<a.1∨(a.1=b.1/\b.2<=a.2):=by
 rw[Bool.eq_false_iff,Ne,iq];lia
def Eu:aa0 where
 α:=Int×Int
 blt:=ltP
 irrefl a:=by rw[mr];lia
 trans a b c h1 h2:=by rw[iq]at *;lia
 negTrans a b c h:=by rw[iq,iq];rw[iq]at h;lia
 total a b h1 h2:=by
  rw[mr]at h1 h2;exact Prod.ext (by lia) (by lia)
theorem wt{a b:Int×Int}(f:leP a b=true)(e:leP b a=true):a=b:=by
 simp only[leP,ad7,mr]at f e;exact Prod.ext (by lia) (by lia)
def cS(ps:List (Int×Int)):List (Int×Int):=ps.mergeSort leP
theorem je(ps:List (Int×Int)):(cS ps).Perm ps:=List.mergeSort_perm _ _
theorem vD(ps:List (Int×Int)):(cS ps).Pairwise λa b=>leP a b=true :=
 List.pairwise_mergeSort (λa b c f e=>by simp only[leP,ad7,mr]at *;lia) (λa b=>by
  cases h:leP a b with
  |true=>rfl
  |false =>
   simp only[leP,Bool.not_eq_false',iq]at h;simp only[Bool.false_or,leP,ad7,mr];lia) ps
theorem wO{ps e:List (Int×Int)}(h:e.Perm ps)(g:e.Pairwise λa b=>leP a b=true):e=cS ps :=
 ao4.eq_of_pairwise (le:=λa b=>leP a b=true) (λa b _ _ i f=>wt i f) g (vD ps) (h.trans (je ps).symm)
def pD(p:Int×Int):D:=.tup [.int p.1,.int p.2]
noncomputable def g6:List D->Option (List (Int×Int))
 |[]=>some []
 |.tup [.int i,.int j]::a=>(g6 a).map ((i,j)::·)
 |_=>none
theorem jM:∀{ps:List (Int×Int)},g6 (ps.map pD)=some ps
 |[]=>rfl
 |p::ps=>by simp[g6,pD,jM (ps:=ps)]
theorem rg:∀{ds:List D}{ps:List (Int×Int)},g6 ds=some ps->ds=ps.map pD:=by
 intro ds
 induction ds using g6.induct with
 |case1=>intro ps e;cases e;rfl
 |case2 i j ds ih =>
  intro ps e;simp only[g6]at e;cases q:g6 ds with
  |none=>rw[q]at e;cases e
  |some b=>rw[q]at e;cases e;rw[ih q];rfl
 |case3 ds a f=>intro ps e;rw[g6]at e<;>simp_all
section
variable{X:Cx}{z:List (F0×Obj)}{s:E6}{σ:St}{H:Hp}{M:DH}
theorem Aw(I:Inv X z σ H s){ps:List (Int×Int)}{f:List V}{us:List E1}(j:aq X.K M H (ps.map pD) f)(m:aA f us){i:Nat}(hi:i<ps.length):
  ∃a t u,us[i]?=some (.ref a)/\am0 s.heap a #[.int ps[i].1 t,.int ps[i].2 u]:=by
 obtain⟨v,g,r⟩:=j.get (i:=i) (d:=pD ps[i]) (by simp[hi]);obtain⟨p,h,n⟩:=m.get g;simp only[pD,Rep]at r;obtain⟨a,w,rfl,sq,b⟩:=r;cases n;obtain⟨o,e,l,q⟩:=I.tuple sq.sq;simp only[aq,Rep]at b;obtain⟨_,_,rfl,rfl,_,_,rfl,rfl,rfl⟩:=b;obtain⟨x,y,rfl,⟨t,rfl⟩,⟨u,rfl⟩⟩:=aA.two e;exact⟨a,t,u,h,l⟩
theorem jn{us:List E1}{i:Nat}{v:E1}(h:us[i]?=some v):us.getD i J5=v:=by
 rw[K6,h];rfl
theorem sO{h:J6}:∀{ps:List (Int×Int)}{us:List E1},us.length=ps.length->(∀i (hi:i<ps.length),∃a t u,us[i]?=some (.ref a)/\am0 h a #[.int ps[i].1 t,.int ps[i].2 u])->∃fs,KatTups h us fs/\fs.length=ps.length/\∀f∈fs,∃i t,f=ah7 i t
 |[],[],_,_=>⟨[],KatTups.nil,rfl,λ_ h=>(nomatch h)⟩
 |p::ps,u::us,b,k=>by
  obtain⟨fs,w,s,m⟩:=sO (ps:=ps) (us:=us) (by simpa using b) λi hi=>k (i+1) (by simpa using hi);obtain⟨a,t,x,e,o,l,q,n,j⟩:=k 0 (by simp);simp only[List.getElem?_cons_zero,T5.injEq]at e;subst e;exact⟨_::fs,KatTups.cons l q j rfl w,by simp[s],λf g=>by
   rcases I0.mp g with rfl|g
   ·exact⟨_,_,rfl⟩
   ·exact m f g⟩
 |[],_::_,b,_=>by simp at b
 |_::_,[],b,_=>by simp at b
theorem xg{prog:K3}{w:Q5}{A:M9}{E:E1->E6->Prop}{s:E6}{x y:F0}{p q:Int×Int}{b i f h:Tok}{C:Bool->E6->Prop}(m:am0 s.heap x #[.int p.1 b,.int p.2 i])(l:am0 s.heap y #[.int q.1 f,.int q.2 h])(k:C (ltP p q) s):
  H0 (K7 prog w) A (keyLt' (tuples' true) (.ref x) (.ref y)) C E s:=by
 obtain⟨B,u,_,H,n⟩:=m;obtain⟨G,o,_,z,t⟩:=l;refine kat_lt u n o t ?_;refine kat_cons (wpAny_eqBool_int ?_);cases e:(p.1==q.1)with
 |false =>
  refine kat_no (oneLt_int ?_);have:decide (p.1<q.1)=ltP p q:=by
   have a:¬ p.1=q.1:=by simpa using e
   simp[ltP,a]
  rw[this];exact k
 |true =>
  have a:p.1=q.1:=by simpa using e
  refine kat_yes (kat_cons (wpAny_eqBool_int ?_));cases g:(p.2==q.2)with
  |false =>
   refine kat_no (kat_one _ _ ?_);refine wpAny_lt_int ?_;have:decide (p.2<q.2)=ltP p q:=by simp[ltP,a]
   rw[this];exact k
  |true =>
   have j:p.2=q.2:=by simpa using g
   refine kat_yes (kat_nil ?_);have:decide ((#[ah7 p.1 b,ah7 p.2 i]:Array E1).size<(#[ah7 q.1 f,ah7 q.2 h]:Array E1).size)=ltP p q:=by simp[ltP,a,j]
   rw[this];exact k
def kp_(p:Array Nat)(i:Nat):Nat:=p.getD i 0
theorem i3{h h':J6}{a:F0}{e:Array E1}(t:am0 h a e)(k:∀b o,h.get? b=some o->h'.get? b=some o):am0 h' a e :=
 let⟨o,g,i,f⟩:=t
 ⟨o,k _ _ g,i,f⟩
theorem ka{a:List V}{us:List E1}(e:aA a us):∀{l:List Nat},(∀i∈l,i<a.length)->aA (l.map λi=>a.getD i .non) (l.map λi=>us.getD i J5)
 |[],_=>.nil
 |i::l,h=>by
  have b:=h i (.head _);obtain⟨u,g,r⟩:=e.get (E4 b);rw[J1,J1];refine .cons ?_ (ka e λj f=>h j (.tail _ f));rw[jn g,K6,E4 b];exact r
theorem nH{K:E2}{ps:List (Int×Int)}{e:List V}(b:aq K M H (ps.map pD) e):∀{l:List Nat},(∀i∈l,i<ps.length)->aq K M H ((l.map λi=>ps.getD i (0,0)).map pD) (l.map λi=>e.getD i .non)
 |[],_=>rfl
 |i::l,h=>by
  have a:=h i (.head _);obtain⟨v,g,r⟩:=b.get (i:=i) (d:=pD ps[i]) (by simp[a]);simp only[J1,aq];refine⟨v,_,?_,?_,nH b λj f=>h j (.tail _ f)⟩
  ·rw[K6,g];rfl
  ·rw[K6,E4 a];exact r
theorem uo(ps:List (Int×Int)):(Q4 ps.length).map (λi=>ps.getD i (0,0))=ps:=by
 apply List.ext_getElem (by simp);intro i b a;simp[E4 a]
end
end L2
namespace L2
open PySem PySem.Spec PyProof.Rows
theorem Ds{X:Cx}{o:K8}{n:TEd}{p s:Pos}(L:QEd X o n)(B:U6 o "pop" X.env (X7 o X.env)=X7 o X.env:=by rfl)(I:(p.endLine==s.line)=true:=by rfl):QEd X (.Call (.Attribute o "pop" p) [] [] s) (Dq n):=by
 simp only[QEd.eq]at *
 exact(AX ab7 PySem.F.slot_list_pop PySem.F.type_list_pop (show MtR X "list.pop" CO from Ao) L B I).conv λP H Q h=>h.el λG M R x z q k=>⟨G,M,_,x,z,q,λo M1 S u ⟨a,f,d,E,l,J⟩ A b t=>by
   subst E;simp only[Rep]at t;subst t;obtain⟨g,m,j⟩:=b a _ l;have N:=j.length;rw[E7,Q6,Z1]at N;obtain⟨v,C,O⟩:=j.get (i:=f.length) (d:=d) (by simp);have e:g.length-1=f.length:=by lia
   refine⟨.inl ⟨rfl,g,SqL.of m⟩,a,g,v,rfl,rfl,m,by rw[e];exact C,?_⟩;have w:Ext M1 u (aG M1 a (.lst f)) (upd u a (.lst g.dropLast)):=Ext.write l;refine k _ _ _ _ J (A.trans w) (b.write l ?_) (O.ext w);have:=aq.take f.length j;rw[List.take_left]at this;rw[List.dropLast_eq_take,e];exact this⟩
theorem ve{X:Cx}{e:K8}{o:K8}{te:TEd}{s:TEd}{u m:Pos}(L:QEd X o s)(he:QEd X e te)(J:U6 o "extend" X.env (X7 o X.env)=X7 o X.env:=by rfl)
  (i:E9 [e] X.env=(false,X7 e X.env)::E9 [] X.env:=by rfl)
  (N:((U3 m (E9 [e] X.env)).all (λx => !x.1) && (ak1 m (ad1 [] X.env)).all (λx => x.1.isSome)
  &&decide ([e].length+([]:List ae8).length+(if([]:List ae8).isEmpty then 0 else 1)<30))=true:=by rfl)
  (Z:(u.endLine==m.line)=true:=by rfl) (O:(U3 m (E9 [] X.env)).any (·.1)=false:=by rfl):QEd X (.Call (.Attribute o "extend" u) [e] [] m) (Dz s te):=by
 simp only[QEd.eq]at *
 exact(vb ab7 PySem.F.slot_list_extend PySem.F.type_list_extend (show MtR X "list.extend" sy from uH) L (bF he dY i) J N Z i O).conv λσ H Q n=>n.el λz M R p E q k=>⟨z,M,_,p,E,q,λo M1 ov H1 ⟨a,l,U,G,q1⟩ t g A=>by
   subst U;simp only[Rep]at A;subst A;obtain⟨vs,C,rl⟩:=g a _ G;refine⟨.inl ⟨rfl,vs,SqL.of C⟩,z,M1,_,p.ext t,g,q1,λd M2 v H2 ⟨ds,ys,I,f,hz,P⟩ e2 j B=>?_⟩;subst I;simp only[Rep]at B;obtain⟨b,Y,rfl,S,w⟩:=B;obtain⟨T,hw,h⟩:=j a _ f;refine⟨a,b,T,Y,rfl,rfl,hw,S.1,by rw[<-h.length,<-w.length];exact hz,k _ _ _ _ P ((t.trans e2).trans (Ext.write f)) (j.write f (h.append w)) (by simp[Rep])⟩⟩
theorem C5{i:Int}{P:Key->Prop}:(∃k,D.int i=kD k/\P k)↔P (.inl i) :=
 ⟨λ⟨k,e,h⟩=>match k,e with|.inl _,rfl=>h,λh=>⟨_,rfl,h⟩⟩
theorem Dj{x:Str}{P:Key->Prop}:(∃k,D.str x=kD k/\P k)↔P (.inr x) :=
 ⟨λ⟨k,e,h⟩=>match k,e with|.inr _,rfl=>h,λh=>⟨_,rfl,h⟩⟩
theorem yJ{i j:Int}:D4 [.int i,.int j]=some (.int (if j<i then j else i)):=rfl
abbrev BKd:=DE->DH->List D->(List D->DE->DH->Prop)->Prop
def gL(g:GD)(tc:TTd)(B:BKd):List D->DE->DH->List D->(List D->DE->DH->Prop)->Prop
 |[],i,M,a,Q=>Q a i M
 |d::j,i,M,a,Q=>∃ e,g d i=some e/\tc e M λb M1=>if b=true then B e M1 a λf h M2=>f.length<=F2/\gL g tc B j h M2 f Q else gL g tc B j e M1 a Q
def mh(te:TEd):BKd:=λb M a Q=>te b M λy M2=>Q (a++[y]) b M2
def lK(f:TId)(g:GD)(tc:TTd)(B:BKd):BKd:=λb M a Q=>f b M λe M2=>gL g tc B e b M2 a Q
def upB(K:E2)(b:BKd):BK:=λn m H Z=>∃(l:DE) (M:DH) (e:List D) (R:List D->DE->DH->Prop),SR K M H m l/\HR K M H/\aq K M H e n/\e.length<=F2/\b l M e R /\
 ∀a j g h f i,R a j g->Ext M H g i->HR K g i->SR K g i f j->aq K g i a h->Z h f i
section
variable{K:E2}{g:GD}{y:TG}{tc:TTd}{te:TEd}{z:TId}{Bd:BKd}{B:BK}
theorem sY{f:List V}{σ:St}{H:Hp}{Z:List V->St->Hp->Prop}(h:upB K (mh te) f σ H Z):mv (up K te) f σ H Z:=by
 obtain⟨i,M,m,R,e,g,j,_,q,k⟩:=h;exact⟨i,M,_,e,g,q,λd o v p n a b l=>k _ _ _ _ _ _ n a b (e.ext a) ((j.ext a).append (aq.cons l aq.nil))⟩
theorem tE(kg:nV K g y)(hB:∀{I σ H Z},upB K Bd I σ H Z->B I σ H Z){J:It}{l:List D}{w:DH}{x:Hp}(a8:ItD K J l w x)(a2:HR K w x){Δ:DE}{s:List D}{R:List D->DE->DH->Prop}{I:List V}{σ:St}{Z:List V->St->Hp->Prop}
  (sr:SR K w x σ Δ) (ra:aq K w x s I) (la:s.length<=F2) (q:gL g tc Bd l Δ w s R)
  (k:∀a e h n i o,R a e h->Ext w x h o->HR K h o->SR K h o i e->aq K h o a n->Z n i o) :
  ∃W:Nat->Nat->List V->St->Hp->Prop,(∃m,W 0 m I σ x)/\kc J y (upT K tc) B W Z:=by
 refine⟨λj m n i o=>∃ e h a,m=l.length-j/\j<=l.length/\Ext w x h o/\HR K h o/\SR K h o i e/\aq K h o a n/\a.length<=F2/\gL g tc Bd (l.drop j) e h a R,
  ⟨l.length,Δ,w,s,by simp,P9 _,Ext.refl _ _,a2,sr,ra,la,q⟩,?_⟩
 rintro j m n a3 H6 ⟨X,M6,u,rfl,hj,S,O,L,t,A,G⟩;refine⟨by rw[<-t.length];exact A,?_⟩;obtain⟨a0,z⟩:=a8 M6 H6 S O j
 by_cases f:j<l.length
 ·have a1:l[j]?=some l[j]:=by simp[f]
  obtain⟨g2,y2⟩:=a0 _ a1;rw[aa5 f]at G;simp only[gL]at G;obtain⟨p,a7,f7⟩:=G;refine .inr ⟨g2,λx7 H7 a5=>?_⟩;obtain⟨M,P,a4⟩:=y2 x7 H7 a5;refine kg _ x7 a3 X p M6 H7 _ (L.ext M) P a4 a7 λa' C=>?_;refine⟨p,M6,_,C,P,f7,λb M8 H8 Q E N=>?_⟩;cases b with
  |true =>
   simp only[if_true]at Q ⊢;refine hB ⟨p,M8,u,_,C.ext E,N,(t.ext M).ext E,A,Q,?_⟩;rintro a e h a9 i o ⟨Y,q9⟩ e9 T U a6;exact⟨l.length-(j+1),by lia,e,h,a,rfl,f,((S.trans M).trans E).trans e9,T,U,a6,Y,q9⟩
  |false =>
   simp only[F1,if_false]at Q ⊢;exact⟨l.length-(j+1),by lia,p,M8,u,rfl,f,(S.trans M).trans E,N,C.ext E,(t.ext M).ext E,A,Q⟩
 ·rw[ac2 (by lia)]at G;simp only[gL]at G;exact .inl ⟨z (by lia),k _ _ _ _ _ _ G S O L t⟩
theorem tG(l:nV K g y)(p:∀{a σ H Z},upB K Bd a σ H Z->B a σ H Z){a:List V}{σ:St}{H:Hp}{Z:List V->St->Hp->Prop}(h:upB K (lK z g tc Bd) a σ H Z):vn (upI K z) y (upT K tc) B a σ H Z:=by
 obtain⟨m,M,E,R,i,j,u,o,q,k⟩:=h;exact⟨m,M,_,i,j,q,λL M2 J N C e b f=>tE l p f b (i.ext e) (u.ext e) o C λs x n A G w t I=>k s x n A G w t (e.trans I)⟩
end
def BG(ms:List Bool)(k:Nat)(g:TId)(e:GD)(a:TTd)(B:BKd):TEd:=λb M Q=>g b M λh M1=>gL e a B h (qH ms k b) M1 [] λf _ M2=>Q (.lst f) M2
theorem pO{K:E2}{C:TId}{A:GD}{f:TTd}{i:TG}{Bd:BKd}{B:BK}{ms:List Bool}{w:Nat}(G:nV K A i)(T:∀{l σ H Z},upB K Bd l σ H Z->B l σ H Z):∀ σ H Q,up K (BG ms w C A f Bd) σ H Q->yc ms w (upI K C) i (upT K f) B σ H Q:=by
 rintro σ H Q ⟨S,M,R,x,E,q,k⟩;refine⟨S,M,_,x,E,q,λY M1 J I X z o O=>?_⟩;obtain⟨W,P,L⟩:=tE (Z:=λh _ j=>∃b e,Ext M1 I b j/\HR K b j/\aq K b j e h/\R (.lst e) b) G T O o ((x.ext z).comp ms w) aq.nil (P9 _) X
  (λg N b h n j s t a _ u=>⟨b,g,t,a,u,s⟩)
 refine⟨W,_,P,L,?_⟩;rintro l n j p ⟨b,e,t,a,U,s⟩ m;refine k _ b _ _ s ((z.trans t).trans (Ext.new a m)) (a.new m) ?_;simp only[Rep];exact⟨p,l,rfl,⟨aY,a.fresh m⟩,U.ext (Ext.new a m)⟩
abbrev EH(b j f e i:K8)(g h:List K8)(a:ac4)(pos:Pos):K8:=.ListComp b [⟨j,f,g,0⟩,⟨e,i,h,0⟩] a pos
def za(ms:List Bool)(k:Nat)(e:TId)(b:GD)(a:TTd)(f:TId)(g:GD)(tc:TTd)(te:TEd):TEd:=BG ms k e b a (lK f g tc (mh te))
section
variable{X:Cx}{g:ac4}{y:List (Str×F0)}{ms:List Bool}{ar:List Str}{z G I E B:K8}{W Y:List K8}{pos:Pos}
theorem xu{w1:TI}{i:TG}{tc1:TT}{te:TE}(h:∀C s H a,PI (aK X g y (X.N++ar) C s H a) E B w1)(e:∀C s H a,PG (aK X g y (X.N++ar) C s H a) E i)(b:∀C s H a,PIf (aK X g y (X.N++ar) C s H a) Y tc1)(he:∀C s H a,PE (aK X g y (X.N++ar) C s H a) z te)
  (f:∀C x,O3 B (ap5 g y C X.env) x=ae2 x):LvC X g y ar (lcE z [⟨G,I,W,0⟩,⟨E,B,Y,0⟩] g pos) I.pos G W (vn w1 i tc1 (mv te)):=λ_ _ _ _ _ c =>
 zq c (si (k:=1) (p:=B.pos) c (he _ _ _ _) λ_ _ _=>rfl) (λ_ _ _=>rfl) (f _) (h _ _ _ _) (e _ _ _ _) (b _ _ _ _) λ_ _ _=>rfl
end
theorem De{X:Cx}{a:ac4}{b:List (Str×F0)}{ms:List Bool}{ar:List Str}{i w n l t:K8}{E G:List K8}{pos:Pos}{I z:TId}{B g:GD}{e tc:TTd}{te:TEd}(S:fw X a b ms ar)(O:X.calm=true)(hi:QId X w n I)(q:PGa X a b ar w B)
  (j:∀C s H f,QIf (aK X a b (X.N++ar) C s H f) E e) (A:∀C s H f,QId (aK X a b (X.N++ar) C s H f) l t z) (hg:PGa X a b ar l g) (o:∀C s H f,QIf (aK X a b (X.N++ar) C s H f) G tc) (he:∀C s H f,QEd (aK X a b (X.N++ar) C s H f) i te)
  (L:∀x,O3 n X.env x=ae2 x:=by intro _;rfl) (p:∀C x,O3 t (ap5 a b C X.env) x=ae2 x:=by intro _ _;rfl):QEd X (.ListComp i [⟨w,n,E,0⟩,⟨l,t,G,0⟩] a pos) (za ms ar.length I B e z g tc te):=by
 simp only[QEd.eq,QId.eq,QIf.eq]at *
 obtain⟨N,u,m⟩:=q;obtain⟨P,J,M⟩:=hg;exact(wk (tc:=upT X.K e) S O hi u j (xu (w1:=upI X.K z) (tc1:=upT X.K tc) (te:=up X.K te) A J o he p) L).conv (pO m λh=>tG M sY h)
@[irreducible] def xV(t:TSd):TSd:=t
theorem tI{t:TSd}:xV t=t:=by unfold xV;rfl
theorem am{t:TSd}{E:dP}{a:DE}{M:DH}(h:t E a M):xV t E a M:=by rw[tI];exact h
theorem aD{X:Cx}{st:List W8}{t:TSd}(h:QSs X st t):QSs X st (xV t):=by rw[tI];exact h
theorem vS{K:Params->E2}{C:List F0}{n t:Nat}{q:K3}{g:List Str}{Q:(Str->Option E1)->J6->Prop}{r:PySem.W.RowW}{d:DefRec}{x:List (Str×K8)}{run:E1->List E1->Sem E1}(hk:∀P,C=(K P).map (·.1))
  (h:PySem.W.WalkO q g Q (λw h=>(K w.params).In h) r d x run):PySem.W.WalkX q g Q (PySem.W.X.obsZ C) (PySem.W.X.valZ K n t) r d x run:=by
 intro w f s X Z G y a o Y cd N T kV U hd E hD I hg j A B L i m J O H;refine h w f s X Z G (λb u S=>L.keeps b u ?_) a o Y cd N T kV U hd E hD I hg j A B i m J O H;have R:C.map f.heap.get?=(K w.params).map λp=>some p.2:=congrArg (·.1) y;rw[hk w.params,S5]at R;have M:∀(l:E2),(l.map λp=>f.heap.get? p.1)=l.map (λp=>some p.2)->an4 b l=some u->f.heap.get? b=some u:=by
  intro l
  induction l with
  |nil=>intro _ z;cases z
  |cons p l ih =>
   intro e z;rw[J1,J1,N0]at e;rw[M0]at z
   by_cases c:b=p.1
   ·subst c;rw[beq_self_eq_true]at z;cases z;exact e.1
   ·rw[beq_eq_false_iff_ne.mpr c]at z;exact ih e.2 z
 exact M _ R S
end L2
namespace L2
open PySem PySem.W PySem.Calls PyProof.Rows
section
variable{prog:K3}{w:Q5}{A:M9}{E:E1->E6->Prop}{O:aa0}
theorem nN{T:String}{o:Obj}{n:Nat}{s:E6}{l:F0}{f:List E1}{key:Nat->O.α}{κ:ap6}{Q:E1->E6->Prop}(N:T="list"∨T="tuple")(hg:s.heap.get? l=some o)(L:o.cls=.type T)(hd:o.data=.seq f.toArray n)(Y:f.length<64)
  (hk:∀z Q,2<=f.length->(∀b o,s.heap.get? b=some o->z.heap.get? b=some o)->Q κ z->H0 (K7 prog w) A.in1.in1 (keyKind' f.toArray) Q (λ_ _=>False) z)
  (X:∀i j z C,i<f.length->j<f.length->(∀b o,s.heap.get? b=some o->z.heap.get? b=some o)->C (eA O key i j) z->kas_ask prog w A.in1.in1 κ f i j C z)
  (k:∀(a:J6) p x c h',(∀b o,s.heap.get? b=some o->a.get? b=some o)->cC f.length p->dE O key p f.length->a.objs.size<=x->(∀b o,a.get? b=some o->h'.get? b=some o)->h'.get? x=some (al1 "list" (iR f p).toArray c)->Q (.ref x) { s with heap:=h' }) :
  H0 (K7 prog w) A (aq5 (.builtin "sorted") [.ref l]) Q E s:=by
 refine call_function_entry kind_sorted plain_sorted entry_sorted (args_sorted1 _) ?_;unfold K1.«sorted»;refine o0 (m:=checkCount "sorted" 1 1 _) (E5 ?_);have H:f.length<=F2:=by rw[ae7];lia
 refine o0 (wpAny_collect_seq l N hg L hd (λa h=>o0 (wpAny_newList ?_ H)) (by simpa using H));have G:∀b o,a.get? b=some o->(a.push (al1 "list" f.toArray 0)).get? b=some o:=λb o e=>by
  rw[J6.get?_push_ne _ _ _ (K4 (F8 e))];exact e
 have J:∀b o,s.heap.get? b=some o->(a.push (al1 "list" f.toArray 0)).get? b=some o:=λb o e=>G b o (h b o e);have new:(a.push (al1 "list" f.toArray 0)).get? a.objs.size=some (al1 "list" f.toArray 0):=F9 _ rfl;have g:a.get? a.objs.size=none:=T3 (F5 _);have M:s.heap.get? a.objs.size=none:=by
  cases e:s.heap.get? a.objs.size with
  |none=>rfl
  |some u=>rw[h _ _ e]at g;cases g
 show H0 _ _ _ _ _ { s with heap:=a.push (al1 "list" f.toArray 0) };have go:∀(t:E6),qE a.objs.size { s with heap:=a.push (al1 "list" f.toArray 0) } t->∀b o,s.heap.get? b=some o->t.heap.get? b=some o:=λt B b o e=>B b o (λq=>by rw[q,M]at e;cases e) (J b o e);have I:∀(t:E6),qE a.objs.size { s with heap:=a.push (al1 "list" f.toArray 0) } t->∀b o,a.get? b=some o->t.heap.get? b=some o:=λt B b o e=>B b o (λq=>by rw[q,g]at e;cases e) (G b o e);refine o0 (P2 (V0 slot_list_sort ⟨_,new,rfl⟩ entry_list_sort ?_ (args_list_sort _)));refine AR (κ:=κ) (key:=key) new Y (λt S two B q=>hk t S two (go t B) q) (λi j t C hi R B q=>X i j t C hi R (go t B) q) λp c h' hp P U Z=>?_;refine⟨_,rfl,E5 ⟨_,rfl,?_⟩⟩;exact k a p _ c h' h hp P (F5 _) (λb o e=>I { s with heap:=h' } U b o e) Z
end
def D7:aa0 where
 α:=Int
 blt a b:=decide (a<b)
 irrefl a:=by simp
 trans a b c h1 h2:=by simp only[decide_eq_true_eq]at *;lia
 negTrans a b c h:=by simp only[decide_eq_true_eq]at *;lia
 total a b h1 h2:=by simp only[decide_eq_false_iff_not]at *;lia
def gA(ns:List Int):List Int:=ns.mergeSort λa b=>decide (a<=b)
theorem mx(ns:List Int):(gA ns).Perm ns:=List.mergeSort_perm _ _
theorem uV(ns:List Int):(gA ns).Pairwise λa b=>a<=b:=by
 have:=List.pairwise_mergeSort (le:=λa b:Int=>decide (a<=b)) (λa b c e f=>by simp only[decide_eq_true_eq]at *;lia) (λa b=>by simp only[Bool.or_eq_true,decide_eq_true_eq];lia) ns;exact this.imp λh=>by simpa using h
theorem u6{ns ms:List Int}(h:ms.Perm ns)(e:ms.Pairwise λa b=>a<=b):ms=gA ns :=
 ao4.eq_of_pairwise (le:=λa b:Int=>a<=b) (λa b _ _ f g=>by lia) e (uV ns) (h.trans (mx ns).symm)
section
variable{X:Cx}{y:List (F0×Obj)}{s:E6}{σ:St}{H:Hp}{M:DH}
theorem rj(ns:List Int):(Q4 ns.length).map (λi=>ns.getD i 0)=ns:=by
 apply List.ext_getElem (by simp);intro i b a;simp[E4 a]
theorem Au{K:E2}{ns:List Int}{a:List V}{us:List E1}(e:aq K M H (ns.map D.int) a)(f:aA a us){i:Nat}(hi:i<ns.length):∃t,us[i]?=some (.int ns[i] t):=by
 obtain⟨v,g,r⟩:=e.get (i:=i) (d:=D.int ns[i]) (by simp[hi]);obtain⟨j,b,h⟩:=f.get g;simp only[Rep]at r;subst r;obtain⟨t,rfl⟩:=h;exact⟨t,b⟩
theorem nq{K:E2}{ns:List Int}{e:List V}(b:aq K M H (ns.map D.int) e):∀{l:List Nat},(∀i∈l,i<ns.length)->aq K M H ((l.map λi=>ns.getD i 0).map D.int) (l.map λi=>e.getD i .non)
 |[],_=>rfl
 |i::l,h=>by
  have a:=h i (.head _);obtain⟨v,g,r⟩:=b.get (i:=i) (d:=D.int ns[i]) (by simp[a]);simp only[J1,aq];refine⟨v,_,?_,?_,nq b λj f=>h j (.tail _ f)⟩
  ·rw[K6,g];rfl
  ·rw[K6,E4 a];exact r
theorem wJ{us:List E1}:∀{ns:List Int},us.length=ns.length->(∀i (hi:i<ns.length),∃t,us[i]?=some (.int ns[i] t))->aq1 us ns:=by
 induction us with
 |nil=>intro ns h _;cases ns with|nil=>exact .nil|cons n ns=>cases h
 |cons u us ih =>
  intro ns h a;cases ns with
  |nil=>cases h
  |cons n ns =>
   obtain⟨t,e⟩:=a 0 (by simp);have f:u=.int n t:=by simpa using e
   subst f;exact .cons _ _ (ih (by simpa using h) λi hi=>by
    obtain⟨g,b⟩:=a (i+1) (by simpa using hi);exact⟨g,by rw[X1]at b;exact b⟩)
theorem vm(I:Inv X y σ H s)(hr:HR X.K M H){ns:List Int}(a1:ns.length<64){l:F0}{T:String}{o:Obj}{n:Nat}{A:List V}{e:List E1}(U:aq X.K M H (ns.map D.int) A)(N:aA A e)(a0:A.length<=F2)
  (hT:T="list"∨T="tuple") (hg:s.heap.get? l=some o) (S:o.cls=.type T) (hd:o.data=.seq e.toArray n) {Q:VK}
  (k:∀w B,Ext M H M B->HR X.K M B->Rep X.K M B (.lst ((gA ns).map D.int)) w->Q w B):H0 (K7 X.prog X.w) X.A (aq5 (.builtin "sorted") [.ref l]) (EP X y σ Q) X.xe s:=by
 have E:ns.length=e.length:=by rw[<-N.length,<-U.length,E3]
 have at_:=λi (f:i<ns.length)=>Au U N f;have m:∀i (f:i<ns.length),ns.getD i 0=ns[i]:=λi f=>by rw[K6,E4 f];rfl
 refine nN (O:=D7) (key:=λi=>ns.getD i 0) (κ:=oneType') hT hg S hd (by lia) (λs1 Q' two kp q=>?_) (λi j s1 C f h kp q=>?_) λh1 p x c h' R L hs hx kp ho=>?_
 ·have Y:=wJ E.symm at_
  match e,two,Y with
  |v1::v2::r,_,Y=>rw[keyKind_ints Y];exact E5 q
 ·rw[<-E]at f h;obtain⟨t,g⟩:=at_ i f;obtain⟨u,g'⟩:=at_ j h;show H0 _ _ (keyLt' _ _ _) _ _ _;rw[jn g,jn g'];refine kat_lt_int ?_;have q':C (decide (ns.getD i 0<ns.getD j 0)) s1:=q
  rwa [m i f,m j h]at q'
 ·have G:∀i∈p.toList,i<ns.length:=λi f=>by rw[E];exact aa2.mp (L.mem_iff.mp f)
  have J:A.length=e.length:=N.length;have lo:(p.toList.map λi=>A.getD i .non).length=e.length:=by rw[E3,P7];exact L.size
  have I1:Inv X y σ H { s with heap:=h1,toks:=s.toks }:=I.kept R;have I2:=I1.laid (t':=s.toks) (o:=.lst (p.toList.map λi=>A.getD i .non)) kp hx (show bP X.prog X.w _ h' x (.lst _)from⟨by rw[lo,<-J];exact a0,iR e p,c,ka N (λi f=>by rw[J,<-E];exact G i f),ho⟩);have es:(p.toList.map λi=>ns.getD i 0)=gA ns:=by
   have P:p.toList.Perm (Q4 ns.length):=by rw[E];exact L
   have hm:=P.map λi=>ns.getD i 0;rw[rj]at hm;refine u6 hm ?_;rw[List.pairwise_iff_getElem];intro i j f h Z;have sz:p.size=e.length:=L.size;rw[E3,P7]at f h;have:=hs i j (ac5 Z) (by lia);have e1:kp_ p i=p.toList[i]'(by simpa using f):=by simp[kp_,al0,f]
   have e2:kp_ p j=p.toList[j]'(by simpa using h):=by simp[kp_,al0,h]
   have g:ns.getD (kp_ p i) 0<=ns.getD (kp_ p j) 0:=by
    have z:decide (ns.getD (kp_ p j) 0<ns.getD (kp_ p i) 0)=false:=this;simp only[decide_eq_false_iff_not]at z
    lia
   rw[e1,e2]at g;simpa using g
  refine⟨.ref x,_,I2,rfl,eO hr (I1.hok.fresh hx) (nq U G) λw B a b c=>?_⟩;rw[es]at c;exact k w B a b c
theorem uC(I:Inv X y σ H s)(hr:HR X.K M H){ps:List (Int×Int)}(a2:ps.length<64){l:F0}{T:String}{o:Obj}{n:Nat}{E:List V}{m:List E1}(rl:aq X.K M H (ps.map pD) E)(R:aA E m)(a1:E.length<=F2)
  (hT:T="list"∨T="tuple") (hg:s.heap.get? l=some o) (Y:o.cls=.type T) (hd:o.data=.seq m.toArray n) {Q:VK}
  (k:∀w G,Ext M H M G->HR X.K M G->Rep X.K M G (.lst ((cS ps).map pD)) w->Q w G):H0 (K7 X.prog X.w) X.A (aq5 (.builtin "sorted") [.ref l]) (EP X y σ Q) X.xe s:=by
 have J:ps.length=m.length:=by rw[<-R.length,<-rl.length,E3]
 have at_:=λi (e:i<ps.length)=>Aw I rl R e;have B:∀i (e:i<ps.length),ps.getD i (0,0)=ps[i]:=λi e=>by rw[K6,E4 e];rfl
 refine nN (O:=Eu) (key:=λi=>ps.getD i (0,0)) (κ:=tuples' true) hT hg Y hd (by lia) (λZ Q' two kp q=>?_) (λi j Z C e A kp q=>?_) λh1 p x c h' U P hs hx kp ho=>?_
 ·obtain⟨fs,t1,t2,t3⟩:=sO (h:=Z.heap) J.symm λi e=>let⟨a,t,u,g,z⟩:=at_ i e;⟨a,t,u,g,i3 z kp⟩
  exact kat_kind (T:=.type "int") t1 (by lia) (λf hf=>by obtain⟨i,t,rfl⟩:=t3 f hf;exact Looks.of_pure rfl) rfl q
 ·rw[<-J]at e A;obtain⟨a,t,u,g,z⟩:=at_ i e;obtain⟨b,t',u',g',z'⟩:=at_ j A;show H0 _ _ (keyLt' _ _ _) _ _ _;rw[jn g,jn g'];refine xg (i3 z kp) (i3 z' kp) ?_;have q':C (ltP (ps.getD i (0,0)) (ps.getD j (0,0))) Z:=q
  rwa [B i e,B j A]at q'
 ·have L:∀i∈p.toList,i<ps.length:=λi e=>by rw[J];exact aa2.mp (P.mem_iff.mp e)
  have N:E.length=m.length:=R.length;have lo:(p.toList.map λi=>E.getD i .non).length=m.length:=by rw[E3,P7];exact P.size
  have I1:Inv X y σ H { s with heap:=h1,toks:=s.toks }:=I.kept U;have I2:=I1.laid (t':=s.toks) (o:=.lst (p.toList.map λi=>E.getD i .non)) kp hx (show bP X.prog X.w _ h' x (.lst _)from⟨by rw[lo,<-N];exact a1,iR m p,c,ka R (λi e=>by rw[N,<-J];exact L i e),ho⟩);have es:(p.toList.map λi=>ps.getD i (0,0))=cS ps:=by
   have S:p.toList.Perm (Q4 ps.length):=by rw[J];exact P
   have hm:=S.map λi=>ps.getD i (0,0);rw[uo]at hm;refine wO hm ?_;rw[List.pairwise_iff_getElem];intro i j e A a0;have sz:p.size=m.length:=P.size;rw[E3,P7]at e A;have:=hs i j (ac5 a0) (by lia);have e1:kp_ p i=p.toList[i]'(by simpa using e):=by simp[kp_,al0,e]
   have e2:kp_ p j=p.toList[j]'(by simpa using A):=by simp[kp_,al0,A]
   have g:leP (ps.getD (kp_ p i) (0,0)) (ps.getD (kp_ p j) (0,0))=true:=by
    have z:ltP (ps.getD (kp_ p j) (0,0)) (ps.getD (kp_ p i) (0,0))=false:=this;simp only[leP,z,Bool.not_false]
   rw[e1,e2]at g;simpa using g
  refine⟨.ref x,_,I2,rfl,eO hr (I1.hok.fresh hx) (nH rl L) λw G a b c=>?_⟩;rw[es]at c;exact k w G a b c
def ku(ds:List D):Option D:=if ds.length<64 then(match g6 ds with|some a=>some (.lst ((cS a).map pD))|none=>(eU ds).map λb=>.lst ((gA b).map D.int))else none
def jz:D->Option D
 |.lst a=>ku a
 |.tup a=>ku a
 |_=>none
theorem p6:∀{ds:List D}{ns:List Int},eU ds=some ns->ds=ns.map D.int:=by
 intro ds
 induction ds using eU.induct with
 |case1=>intro ns e;cases e;rfl
 |case2 i ds ih =>
  intro ns e;simp only[eU]at e;cases q:eU ds with
  |none=>rw[q]at e;cases e
  |some b=>rw[q]at e;cases e;rw[ih q];rfl
 |case3 ds a f=>intro ns e;rw[eU]at e<;>simp_all
theorem wD(I:Inv X y σ H s)(hr:HR X.K M H){ds:List D}{t:D}(e:ku ds=some t){l:F0}{T:String}{o:Obj}{n:Nat}{i:List V}{f:List E1}(p:aq X.K M H ds i)(u:aA i f)(a:i.length<=F2)
  (m:T="list"∨T="tuple") (hg:s.heap.get? l=some o) (g:o.cls=.type T) (j:o.data=.seq f.toArray n) {Q:VK}
  (k:∀w h,Ext M H M h->HR X.K M h->Rep X.K M h t w->Q w h):H0 (K7 X.prog X.w) X.A (aq5 (.builtin "sorted") [.ref l]) (EP X y σ Q) X.xe s:=by
 unfold ku at e
 split at e
 ·rename_i b
  split at e
  ·rename_i z q;cases e;have:=rg q;subst this;exact uC I hr (by simpa using b) p u a m hg g j k
  ·cases q:eU ds with
   |none=>rw[q]at e;cases e
   |some x =>
    rw[q]at e;cases e;have:=p6 q;subst this;exact vm I hr (by simpa using b) p u a m hg g j k
 ·cases e
theorem gi:bE X (.builtin "sorted") (m9 jz):=by
 intro y s σ H M N J z L Q I x f B e k;obtain⟨d,rfl,g⟩:=cK e;clear e;obtain⟨v,rfl,r⟩:=kE B;obtain⟨u,rfl,A⟩:=aA.one f;cases d with
 |lst z =>
  obtain⟨l,G,rfl,sq,j⟩:=r;cases A;obtain⟨q,f,C,p⟩:=I.list (SqL.of sq);obtain⟨o,h,m,n,i⟩:=C.isList;exact wD I x g j f p (.inl rfl) h m i λw t a b c=>k w t a b c
 |tup z =>
  obtain⟨l,G,rfl,sq,j⟩:=r;cases A;obtain⟨q,f,E,p⟩:=I.tuple sq;obtain⟨o,h,m,n,i⟩:=E;exact wD I x g j f p (.inr rfl) h m i λw t a b c=>k w t a b c
 |_=>cases g
theorem pq{ps:List (Int×Int)}(h:ps.length<64):jz (.lst (ps.map pD))=some (.lst ((cS ps).map pD)):=by simp[jz,ku,jM,h]
theorem tD{ps:List (Int×Int)}(h:ps.length<64):jz (.tup (ps.map pD))=some (.lst ((cS ps).map pD)):=by simp[jz,ku,jM,h]
theorem sD{ns:List Int}(h:ns.length<64):jz (.lst (ns.map D.int))=some (.lst ((gA ns).map D.int)):=by
 cases ns with
 |nil=>simp[jz,ku,g6,cS,gA]
 |cons n ns=>simp[jz,ku,g6,ly,eU];simp at h;lia
end
end L2
namespace L2
open PySem PySem.Spec PyProof.Rows
def tLR(b:TA):TE:=λe H Q=>b e H λf a=>∃j:Int,f=[.int j]/\0<=j/\j<=1000000/\∀l,a l=none->Q (.ref l) (upd a l (.lst ((Q4 j.toNat).map λ(k:Nat)=>V.int (0+(k:Int)))))
theorem kX:∀{n m:Nat}{us:List E1},us.length=n->(∀(j:Nat) (v:E1),us[j]?=some v->∃t,v=.int (((m+j:Nat):Int)) t)->aA ((al6 m n).map λ(k:Nat)=>V.int (0+(k:Int))) us
 |0,m,us,h,_=>by
  have:us=[]:=List.eq_nil_of_length_eq_zero h;subst this;exact .nil
 |n+1,m,[],h,_=>by cases h
 |n+1,m,u::us,h,a=>by
  rw[List.range'_succ,J1];obtain⟨t,e⟩:=a 0 u rfl;subst e;refine .cons ⟨t,by rw[af6];rfl⟩ (kX (by simpa using h) λj v b=>?_);obtain⟨t,e⟩:=a (j+1) v (by simpa using b);exact⟨t,by rw[e,show m+(j+1)=m+1+j by lia]⟩
section
variable{X:Cx}{a:K8}{y:TA}{p z pos g:Pos}
theorem oh(Y:X.calm=true)(hg:Gl X "list")(N:X.mg "list"=none)(B:Gl X "range")(A:X.mg "range"=none)(ha:PA X [a] y)(P:E9 [a] X.env=[(false,X7 a X.env)]:=by rfl)
  (u:E9 [.Call (.Name "range" z) [a] [] g] X.env=[(false,X7 (.Call (.Name "range" z) [a] [] g) X.env)]:=by rfl):PE X (.Call (.Name "list" p) [.Call (.Name "range" z) [a] [] g] [] pos) (tLR y):=by
 intro E s J H Q I h;refine W4 (jh I hg N boot_list ?_);refine U5 ?_ u rfl;rw[u];show H0 _ _ (spliced [(false,X7 (.Call (.Name "range" z) [a] [] g) X.env)]) _ _ s;refine Calls.spliced_cons (Call_ (jh I B A boot_range (U5 (thn (ha g E s J H _ I h) λZ m x=>x.el λvs S U T C=>?_) P rfl)));obtain⟨j,e,C,q2,q⟩:=C;subst e;cases T with
 |cons r L =>
  cases L;obtain⟨t,rfl⟩:=r;refine call_range_1 (Calls.spliced_nil ?_);refine call_list_range (I.ok.hd Y) (IsRange.new ..) (small_one (by lia) (by lia) (by lia) (by lia)) (n:=j.toNat) (by rw[rangeSize_one];split<;>lia) (by lia) λO R l M kp e f=>?_;have G:Inv X E J S { m with heap:=m.heap.push { cls:=.type "range",data:=.fields #[.int 0 m.toks,.int j t,.int 1 (m.toks+1)] },toks:=m.toks+1+1 }:=U.kept λb o e=>u8 _ e;have w:aA ((Q4 j.toNat).map λ(k:Nat)=>V.int (0+(k:Int))) l.toList:=by
   rw[List.range_eq_range'];refine kX (by simpa using f.1) λi v w=>?_;obtain⟨t,e⟩:=f.2 i v (by simpa using w);exact⟨t,by rw[e];congr 1;lia⟩
  refine⟨.ref _,_,G.laid (t':=R) kp (F5 _) (show bP X.prog X.w _ O _ (.lst _)from⟨?_,l.toList,M,w,e⟩),rfl,q _ (G.hok.fresh (F5 _))⟩;rw[E3,List.length_range,ae7];lia
def dLR(y:TAd):TEd:=λa M Q=>y a M λb M1=>∃j:Int,b=[.int j]/\0<=j/\j<=1000000/\Q (.lst (mY 0 j.toNat)) M1
theorem pG{K:E2}{M:DH}{H:Hp}:∀(l:List Nat),aq K M H (l.map λ(k:Nat)=>D.int (0+(k:Int))) (l.map λ(k:Nat)=>V.int (0+(k:Int)))
 |[]=>rfl
 |k::l=>by simp only[J1,aq];exact⟨_,_,rfl,by simp[Rep],pG l⟩
theorem kj{y:TAd}(N:X.calm=true)(hg:Gl X "list")(C:X.mg "list"=none)(s:Gl X "range")(i:X.mg "range"=none)(ha:QAd X [a] y)(E:E9 [a] X.env=[(false,X7 a X.env)]:=by rfl)
  (n:E9 [.Call (.Name "range" z) [a] [] g] X.env=[(false,X7 (.Call (.Name "range" z) [a] [] g) X.env)]:=by rfl):QEd X (.Call (.Name "list" p) [.Call (.Name "range" z) [a] [] g] [] pos) (dLR y):=by
 simp only[QEd.eq,QAd.eq]at *
 exact(oh N hg C s i ha E n).conv λU H Q h=>h.el λG M R t u q k=>⟨G,M,_,t,u,q,λT M1 Y S ⟨j,e,L,P,B⟩ x m I=>by
   subst e;obtain⟨v,J,o⟩:=I.one;have f:v=.int j:=by simpa only[Rep]using o
   subst f;subst J;exact⟨j,rfl,L,P,λl A=>eO m A (pG _) λw O a b c=>k _ M1 w O B (x.trans a) b c⟩⟩
end
section
variable{X:Cx}{a b c e:K8}{pos:Pos}
def rZ(r p b:R2)(o s tc te:TE):TE:=λa H Q=>o a H λx i=>s a i λy q=>r x y q λz h=>∃k,z=.bl k /\
 (if k=true then tc a h λe n=>p y e n λj g=>∃f,j=.bl f/\(if f=true then te a g λm l=>b e m l Q else Q (.bl false) g)else Q (.bl false) h)
theorem tW{J O tc te:TE}{o j g:an2}{r L n:R2}(T:OpR X (L8 o) r)(p:OpR X (L8 j) L)(m:OpR X (L8 g) n)(ha:PE X a J)(hb:PE X b O)(hc:PE X c tc)(he:PE X e te)
  (hm:ai6 [o,j,g] [b,c,e]=false:=by with_unfolding_all rfl):PE X (.Compare a [o,j,g] [b,c,e] pos) (rZ r L n J O tc te):=by
 intro i s l H Q I h;refine Compare_chain (thn (ha i s l H _ I h) λv s1 f=>f.el λx R I1 Y q1=>chain_link (thn (hb i s1 l R _ I1 q1) λu s2 f=>f.el λy H2 I2 G q2 =>
  thn (T i s2 l H2 x y v u _ I2 Y G q2) λd s3 ⟨z,C,t,P,k,e,N⟩=>?_)) hm
 subst e;cases P;refine O2 ?_;cases k with
 |false=>exact ite_ff ⟨.bl false,C,t,rfl,N⟩
 |true =>
  refine ite_tt (chain_link (thn (hc i s3 l C _ t N) λw U ⟨E,H4,I4,q,q4⟩=>thn (p i U l H4 y E u w _ I4 G q q4) λd' s5 ⟨z5,B,A,Z,k5,e5,M⟩=>?_));subst e5;cases Z;refine O2 ?_;cases k5 with
  |false=>exact ite_ff ⟨.bl false,B,A,rfl,M⟩
  |true=>exact ite_tt (chain_last (thn (he i s5 l B _ A M) λw6 s6 f=>f.el λz6 H6 I6 S q6=>m i s6 l H6 E z6 w w6 Q I6 q S q6))
def oN(r i e:D->D->Option D)(h j tc te:TEd):TEd:=λa M Q=>h a M λx M1=>j a M1 λy M2=>∃k,r (rdM M2 x) (rdM M2 y)=some (.bl k)/\if k=true then tc a M2 λz b=>∃g,i (rdM b y) (rdM b z)=some (.bl g)/\(if g=true then te a b λu f=>∃w,e (rdM f z) (rdM f u)=some w/\Q w f else Q (.bl false) b)else Q (.bl false) M2
theorem mB{ta tb tc te:TEd}{L g f:an2}{r r' A:D->D->Option D}(ho:bB X (L8 L) r)(T:bB X (L8 g) r')(p:bB X (L8 f) A)(ha:QEd X a ta)(hb:QEd X b tb)(hc:QEd X c tc)(he:QEd X e te)
  (hm:ai6 [L,g,f] [b,c,e]=false:=by with_unfolding_all rfl):QEd X (.Compare a [L,g,f] [b,c,e] pos) (oN r r' A ta tb tc te):=by
 simp only[QEd.eq]at *
 refine(tW ho.v T.v p.v ha hb hc he hm).conv λσ H Q h=>?_;obtain⟨G,M,R,B,hr,q,k⟩:=h;refine⟨G,M,_,B,hr,q,λx M1 v H1 q1 n U rv=>⟨G,M1,_,B.ext n,U,q1,λy M2 u H2 ⟨b,eb,E⟩ m l ru=>⟨_,_,.bl b,M2,l,(rv.ext m).rd l,ru.rd l,eb,λw H3 o t P =>
  ⟨b,by simpa only[Rep]using P,?_⟩⟩⟩⟩
 cases b with
 |true =>
  simp only[if_true]at E ⊢;refine⟨G,M2,_,(B.ext (n.trans m)).ext o,t,E,λz O w4 H4 ⟨S,ed,I⟩ C i Z=>⟨_,_,.bl S,O,i,((ru.ext o).ext C).rd i,Z.rd i,ed,λw5 H5 J s r5=>⟨S,by simpa only[Rep]using r5,?_⟩⟩⟩;cases S with
  |true =>
   simp only[if_true]at I ⊢;exact⟨G,O,_,(((B.ext (n.trans m)).ext o).ext C).ext J,s,I,λz6 M6 w6 H6 ⟨d6,Y,q6⟩ e6 j r6=>⟨_,_,d6,M6,j,((Z.ext J).ext e6).rd j,r6.rd j,Y,λw7 H7 e7 N r7=>k d6 M6 w7 H7 q6 ((((((n.trans m).trans o).trans C).trans J).trans e6).trans e7) N r7⟩⟩
  |false =>
   simp only[F1,if_false]at I ⊢;exact k _ O _ H5 I ((((n.trans m).trans o).trans C).trans J) s (by simp[Rep])
 |false =>
  simp only[F1,if_false]at E ⊢;exact k _ M2 _ H3 E ((n.trans m).trans o) t (by simp[Rep])
end
section
variable{X:Cx}{y:ac4}{z:List (Str×F0)}{ms:List Bool}{ar:List Str}{B G I W Y:K8}{f0 f1:List K8}{pos:Pos}
theorem qy{i:Nat}{x:Str}{a b:Pos}{P A:TId}{O g:GD}{e tc:TTd}{te:TEd}(hN:X.N.Nodup)(p:X.N[i]?=some x)(hx:X.env.scope.names.lookup x=some .local)
  (m:af9 (.ListComp B [⟨G,I,f0,0⟩,⟨W,Y,f1,0⟩] y pos) (some (.Name x b)) a.line X.env=ae2 true) (S:fw X y z ms ar) (dS:X.calm=true) (hi:QId X G I P) (t:PGa X y z ar G O)
  (j:∀C s H f,QIf (aK X y z (X.N++ar) C s H f) f0 e) (J:∀C s H f,QId (aK X y z (X.N++ar) C s H f) W Y A) (hg:PGa X y z ar W g) (n:∀C s H f,QIf (aK X y z (X.N++ar) C s H f) f1 tc) (he:∀C s H f,QEd (aK X y z (X.N++ar) C s H f) B te)
  (T:∀x,O3 I X.env x=ae2 x:=by intro _;rfl) (o:∀C x,O3 Y (ap5 y z C X.env) x=ae2 x:=by intro _ _;rfl):QSd X (.Assign [.Name x b] (.ListComp B [⟨G,I,f0,0⟩,⟨W,Y,f1,0⟩] y pos) a) (xp i (za ms ar.length P O e A g tc te)):=by
 simp only[QEd.eq,QSd.eq,QId.eq,QIf.eq]at *
 obtain⟨a0,u,l⟩:=t;obtain⟨gv,R,kg⟩:=hg;refine(nO (tc:=upT X.K e) hN p hx m S dS hi u j (xu (w1:=upI X.K A) (tc1:=upT X.K tc) (te:=up X.K te) J R n he o) T).conv λD σ H hh=>?_;obtain⟨U,M,E,L,Q,q,k⟩:=hh;unfold xp za at q;exact pO l (λh=>tG kg sY h) σ H _ ⟨U,M,_,L,Q,q,λd M1 v H1 Z N w rv=>k.nx _ M1 _ H1 Z N w ((L.ext N).set i rv)⟩
end
section
variable{X:Cx}
end
section
variable{X:Cx}
def inF(x y:D):Option D:=match y with
 |.lst a=>if dLe x 59=true/\dm a 59=true then some (.bl (a.any λd=>eqD d x))else none
 |_=>none
theorem Do{x:D}{ds:List D}:inF x (.lst ds)=if dLe x 59=true/\dm ds 59=true then some (.bl (ds.any λd=>eqD d x))else none:=rfl
end
section
variable{X:Cx}{a b e:K8}{g E te:TEd}{pos:Pos}
def zJ(g E:TEd):TEd:=λb M Q=>g b M λx M1=>E b M1 λy M2=>∃a n,rdM M2 x=.lst a/\y=.int n/\-(2 ^ 63)<=n/\n<2 ^ 63/\a.length*n.toNat<=F2/\∀p,M2 p=none->Q (.ref p) (aG M2 p (.lst (F3 n.toNat a).flatten))
theorem BF(ha:QEd X a g)(G:QEd X b E):QEd X (.BinOp a .Mult b pos) (zJ g E):=by
 simp only[QEd.eq]at *
 exact(zG u9 ha G).conv λY H Q h=>h.el λs M R l z q k=>⟨s,M,_,l,z,q,λx M1 v U T m i O=>⟨s,M1,_,l.ext m,i,T,λy M2 u H2 ⟨Z,n,S,C,L,P,J,B⟩ w e t=>by
   have o:=(O.ext w).rd e;rw[S]at o;subst C;simp only[Rep]at t;obtain⟨I,N,rfl,A,f⟩:=o;exact⟨I,n,N,rfl,t,A,L,P,by rw[<-f.length];exact J,λp j=>k _ _ _ _ (B p (e.fresh j)) ((m.trans w).trans (Ext.own j)) (e.own j (f.rep n.toNat)) (by simp only[Rep])⟩⟩⟩
def kK(ds:List D)(x:D):Option Nat:=if dLe x 59=true/\dm ds 59=true/\ds.length<2 ^ 62 then ds.findIdx? (λd=>eqD d x)else none
theorem vJ{ds:List D}{x:D}{j:Nat}(h:kK ds x=some j):dLe x 59=true/\dm ds 59=true/\ds.length<2 ^ 62/\∃b:j<ds.length,eqD ds[j] x=true/\∀m (g:m<ds.length),m<j->eqD ds[m] x=false:=by
 unfold kK at h
 by_cases a:dLe x 59=true/\dm ds 59=true/\ds.length<2 ^ 62
 ·rw[if_pos a]at h;obtain⟨b,i,f⟩:=List.findIdx?_eq_some_iff_getElem.mp h;exact⟨a.1,a.2.1,a.2.2,b,i,λm g e=>by have:=f m e;simpa using this⟩
 ·rw[if_neg a]at h;cases h
section
open PySem.SeqAt PySem.MeetsSeq AutoSeq1
theorem qm(l:F0)(xs:Array E1)(n:Nat)(x:Option F0)(os:Array (Option E1))(y:E1)(e:Nat->Bool)(top:Int)(j:Nat)(s:j<xs.size)(f:(j:Int)<top)(g:e j=true):
  ∀(k i:Nat),j-i=k->i<=j->(∀m,i<=m->m<j->e m=false)->Meets (K1.«list.index.loop» ⟨[.ref l,y,ai5 i,ai5 top],[]⟩)
   (λB R t=>t.heap.get? l=some { cls:=.type "list",dict:=x,data:=.seq xs n,slots:=os }/\(∀m (h:m<xs.size),EqAt B.in1 t xs[m] y (e m))/\R (.ok (.ret (.int j t.toks))) { t with toks:=t.toks+1 })
 |0,i,J,E,no,prog,w,B,R,t,q=>by
  obtain⟨I,C,G,H,A⟩:=t;obtain⟨p,o,u⟩:=q;obtain rfl:i=j:=by lia
  wp_walk using ac9 p
  rw[show(if(i:Int)<top then xs[((i:Nat):Int).toNat]? else none)=some xs[i]by simp[f,s]];refine o0 (o i s prog w _ _ ?_);rw[g]
  wp_walk
  exact u
 |k+1,i,J,E,no,prog,w,B,R,t,q=>by
  obtain⟨I,C,G,H,A⟩:=t;obtain⟨p,o,u⟩:=q;have z:i<xs.size:=by lia
  have lt:(i:Int)<top:=by lia
  wp_walk using ac9 p
  rw[show(if(i:Int)<top then xs[((i:Nat):Int).toNat]? else none)=some xs[i]by simp[lt,z]];refine o0 (o i z prog w _ _ ?_);rw[no i (F5 _) (by lia)]
  wp_walk
  rw[show((i:Int)+1)=((i+1:Nat):Int)by lia];refine⟨plainId_quiet plain_index_loop _,aj1 entry_index_loop ?_⟩;rw[M9.under_plainId plain_index_loop _];exact qm l xs n x os y e top j s f g k (i+1) (by lia) (by lia) (λm a b=>no m (by lia) b) prog w B R _ ⟨p,o,u⟩
theorem we(l:F0)(xs:Array E1)(n:Nat)(f:Option F0)(os:Array (Option E1))(y:E1)(a:Nat->Bool)(j:Nat)(s:j<xs.size)(p:(j:Int)<2 ^ 63-1)(e:a j=true)(no:∀m,m<j->a m=false):
  Meets (K1.«list.index» ⟨[.ref l,y],[]⟩)
   (λB R t=>t.heap.get? l=some { cls:=.type "list",dict:=f,data:=.seq xs n,slots:=os }/\(∀m (h:m<xs.size),EqAt B.in1 t xs[m] y (a m))/\R (.ok (.ret (.int j t.toks))) { t with toks:=t.toks+1 }):=by
 intro prog w B R t q;obtain⟨E,z,A,C,x⟩:=t;obtain⟨g,o,u⟩:=q
 wp_walk using ac9 g
 rw[show((λi:Int=>if i<0 then max 0 (i+(xs.size:Int))else i) ((none:Option Int).getD 0))=((0:Nat):Int)by simp,show((λi:Int=>if i<0 then max 0 (i+(xs.size:Int))else i) ((none:Option Int).getD (2 ^ 63-1)))=2 ^ 63-1 by simp];refine⟨plainId_quiet plain_index_loop _,aj1 entry_index_loop ?_⟩;rw[M9.under_plainId plain_index_loop _];exact qm l xs n f os y a (2 ^ 63-1) j s p e _ 0 rfl (P9 _) (λm _ b=>no m b) prog w B R _ ⟨g,o,u⟩
theorem uB(l:F0)(xs:Array E1)(y:E1)(a:Nat->Bool)(j:Nat)(N:j<xs.size)(M:(j:Int)<2 ^ 63-1)(g:a j=true)(no:∀m,m<j->a m=false):
  Meets (K1.«tuple.index» ⟨[.ref l,y],[]⟩)
   (λB R t=>(∃o n,t.heap.get? l=some o/\o.data=.seq xs n)/\(∀m (h:m<xs.size),EqAt B.in1 t xs[m] y (a m))/\R (.ok (.ret (.int j t.toks))) { t with toks:=t.toks+1 }):=by
 intro prog w B R t q;obtain⟨I,u,G,H,s⟩:=t;obtain⟨⟨o,n,L,qd⟩,A,E⟩:=q;unfold K1.«tuple.index»
 wp_walk
 rw[qd];refine E5 (E5 ?_);refine o0 (E5 ?_);refine o0 (E5 ?_);dsimp only;rw[Nat.min_self];refine o0 ?_;rw[Std.Legacy.Range.forIn_eq_forIn_range'];refine wpAny_forIn_list _ (λrest b f=>b=(none,())/\f=(⟨I,u,G,H,s⟩:E6)/\∃i,i<=j/\rest=al6 i (xs.size-i) 1) _ ?_ ?_ _ _ ⟨rfl,rfl,0,P9 _,?_⟩
 ·rintro x rest b f ⟨rfl,rfl,i,C,e⟩;have p:i<xs.size:=by lia
  have J:al6 i (xs.size-i) 1=i::al6 (i+1) (xs.size-(i+1)) 1:=by
   rw[show xs.size-i=xs.size-(i+1)+1 by lia,List.range'_succ]
  rw[J]at e;obtain⟨rfl,rfl⟩:=T9.inj e;rw[Array.getElem?_eq_getElem p];dsimp only;refine o0 (A x p prog w _ _ ?_)
  by_cases z:x=j
  ·subst z;rw[g];simp only[if_true];refine o0 ?_;unfold retInt;refine o0 (wpAny_mkInt (E5 ?_));refine E5 ?_;exact E5 E
  ·rw[no x (by lia)];simp only[F1,if_false];exact E5 ⟨rfl,rfl,x+1,by lia,rfl⟩
 ·rintro b f ⟨rfl,rfl,i,C,e⟩;have:=congrArg aa3 e;simp at this
  lia
 ·simp[Std.Legacy.Range.size]
end
end
section
variable{X:Cx}{o e:K8}{B te:TEd}{E g:Pos}
def o7(ds:List D)(d:D)(m:Nat):Bool:=match ds[m]? with|some x=>eqD x d|none=>false
theorem tL{t:List (F0×Obj)}{σ:St}{H:Hp}{s:E6}{M:DH}{ds:List D}{d:D}{f:List V}{a:List E1}{y:V}{u:E1}(I:Inv X t σ H s)(B:X.A.units+64<ao2)(e:aq X.K M H ds f)(r:aA f a)(q:aM X.K M H d y)(p:aO y u)(A:dLe d 59=true)(x:dm ds 59=true):
  ∀m (h:m<a.toArray.size),PySem.SeqAt.EqAt X.A.in1 s a.toArray[m] u (o7 ds d m):=λm h=>by
 have C:ds.length=a.length:=e.length.trans r.length;have z:m<a.length:=by simpa using h
 have b:m<ds.length:=by lia
 obtain⟨E,o,n⟩:=e.get (i:=m) (d:=ds[m]) (by simp[b]);obtain⟨g,w,j⟩:=r.get o;have l:a.toArray[m]=g:=by simpa[E4 z]using w
 rw[l,show o7 ds d m=eqD ds[m] d by simp[o7,b]];exact(qL I 59 (by show X.A.units+1+59<ao2;lia) (jl x (i:=m) (by simp[b])) A n.r q j p).1
theorem pK{ds:List D}{x:D}{j:Nat}(h:kK ds x=some j):dLe x 59=true/\dm ds 59=true/\(j:Int)<2 ^ 63-1/\j<ds.length/\o7 ds x j=true/\∀m,m<j->o7 ds x m=false:=by
 obtain⟨i,f,l,e,b,no⟩:=vJ h;refine⟨i,f,by lia,e,by simp[o7,e,b],λm g=>?_⟩;have a:m<ds.length:=by lia
 simp[o7,a,no m a g]
theorem zb(i:X.A.units+64<ao2):MtR X "list.index" (λx xs H Q=>∃M ds d y j,xs=[y]/\aM X.K M H (.lst ds) x/\aM X.K M H d y/\kK ds d=some j/\Q (.int j) H):=by
 intro L s O H x xs v us Q I rx rv h;obtain⟨M,ds,d,y,j,rfl,B,o,t,q⟩:=h;obtain⟨u,rfl,m⟩:=aA.one rv;obtain⟨l,S,rfl,sq,g⟩:=B;cases rx;obtain⟨a,r,z,R⟩:=I.list (SqL.of sq);obtain⟨J,E,p,P,e,no⟩:=pK t;have N:ds.length=a.length:=g.length.trans r.length;obtain⟨⟨c,w,dt,G⟩,n,f,A,C,b⟩:=z;obtain rfl:c=.type "list":=A;obtain rfl:dt=.seq a.toArray n:=b;exact af5 F.slot_list_index ⟨_,f,rfl⟩ F.entry_list_index (F.args_list_index_2 _ _) (we l a.toArray n w G u (o7 ds d) j (by simp;lia) p e no) ⟨f,tL I i g r o m J E,⟨.int _,H,I.tok _,⟨_,rfl⟩,q⟩⟩
theorem yt(g:X.A.units+64<ao2):MtR X "tuple.index" (λx xs H Q=>∃M ds d y j,xs=[y]/\aM X.K M H (.tup ds) x/\aM X.K M H d y/\kK ds d=some j/\Q (.int j) H):=by
 intro E s J H x xs v us Q I rx rv h;obtain⟨M,ds,d,y,j,rfl,z,m,p,q⟩:=h;obtain⟨u,rfl,i⟩:=aA.one rv;obtain⟨l,O,rfl,sq,f⟩:=z;cases rx;obtain⟨a,r,⟨A,e,w,⟨n,t⟩,_⟩,N⟩:=I.tupN sq;obtain⟨C,B,o,L,b,no⟩:=pK p;have G:ds.length=a.length:=f.length.trans r.length;exact af5 F.slot_tuple_index ⟨_,e,w⟩ F.entry_tuple_index (F.args_tuple_index_2 _ _) (uB l a.toArray u (o7 ds d) j (by simp;lia) o b no) ⟨⟨A,n,e,t⟩,tL I g f r m i C B,⟨.int _,H,I.tok _,⟨_,rfl⟩,q⟩⟩
def Ei(K:E2)(r:V->List V->Hp->VK->Prop)(B:TE)(t:TA):TE:=λb H Q=>B b H λx e=>(∃p a,x=.ref p/\SqT K e p a)/\t b e λa f=>r x a f Q
theorem BI{name:Str}{id:String}{r:V->List V->Hp->VK->Prop}{b:List K8}{B:TE}{t:TA}(slot:Slot "tuple" name id)(l:typeOf (.builtin id)=ae2 (.type "method_descriptor"))(J:MtR X id r)(Y:PE X o B)(ha:PA X (e::b) t)
  (w:U6 o name X.env (X7 o X.env)=X7 o X.env)
  (C:((U3 g (E9 (e :: b) X.env)).all (λx => !x.1) && (ak1 g (ad1 [] X.env)).all (λx => x.1.isSome)
  &&decide ((e::b).length+([]:List ae8).length+(if([]:List ae8).isEmpty then 0 else 1)<30))=true)
  (O:(E.endLine==g.line)=true) (M:E9 (e::b) X.env=(false,X7 e X.env)::E9 b X.env) (fe:(U3 g (E9 b X.env)).any (·.1)=false) :
  PE X (.Call (.Attribute o name E) (e::b) [] g) (Ei X.K r B t):=by
 intro i s j H Q I h;refine wpAny_Call_method_late w C O rfl (thn (Y i s j H _ I h) λv N ⟨x,U,u,Z,⟨p,xs,ex,sq⟩,T⟩=>?_);subst ex;cases Z;obtain⟨S,_,⟨n,m,ec,_,L⟩,_⟩:=u.tupN sq;refine⟨"tuple",id,F.plainAttrs_tuple,slot,l,⟨n,m,ec⟩,λa z=>by cases z;exact⟨n,m,L⟩,?_⟩;have q:=ha g i N j U _ u T;rw[M]at q ⊢;refine Calls.callWith_builtin (by show(false || (U3 g (E9 b X.env)).any (·.1))=false;rw[fe]<;>rfl) (Calls.evalArgs_plain ?_);exact thn q λA s2 f=>f.el λvs R I2 P G=>J i s2 j R (.ref p) vs (J0 p) A Q I2 rfl P G
def zH(B te:TEd):TEd:=λb M Q=>B b M λo M1=>(∃a,rdM M1 o=.lst a)/\te b M1 λx M2=>∃a j,rdM M2 o=.lst a/\kK a (rdM M2 x)=some j/\Q (.int j) M2
theorem vw(w:X.A.units+64<ao2)(I:QEd X o B)(he:QEd X e te)(G:U6 o "index" X.env (X7 o X.env)=X7 o X.env:=by rfl)
  (f:E9 [e] X.env=(false,X7 e X.env)::E9 [] X.env:=by rfl)
  (J:((U3 g (E9 [e] X.env)).all (λx => !x.1) && (ak1 g (ad1 [] X.env)).all (λx => x.1.isSome)
  &&decide ([e].length+([]:List ae8).length+(if([]:List ae8).isEmpty then 0 else 1)<30))=true:=by rfl)
  (S:(E.endLine==g.line)=true:=by rfl) (L:(U3 g (E9 [] X.env)).any (·.1)=false:=by rfl):QEd X (.Call (.Attribute o "index" E) [e] [] g) (zH B te):=by
 rw[QEd.eq]at *
 refine(vb ab7 PySem.F.slot_list_index PySem.F.type_list_index (zb w) I (bF he dY f) G J S f L).conv λσ H Q T=>?_;obtain⟨p,M,R,l,A,q,k⟩:=T;refine⟨p,M,_,l,A,q,λo M1 ov H1 ⟨⟨U,z⟩,q1⟩ m b t=>?_⟩;have n:=t.rd b;rw[z]at n;obtain⟨l0,i,rfl,h,_⟩:=n;refine⟨.inl ⟨rfl,i,SqL.of h⟩,p,M1,_,l.ext m,b,q1,λd M2 v Z ⟨P,j,C,N,O⟩ u a Y=>?_⟩;have s:=(t.ext u).rd a;rw[C]at s;exact⟨M2,P,_,v,j,rfl,s,Y.rd a,N,k _ M2 _ Z O (m.trans u) a (by simp[Rep])⟩
def zK(B te:TEd):TEd:=λa M Q=>B a M λo M1=>∃b,o=.tup b/\te a M1 λx M2=>∃j,kK b (rdM M2 x)=some j/\Q (.int j) M2
theorem AS(u:X.A.units+64<ao2)(C:QEd X o B)(he:QEd X e te)(A:U6 o "index" X.env (X7 o X.env)=X7 o X.env:=by rfl)
  (f:E9 [e] X.env=(false,X7 e X.env)::E9 [] X.env:=by rfl)
  (G:((U3 g (E9 [e] X.env)).all (λx => !x.1) && (ak1 g (ad1 [] X.env)).all (λx => x.1.isSome)
  &&decide ([e].length+([]:List ae8).length+(if([]:List ae8).isEmpty then 0 else 1)<30))=true:=by rfl)
  (U:(E.endLine==g.line)=true:=by rfl) (J:(U3 g (E9 [] X.env)).any (·.1)=false:=by rfl):QEd X (.Call (.Attribute o "index" E) [e] [] g) (zK B te):=by
 rw[QEd.eq]at *
 refine(BI PySem.F.slot_tuple_index PySem.F.type_tuple_index (yt u) C (bF he dY f) A G U f J).conv λσ H Q Z=>?_;obtain⟨n,M,R,l,w,q,k⟩:=Z;refine⟨n,M,_,l,w,q,λo M1 T z ⟨i,O,q1⟩ m b p=>?_⟩;subst O;have P:aM X.K M1 z (.tup i) T:=p.rd b;obtain⟨S,I,rfl,h,_⟩:=P;refine⟨⟨_,_,rfl,h⟩,n,M1,_,l.ext m,b,q1,λd M2 v s ⟨j,L,N⟩ t a rv=>?_⟩;have Y:aM X.K M2 s (.tup i) (.ref S):=(p.ext t).rd a;exact⟨M2,i,_,v,j,rfl,Y,rv.rd a,L,k _ M2 _ s N (m.trans t) a (by simp[Rep])⟩
end
noncomputable def itN:Bool->String
 |true=>"tuple_iterator"
 |false=>"list_iterator"
def sqN:Bool->String
 |true=>"tuple"
 |false=>"list"
def eI(b:Bool)(h:J6)(i l:F0)(k:Nat):Prop:=∃o,h.get? i=some o/\o.cls=.type (itN b)/\o.data=.fields #[.ref l,.int k 0]
def fi(b:Bool)(h:J6)(l:F0)(xs:Array E1):Prop:=∃o,h.get? l=some o/\o.cls=.type (sqN b)/\∃n,o.data=.seq xs n
section
variable{prog:K3}{w:Q5}{A:M9}{E:E1->E6->Prop}{s:E6}{b c:Bool}
theorem eI.go{h h':J6}{i l:F0}{k:Nat}(x:eI b h i l k)(f:∀o,h.get? i=some o->h'.get? i=some o):eI b h' i l k:=let⟨o,e,r⟩:=x;⟨o,f o e,r⟩
theorem fi.go{h h':J6}{l:F0}{xs:Array E1}(x:fi b h l xs)(f:∀o,h.get? l=some o->h'.get? l=some o):fi b h' l xs:=let⟨o,e,r⟩:=x;⟨o,f o e,r⟩
theorem i9{it l:F0}{i:Nat}{xs:Array E1}{x:E1}{Q:E1->E6->Prop}(p:eI b s.heap it l i)(q:fi b s.heap l xs)(a:xs[i]?=some x)
  (k:∀h',eI b h' it l (i+1)->Z6 it s.heap h'->Q x { s with heap:=h' }):H0 (K7 prog w) A (N8 (.ref it)) Q E s:=by
 cases b with
 |true=>exact kQ (show s.heap.IsTupleIter it l i from p) (show s.heap.IsTuple l xs from q) a k
 |false=>exact wpAny_nextOf_list_item (show s.heap.IsListIter it l i from p) (show s.heap.IsList l xs from q) a k
theorem nP{it l:F0}{i:Nat}{xs:Array E1}{Q:E1->E6->Prop}(a:A.handled=none)(p:eI b s.heap it l i)(q:fi b s.heap l xs)(f:xs[i]?=none)
  (k:∀h' e,J6.ExtBut it s.heap h'->(∃o,h'.get? e=some o/\o.cls=.type "StopIteration")->E (.ref e) { s with heap:=h' }):H0 (K7 prog w) A (N8 (.ref it)) Q E s:=by
 cases b with
 |true=>exact lD a (show s.heap.IsTupleIter it l i from p) (show s.heap.IsTuple l xs from q) f k
 |false=>exact wpAny_nextOf_list_end a (show s.heap.IsListIter it l i from p) (show s.heap.IsList l xs from q) f k
theorem tU{z T U i j l m:F0}{k:Nat}{xs ys:Array E1}{x y u v:E1}{Q:E1->E6->Prop}(D:ao5 z T U i j l m)
  (B:an7 s.heap z T U .none) (hT:ae4 s.heap T (.ref i) (.ref j)) (hU:ae4 s.heap U u v) (hi:eI b s.heap i l k) (hj:eI c s.heap j m k) (hl:fi b s.heap l xs) (hm:fi c s.heap m ys) (hx:xs[k]?=some x) (hy:ys[k]?=some y)
  (q:∀ h',an7 h' z T U (ai5 s.heap.objs.size) → ae4 h' U x y → eI b h' i l (k + 1) → eI c h' j m (k + 1) → ae4 h' s.heap.objs.size x y → h'.objs.size = s.heap.objs.size + 1 →
   (∀d o,d≠z->d≠U->d≠i->d≠j->s.heap.get? d=some o->h'.get? d=some o)->Q (.ref s.heap.objs.size) { s with heap:=h' }) :
  H0 (K7 prog w) A (K1.«zip.__next__» ⟨[.ref z],[]⟩) (λR s'=>∃v,R=.done (.ret v)/\Q v s') E s:=by
 show H0 _ _ (field (.ref z) 2 >>= _) _ _ _;refine o0 (P1 B rfl (x:=.bool false) rfl ?_);show H0 _ _ (field (.ref z) 3 >>= _) _ _ _;refine o0 (P1 B rfl (x:=.ref T) rfl (o0 (X4 hT rfl ?_)));show H0 _ _ (U1 (.ref z) >>= _) _ _ _;refine o0 ?_;unfold U1;refine o0 (P1 B rfl (x:=.none) rfl (E5 ?_));simp only[if_true];refine o0 (ak9 (o0 (P1 B rfl (x:=.ref U) rfl ?_)));refine o0 (aa1 B (by simp) λg1 J f=>?_);replace J:an7 g1 z T U .ellipsis:=J;refine o0 ?_;simp only[List.zipIdx_cons,List.zipIdx_nil,List.forIn_cons,List.forIn_nil];refine o0 (o0 (ag4 ?_));show H0 _ _ (N8 (.ref i) >>= _) _ _ _;refine o0 (i9 (hi.go λo e=>f.extBut _ _ D.i1z e) (hl.go λo e=>f.extBut _ _ D.l1z e) hx λg2 i2 n=>E5 ?_);have X:ae4 g2 U u v:=n.extBut _ _ D.TOi1 (f.extBut _ _ D.TOz hU);refine o0 (X4 X rfl (o0 (wpAny_updateSeq_pair X λg3 S h=>?_)));replace S:ae4 g3 U x v:=S;refine o0 (an8 (E5 (o0 (o0 (ag4 ?_)))));show H0 _ _ (N8 (.ref j) >>= _) _ _ _;refine o0 (i9 (hj.go λo e=>h.extBut _ _ D.TOi2.symm (n.extBut _ _ D.i12.symm (f.extBut _ _ D.i2z e))) (hm.go λo e=>h.extBut _ _ D.l2TO (n.extBut _ _ D.l2i1 (f.extBut _ _ D.l2z e))) hy λg4 j4 C=>E5 ?_);have u4:ae4 g4 U x v:=C.extBut _ _ D.TOi2 S;refine o0 (X4 u4 rfl (o0 (wpAny_updateSeq_pair u4 λa H t=>?_)));replace H:ae4 a U x y:=H;refine o0 (an8 (E5 (E5 (o0 (X4 H rfl (o0 (wpAny_newTuple ?_)))))));have sz:a.objs.size=s.heap.objs.size:=by rw[t.1,C.1,h.1,n.1,f.1]
 have Y:an7 a z T U .ellipsis:=t.extBut _ _ D.TOz.symm (C.extBut _ _ D.i2z.symm (h.extBut _ _ D.TOz.symm (n.extBut _ _ D.i1z.symm J)));have kp:∀d o,d≠z->d≠U->d≠i->d≠j->s.heap.get? d=some o->a.get? d=some o:=λd o g I P M e =>
  t.extBut _ _ I (C.extBut _ _ M (h.extBut _ _ I (n.extBut _ _ P (f.extBut _ _ g e))))
 have i5:eI b a i l (k+1):=i2.go λo e=>t.extBut _ _ D.TOi1.symm (C.extBut _ _ D.i12 (h.extBut _ _ D.TOi1.symm e));have j5:eI c a j m (k+1):=j4.go λo e=>t.extBut _ _ D.TOi2.symm e;have lz:z<a.objs.size:=F8 Y;show H0 _ _ (K1.SmallTypes.ownedTupleHandOut (.ref z) (.ref a.objs.size) >>= _) _ _ _;refine o0 ?_;unfold K1.SmallTypes.ownedTupleHandOut;have z6:an7 (a.push { cls:=.type "tuple",data:=.seq #[x,y] }) z T U .ellipsis:=u8 _ Y;refine o0 (aa1 z6 (by simp) λg7 O L=>?_);replace O:an7 g7 z T U (ai5 a.objs.size):=O;refine aa1 O (by simp) λp G N=>?_;replace G:an7 p z T U (ai5 a.objs.size):=G;have up:∀d o,d≠z->a.get? d=some o->p.get? d=some o:=λd o g e=>N.extBut _ _ g (L.extBut _ _ g (u8 _ e));have Z:ae4 p a.objs.size x y:=N.extBut _ _ (ac7 lz) (L.extBut _ _ (ac7 lz) (F9 _ rfl));have n8:p.objs.size=a.objs.size+1:=by rw[N.1,L.1,aa4]
 rw[sz]at G Z n8;refine E5 ⟨_,rfl,?_⟩;show Q (.ref a.objs.size) _;rw[sz];exact q p G (up _ _ D.TOz H) (i5.go λo e=>up _ o D.i1z e) (j5.go λo e=>up _ o D.i2z e) Z n8 λd o g I P M e=>up d o g (kp d o g I P M e)
theorem wB{z T U i j l m:F0}{k:Nat}{xs I:Array E1}{u v:E1}{Q:PySem.Fin->E6->Prop}(Z:A.handled=none)(D:ao5 z T U i j l m)
  (n:an7 s.heap z T U .none) (hT:ae4 s.heap T (.ref i) (.ref j)) (hU:ae4 s.heap U u v) (hi:eI b s.heap i l k) (hj:eI c s.heap j m k) (Y:fi b s.heap l xs) (hm:fi c s.heap m I) (no:xs[k]?=none∨I[k]?=none)
  (q:∀h' e,(∀d o,d≠z->d≠U->d≠i->d≠j->s.heap.get? d=some o->h'.get? d=some o)->(∃o,h'.get? e=some o/\o.cls=.type "StopIteration")->E (.ref e) { s with heap:=h' }) :
  H0 (K7 prog w) A (K1.«zip.__next__» ⟨[.ref z],[]⟩) Q E s:=by
 show H0 _ _ (field (.ref z) 2 >>= _) _ _ _;refine o0 (P1 n rfl (x:=.bool false) rfl ?_);show H0 _ _ (field (.ref z) 3 >>= _) _ _ _;refine o0 (P1 n rfl (x:=.ref T) rfl (o0 (X4 hT rfl ?_)));show H0 _ _ (U1 (.ref z) >>= _) _ _ _;refine o0 ?_;unfold U1;refine o0 (P1 n rfl (x:=.none) rfl (E5 ?_));simp only[if_true];refine o0 (ak9 (o0 (P1 n rfl (x:=.ref U) rfl ?_)));refine o0 (aa1 n (by simp) λg1 C a=>?_);replace C:an7 g1 z T U .ellipsis:=C;refine o0 ?_;simp only[List.zipIdx_cons,List.zipIdx_nil,List.forIn_cons,List.forIn_nil];refine o0 (o0 (ag4 ?_));show H0 _ _ (N8 (.ref i) >>= _) _ _ _;cases J:xs[k]? with
 |none =>
  refine o0 (nP Z (hi.go λo e=>a.extBut _ _ D.i1z e) (Y.go λo e=>a.extBut _ _ D.l1z e) J λG e f H=>?_);obtain⟨N,g,B⟩:=H;have S:an7 G z T U .ellipsis:=f _ _ D.i1z.symm C;have M:e≠z:=λp=>by subst p;rw[S]at g;cases g;simp at B
  exact aa1 S (by simp) λg3 _ h=>q g3 e (λd o t _ L _ p=>h.extBut _ _ t (f _ _ L (a.extBut _ _ t p))) ⟨N,h.extBut _ _ M g,B⟩
 |some x =>
  have hy:I[k]?=none:=no.resolve_left (by rw[J];exact nofun);refine o0 (i9 (hi.go λo e=>a.extBut _ _ D.i1z e) (Y.go λo e=>a.extBut _ _ D.l1z e) J λG i2 f=>E5 ?_);have P:ae4 G U u v:=f.extBut _ _ D.TOi1 (a.extBut _ _ D.TOz hU);refine o0 (X4 P rfl (o0 (wpAny_updateSeq_pair P λg3 u3 h=>?_)));refine o0 (an8 (E5 (o0 (o0 (ag4 ?_)))));show H0 _ _ (N8 (.ref j) >>= _) _ _ _;refine o0 (nP Z (hj.go λo e=>h.extBut _ _ D.TOi2.symm (f.extBut _ _ D.i12.symm (a.extBut _ _ D.i2z e))) (hm.go λo e=>h.extBut _ _ D.l2TO (f.extBut _ _ D.l2i1 (a.extBut _ _ D.l2z e))) hy λg4 e X H=>?_);obtain⟨N,g,B⟩:=H;have O:an7 g4 z T U .ellipsis:=X _ _ D.i2z.symm (h.extBut _ _ D.TOz.symm (f.extBut _ _ D.i1z.symm C));have M:e≠z:=λp=>by subst p;rw[O]at g;cases g;simp at B
  exact aa1 O (by simp) λg5 _ R=>q g5 e (λd o t a2 L a4 p=>R.extBut _ _ t (X _ _ a4 (h.extBut _ _ a2 (f.extBut _ _ L (a.extBut _ _ t p))))) ⟨N,R.extBut _ _ M g,B⟩
theorem o9{z T U i j l m:F0}{k:Nat}{xs a:Array E1}{x y u v:E1}{Q:Option E1->E6->Prop}(D:ao5 z T U i j l m)
  (e:an7 s.heap z T U .none) (f:ae4 s.heap T (.ref i) (.ref j)) (B:ae4 s.heap U u v) (hi:eI b s.heap i l k) (p:eI c s.heap j m k) (t:fi b s.heap l xs) (J:fi c s.heap m a) (n:xs[k]?=some x) (g:a[k]?=some y)
  (q:∀ h',an7 h' z T U (ai5 s.heap.objs.size) → ae4 h' U x y → eI b h' i l (k + 1) → eI c h' j m (k + 1) → ae4 h' s.heap.objs.size x y → h'.objs.size = s.heap.objs.size + 1 →
   (∀d o,d≠z->d≠U->d≠i->d≠j->s.heap.get? d=some o->h'.get? d=some o)->Q (some (.ref s.heap.objs.size)) { s with heap:=h' }) :
  H0 (K7 prog w) A (ao1 (.ref z)) Q E s:=by
 have ty:s.TypeIs (.ref z) "zip":=⟨_,e,rfl⟩;unfold ao1;exact o0 (ag5 (R0 (name:=R7 "__next__") ty aj2 (V0 aj2 ty F.entry_zip_next
  (tU D e f B hi p t J n g λh' h C M G I H L=>E5 (q h' h C M G I H L)) (F.args_zip_next_1 _))))
theorem qj{z T U i j l m:F0}{k:Nat}{xs a:Array E1}{u v:E1}{Q:Option E1->E6->Prop}(x:A.handled=none)(D:ao5 z T U i j l m)
  (f:an7 s.heap z T U .none) (g:ae4 s.heap T (.ref i) (.ref j)) (B:ae4 s.heap U u v) (hi:eI b s.heap i l k) (p:eI c s.heap j m k) (t:fi b s.heap l xs) (G:fi c s.heap m a) (no:xs[k]?=none∨a[k]?=none)
  (q:∀h',(∀d o,d≠z->d≠U->d≠i->d≠j->s.heap.get? d=some o->h'.get? d=some o)->Q none { s with heap:=h' }):H0 (K7 prog w) A (ao1 (.ref z)) Q E s:=by
 have ty:s.TypeIs (.ref z) "zip":=⟨_,f,rfl⟩;unfold ao1;refine o0 (ag5 (R0 (name:=R7 "__next__") ty aj2 (V0 aj2 ty F.entry_zip_next (wB x D f g B hi p t G no λh' e kp n=>?_) (F.args_zip_next_1 _))));obtain⟨o,h,C⟩:=n;exact o0 (wpAny_isInstance (T:="StopIteration") (b:=true) ⟨o,h,C⟩ isSubtype_stop (E5 (q _ kp)))
end
abbrev itO(b:Bool)(l:F0):Obj:={ cls:=.type (itN b),data:=.fields #[.ref l,.int 0 0] }
abbrev zp1(h:J6)(b:Bool)(l:F0):J6:=h.push (itO b l)
abbrev zp2(h:J6)(b c:Bool)(l m:F0):J6:=(zp1 h b l).push (itO c m)
abbrev zp3(h:J6)(b c:Bool)(l m:F0):J6:=(zp2 h b c l m).push { cls:=.type "tuple",data:=.seq #[.ref h.objs.size,.ref (zp1 h b l).objs.size] }
abbrev zp4(h:J6)(b c:Bool)(l m:F0):J6:=(zp3 h b c l m).push { cls:=.type "tuple",data:=.seq #[.none,.none] }
abbrev zp5(h:J6)(b c:Bool)(l m:F0):J6:=(zp4 h b c l m).push { cls:=.type "zip",data:=.fields #[.none,.bool false,.bool false,.ref (zp2 h b c l m).objs.size,.ref (zp3 h b c l m).objs.size] }
set_option maxHeartbeats 4000000 in
theorem rT(b c:Bool)(l m:F0)(xs n:Array E1):
  Meets (K1.«zip.__new__» ⟨[.type "zip",.ref l,.ref m],[]⟩) (λ_ R s=>fi b s.heap l xs/\fi c s.heap m n/\R (.ok (.ret (.ref (zp4 s.heap b c l m).objs.size))) { s with heap:=zp5 s.heap b c l m }) :=
 .of_wp λprog w A R s h=>by
  obtain⟨i,g,d,f,os⟩:=s;obtain⟨u,q,p⟩:=h;have t:=sub_zip;cases b with
  |true =>
   have j:J6.IsTuple (aj3 ⟨i,g,d,f,os⟩) l xs:=u;cases c with
   |true =>
    have a:J6.IsTuple (aj3 ⟨i.push { cls:=.type "tuple_iterator",data:=.fields #[.ref l,.int 0 0] },g,d,f,os⟩) m n:=fi.go (b:=true) q λo e=>u8 _ e
    wp_walk using ac3 j,ac3 a
    exact⟨_,rfl,p⟩
   |false =>
    have a:J6.IsList (aj3 ⟨i.push { cls:=.type "tuple_iterator",data:=.fields #[.ref l,.int 0 0] },g,d,f,os⟩) m n:=fi.go (b:=false) q λo e=>u8 _ e
    wp_walk using ac3 j,U2 a
    exact⟨_,rfl,p⟩
  |false =>
   have j:J6.IsList (aj3 ⟨i,g,d,f,os⟩) l xs:=u;cases c with
   |true =>
    have a:J6.IsTuple (aj3 ⟨i.push { cls:=.type "list_iterator",data:=.fields #[.ref l,.int 0 0] },g,d,f,os⟩) m n:=fi.go (b:=true) q λo e=>u8 _ e
    wp_walk using U2 j,ac3 a
    exact⟨_,rfl,p⟩
   |false =>
    have a:J6.IsList (aj3 ⟨i.push { cls:=.type "list_iterator",data:=.fields #[.ref l,.int 0 0] },g,d,f,os⟩) m n:=fi.go (b:=false) q λo e=>u8 _ e
    wp_walk using U2 j,U2 a
    exact⟨_,rfl,p⟩
theorem ua{prog:K3}{w:Q5}{A:M9}{E:E1->E6->Prop}{s:E6}{b c:Bool}{l m:F0}{xs i:Array E1}{Q:E1->E6->Prop}(C:fi b s.heap l xs)(B:fi c s.heap m i)
  (q:∀ h',an7 h' (s.heap.objs.size + 4) (s.heap.objs.size + 2) (s.heap.objs.size + 3) .none → ae4 h' (s.heap.objs.size + 2) (.ref s.heap.objs.size) (.ref (s.heap.objs.size + 1)) →
   ae4 h' (s.heap.objs.size+3) .none .none->eI b h' s.heap.objs.size l 0->eI c h' (s.heap.objs.size+1) m 0->h'.objs.size=s.heap.objs.size+5 ->
   (∀d o,s.heap.get? d=some o->h'.get? d=some o)->Q (.ref (s.heap.objs.size+4)) { s with heap:=h' }) :
  H0 (K7 prog w) A (aq5 (.type "zip") [.ref l,.ref m]) Q E s:=by
 refine callType_new F.called_zip (by decide) (F.typeCall_zip_2 _ _) (F.newCall_zip_2 _ _) (λz=>F.args_object_init_3 z _ _) F.entry_zip_new (rT b c l m xs i) ⟨C,B,?_⟩;have h:(zp1 s.heap b l).objs.size=s.heap.objs.size+1:=aa4 ..;have a:(zp2 s.heap b c l m).objs.size=s.heap.objs.size+2:=by rw[aa4,h]
 have g:(zp3 s.heap b c l m).objs.size=s.heap.objs.size+3:=by rw[aa4,a]
 have f:(zp4 s.heap b c l m).objs.size=s.heap.objs.size+4:=by rw[aa4,g]
 have u:(zp5 s.heap b c l m).objs.size=s.heap.objs.size+5:=by rw[aa4,f]
 have e:(zp5 s.heap b c l m).get? (zp4 s.heap b c l m).objs.size=some _:=F9 _ rfl;have t:(zp5 s.heap b c l m).get? (zp3 s.heap b c l m).objs.size=some _:=u8 _ (F9 _ rfl);have n:(zp5 s.heap b c l m).get? (zp2 s.heap b c l m).objs.size=some _:=u8 _ (u8 _ (F9 _ rfl));have j:(zp5 s.heap b c l m).get? (zp1 s.heap b l).objs.size=some _:=u8 _ (u8 _ (u8 _ (F9 _ rfl)));have x:(zp5 s.heap b c l m).get? s.heap.objs.size=some _:=u8 _ (u8 _ (u8 _ (u8 _ (F9 _ rfl))));show _/\_;rw[a,g,f]at e;rw[h,a]at n;rw[g]at t;rw[h]at j;rw[f];exact⟨⟨_,e,rfl⟩,q _ e n t ⟨_,x,rfl,rfl⟩ ⟨_,j,rfl,rfl⟩ u λd o p=>u8 _ (u8 _ (u8 _ (u8 _ (u8 _ p))))⟩
section
variable{X:Cx}{g:List (F0×Obj)}{σ:St}{H:Hp}{s:E6}{h':J6}
theorem Inv.turnedF{t':Nat}{fp:List F0}(I:Inv X g σ H s)(k:∀b o,b∉fp->s.heap.get? b=some o->h'.get? b=some o)(f:∀b∈fp,gI X g H b):Inv X g σ H { s with heap:=h',toks:=t' }:=by
 have e:∀b u,H b=some u->b∉fp:=λb u q z=>by rw[(f b z).1]at q;cases q
 refine I.step (g':=s.gens) (d':=s.drawn) (ch:=fp) (λb p=>?_) (λb o _ _ a q _=>k b o a q) (λb o _ _ a q _=>⟨o.slots,k b o a q⟩) (λ_ _ _ _ n=>n)
  (λb o a q=>⟨o,k b o a q⟩) (λ_ _ q=>q) (λ_ _ _ q=>q) (λb C q=>⟨#[],by rw[q];simp⟩) (λm l=>?_) (λb u q=>?_) I.bare
 ·obtain⟨G,B,E,i,A,x⟩:=f b p;exact⟨i,B,A,x⟩
 ·obtain⟨o,w,t,j,r⟩:=l;exact⟨o,w,t,k _ o (λz=>(f _ z).2.1 rfl) j,r⟩
 ·refine(I.hok b u q).stay (λc v a h=>?_) (λ_ q=>q) λ_ _ q=>q;rcases a with z|z
  ·rw[z]at h ⊢;exact k _ _ (e b u q) h
  ·exact k c v (e c _ z) h
end
def SqB(b:Bool)(K:E2)(H:Hp)(a:F0)(xs:List V):Prop:=match b with
 |true=>SqT K H a xs
 |false=>SqL K H a xs
theorem Inv.sqB{X:Cx}{f:List (F0×Obj)}{σ:St}{H:Hp}{s:E6}{b:Bool}{a:F0}{xs:List V}(I:Inv X f σ H s)(h:SqB b X.K H a xs):∃e:List E1,aA xs e/\fi b s.heap a e.toArray:=by
 cases b with
 |true=>obtain⟨e,r,p,_⟩:=I.tuple h;exact⟨e,r,p⟩
 |false=>obtain⟨e,r,p,_⟩:=I.list h;exact⟨e,r,p.isList⟩
theorem Inv.sqB_inj{X:Cx}{f:List (F0×Obj)}{σ:St}{H:Hp}{s:E6}{b:Bool}{a:F0}{xs e:List V}(I:Inv X f σ H s)(h:SqB b X.K H a xs)(h':SqB b X.K H a e):xs=e:=by
 cases b with
 |true=>exact I.tuple_inj h h'
 |false=>exact I.list_inj h h'
def Itz(K:E2)(b c:Bool)(l m:F0)(n:Nat):It :=
  ⟨λi H=>(∃e a,SqB b K H l e/\SqB c K H m a/\min e.length a.length=n)/\i<n,
   λi H x f=>∃T u v,x=.ref T/\H T=none/\f=upd H T (.tup [u,v])/\(∀e,SqB b K H l e->e[i]?=some u)/\∀a,SqB c K H m a->a[i]?=some v,
   λi H=>(∃e a,SqB b K H l e/\SqB c K H m a/\min e.length a.length=n)/\n<=i⟩
theorem vF{P:K3}{w:Q5}{K:E2}{O:List K8}{x1:Nat}{pt:Pos}(b c:Bool)(l m z T U f g:F0)(n:Nat):oV P w K (.Tuple O x1 pt) (Itz K b c l m n) [z,T,U,f,g] z
  (λi h=>an7 h z T U .none/\ae4 h T (.ref f) (.ref g)/\(∃u v,ae4 h U u v)/\eI b h f l i/\eI c h g m i/\ao5 z T U f g l m/\i<=n) where
 mem:=by simp
 obj:=λi h st d a=>by
  obtain⟨C,A,⟨u,v,J⟩,⟨o4,B,_,d4⟩,⟨o5,G,_,d5⟩,_⟩:=st;simp only[I0,S7,or_false]at a;rcases a with rfl|rfl|rfl|rfl|rfl
  ·exact⟨_,C,λv y=>by cases y⟩
  ·exact⟨_,A,λv y=>by cases y⟩
  ·exact⟨_,J,λv y=>by cases y⟩
  ·exact⟨o4,B,λv y=>by rw[d4]at y;cases y⟩
  ·exact⟨o5,G,λv y=>by rw[d5]at y;cases y⟩
 keep:=λi h h' st k=>by
  obtain⟨C,A,⟨u,v,J⟩,B,G,a6,a7⟩:=st;exact⟨k z (by simp) _ C,k T (by simp) _ A,⟨u,v,k U (by simp) _ J⟩,B.go λo e=>k f (by simp) o e,G.go λo e=>k g (by simp) o e,a6,a7⟩
 item:=by
  intro X hP hw hK hc i af s σ H E I hf st hg;subst hP hw hK;obtain⟨⟨Q,Y,Z,t,M⟩,R⟩:=hg;obtain⟨C,A,⟨u0,v0,J⟩,B,G,D,le⟩:=st;obtain⟨a8,rv,p⟩:=I.sqB Z;obtain⟨N,j,p2⟩:=I.sqB t;have l1:=rv.length;have l2:=j.length;have hx:Q[i]?=some (Q[i]'(by lia)):=by simp
  have hy:Y[i]?=some (Y[i]'(by lia)):=by simp
  generalize Q[i]'(by lia)=x at hx;generalize Y[i]'(by lia)=y at hy;obtain⟨u,hu,ru⟩:=rv.get hx;obtain⟨v,hv,a0⟩:=j.get hy;refine o9 D C A J B G p p2 (by simpa using hu) (by simpa using hv) λh1 b1 b2 b3 b4 b5 b6 kp=>?_;refine⟨_,rfl,?_⟩;have In:H s.heap.objs.size=none:=I.hok.fresh (F5 _);have lt:∀{d o},s.heap.get? d=some o->d≠s.heap.objs.size:=λe=>K4 (F8 e);have n1:=lt C;have n2:=lt A;have n3:=lt J;have n4:f≠s.heap.objs.size:=by obtain⟨o,e,_⟩:=B;exact lt e
  have n5:g≠s.heap.objs.size:=by obtain⟨o,e,_⟩:=G;exact lt e
  have ne:∀d∈[z,T,U,f,g],d≠s.heap.objs.size:=λd a=>by
   simp only[I0,S7,or_false]at a;rcases a with rfl|rfl|rfl|rfl|rfl<;>assumption
  have I1:Inv X af σ (upd H s.heap.objs.size (.tup [x,y])) { s with heap:=s.heap.push { cls:=.type "tuple",data:=.seq #[u,v] },toks:=s.toks } :=
   I.laid (λb o q=>u8 _ q) (F5 _) ⟨by simp only[Q6,Z1];rw[ae7];decide,[u,v],.cons ru (.cons a0 .nil),jJ.new _ _⟩
  have f1:∀d∈[z,T,U,f,g],gI X af (upd H s.heap.objs.size (.tup [x,y])) d:=λd a=>(hf d a).upd (ne d a);have I2:Inv X af σ (upd H s.heap.objs.size (.tup [x,y])) { s with heap:=h1,toks:=s.toks }:=I1.turnedF (t':=s.toks) (λd o a q=>by
   simp only[I0,S7,or_false,not_or]at a
   by_cases hs:d=s.heap.objs.size
   ·subst hs;rw[F9 s.heap rfl]at q;cases q;exact b5
   ·refine kp d o a.1 a.2.2.1 a.2.2.2.1 a.2.2.2.2 ?_;rcases J6.get?_push_cases q with y|y
    ·exact absurd y.1 hs
    ·exact y) f1
  refine wpAny_letOwnedTupleGo_zip b1 λh2 c1 S=>?_;have I3:=I2.turnedF (t':=s.toks) (h':=h2) (fp:=[z,T,U,f,g]) (λd o a q=>(S.2 d (λe=>a (by simp[e]))).trans q) f1;refine⟨.ref s.heap.objs.size,_,I3,rfl,⟨_,x,y,rfl,In,rfl,λzs L=>by rw[I.sqB_inj L Z];exact hx,λzs L=>by rw[I.sqB_inj L t];exact hy⟩,⟨c1,?_,⟨u,v,(S.2 U D.TOz).trans b2⟩,b3.go λo e=>(S.2 f D.i1z).trans e,b4.go λo e=>(S.2 g D.i2z).trans e,D,R⟩,λd a=>(f1 d a).1⟩;exact(S.2 T D.TIz).trans (kp T _ D.TIz D.TITO D.TIi1 D.TIi2 A)
 done:=by
  intro X hP hw hK hc i af s σ H E I hf st hg;subst hP hw hK;obtain⟨⟨Q,Y,Z,t,M⟩,R⟩:=hg;obtain⟨C,A,⟨u0,v0,J⟩,B,G,D,le⟩:=st;obtain⟨a8,rv,p⟩:=I.sqB Z;obtain⟨N,j,p2⟩:=I.sqB t;have l1:=rv.length;have l2:=j.length;refine qj (I.ok.hd hc) D C A J B G p p2 ?_ λh' kp=>⟨rfl,I.turnedF (t':=s.toks) (fp:=[z,T,U,f,g]) (λd o a q=>?_) hf⟩
  ·rcases Nat.le_total Q.length Y.length with h|h
   ·left;simp;lia
   ·right;simp;lia
  ·simp only[I0,S7,or_false,not_or]at a;exact kp d o a.1 a.2.2.1 a.2.2.2.1 a.2.2.2.2 q
 self:=λ_ _ _ _ _ st h=>wpAny_pyIter_zip st.1 h
noncomputable def xw:D->Option (Bool×List D)
 |.tup a=>some (true,a)
 |.lst a=>some (false,a)
 |_=>none
noncomputable def iG:List D->List D->List D
 |a::e,b::bs=>.tup [a,b]::iG e bs
 |_,_=>[]
theorem qu:∀(e bs:List D) (i:Nat),(iG e bs)[i]?=match e[i]?,bs[i]? with|some a,some b=>some (.tup [a,b])|_,_=>none
 |[],bs,i=>by simp[iG]
 |a::e,[],i=>by
  simp only[iG,List.getElem?_nil];cases(a::e)[i]?<;>rfl
 |a::e,b::bs,0=>by simp[iG]
 |a::e,b::bs,i+1=>by simp only[iG,X1];exact qu e bs i
theorem pV:∀(e bs:List D),(iG e bs).length=min e.length bs.length
 |[],bs=>by simp[iG]
 |a::e,[]=>by simp[iG]
 |a::e,b::bs=>by simp only[iG,Q6,pV e bs];lia
def zT(e:TAd):TId:=λf M R=>e f M λg M1=>∃x y b c a fs,g=[x,y]/\xw x=some (b,a)/\xw y=some (c,fs)/\R (iG a fs) M1
theorem xM:W0 "zip"=some (.type "zip"):=by kernel_rfl
theorem pY{K:E2}{M:DH}{H:Hp}{x:D}{b:Bool}{l:List D}{v:V}(h:xw x=some (b,l))(r:Rep K M H x v):∃a f,v=.ref a/\aq K M H l f/\SqB b K H a f/\∀j i,Ext M H j i->SqB b K i a f/\aq K j i l f:=by
 cases x with
 |tup m =>
  cases h;simp only[Rep]at r;obtain⟨a,f,rfl,t,g⟩:=r;exact⟨a,f,rfl,g,t.sq,λj i e=>⟨(t.ext e).sq,g.ext e⟩⟩
 |lst m =>
  cases h;simp only[Rep]at r;obtain⟨a,f,rfl,t,g⟩:=r;exact⟨a,f,rfl,g,SqL.of t.1,λj i e=>⟨SqL.of (t.ext e).1,g.ext e⟩⟩
 |_=>cases h
section
variable{X:Cx}{z g:K8}{t:TAd}{pos:Pos}
theorem va{G:List K8}{x1:Nat}{pt p:Pos}(hg:Gl X "zip")(hm:X.mg "zip"=none)(ha:QAd X [z,g] t)(hs:E9 [z,g] X.env=(false,X7 z X.env)::E9 [g] X.env:=by rfl)(hpl:(U3 pos (E9 [g] X.env)).any (·.1)=false:=by rfl):QId X (.Tuple G x1 pt) (.Call (.Name "zip" p) [z,g] [] pos) (zT t):=by
 simp only[QAd.eq,QId.eq]at *
 intro af s σ H R I hh;obtain⟨Δ,M,R',sr,hr,q,k⟩:=hh;refine Call_ (jh I hg hm xM (U5 (thn (ha pos af s σ H (λA w=>∃x y b c C fs M1,xw x=some (b,C)/\xw y=some (c,fs)/\aq X.K M1 w [x,y] A/\R' (iG C fs) M1/\Ext M H M1 w/\HR X.K M1 w) I ⟨Δ,M,_,sr,hr,q,λds M1 A w ⟨x,y,b,c,C,fs,ed,ex,ey,q1⟩ e1 E S=>⟨x,y,b,c,C,fs,M1,ex,ey,by rw[<-ed];exact S,q1,e1,E⟩⟩) λus j ⟨A,w,Q,P,x,y,b,c,C,fs,M1,ex,ey,S,q1,e1,E⟩=>?_) hs hpl));obtain⟨J,N,rfl,rx,ry⟩:∃J N,A=[J,N]/\Rep X.K M1 w x J/\Rep X.K M1 w y N:=by
  simp only[aq]at S;obtain⟨J,U,rfl,h1,N,a9,rfl,h2,rfl⟩:=S;exact⟨J,N,rfl,h1,h2⟩
 obtain⟨l,A,rfl,rl,sl,kl⟩:=pY ex rx;obtain⟨m,U,rfl,rm,sm,Y⟩:=pY ey ry;obtain⟨u1,Z,rfl,w1,w2⟩:∃u1 Z,us=[u1,Z]/\aO (.ref l) u1/\aO (.ref m) Z:=by
  cases P with
  |cons p1 P =>
   cases P with
   |cons p2 P =>
    cases P;exact⟨_,_,rfl,p1,p2⟩
 cases w1;cases w2;obtain⟨a7,a6,pl⟩:=Q.sqB sl;obtain⟨a4,a5,pm⟩:=Q.sqB sm;have ll:l<j.heap.objs.size:=by obtain⟨o,e,_⟩:=pl;exact F8 e
 have lm:m<j.heap.objs.size:=by obtain⟨o,e,_⟩:=pm;exact F8 e
 refine ua pl pm λh' c1 c2 c3 c4 c5 c6 kp=>?_;refine wpAny_pyIter_zip c1 ?_;have DA:ao5 (j.heap.objs.size+4) (j.heap.objs.size+2) (j.heap.objs.size+3) j.heap.objs.size (j.heap.objs.size+1) l m:=zipApart_new ll lm;refine⟨_,[_,_,_,_,_],_,_,w,rfl,Q.kept (t':=j.toks) kp,vF b c l m _ _ _ _ _ (min C.length fs.length),⟨c1,c2,⟨_,_,c3⟩,c4,c5,DA,P9 _⟩,λd h=>?_,?_⟩
 ·have O:j.heap.objs.size<=d:=by
   simp only[I0,S7,or_false]at h;rcases h with rfl|rfl|rfl|rfl|rfl
   ·exact ae5 _ _
   ·exact ae5 _ _
   ·exact ae5 _ _
   ·exact F5 _
   ·exact ae5 _ _
  exact Q.fpOk O (Q.hok.fresh O)
 ·have h1:=rl.length;have h2:=rm.length;refine k _ M1 _ w q1 e1 E λM2 H2 B f i=>⟨λd h=>?_,λhl=>⟨⟨A,U,(kl _ _ B).1,(Y _ _ B).1,by lia⟩,by rw[pV]at hl;exact hl⟩⟩;rw[qu]at h;cases a:C[i]? with
  |none=>rw[a]at h;cases h
  |some d1 =>
   cases n:fs[i]? with
   |none=>rw[a,n]at h;cases h
   |some d2 =>
    rw[a,n]at h;have a1:D.tup [d1,d2]=d:=by simpa using h
    subst a1;have hi:i<C.length:=(J8.mp a).1;have a8:i<fs.length:=(J8.mp n).1;obtain⟨g1,gv,g2⟩:=(kl _ _ B).2.get a;obtain⟨g3,gw,g4⟩:=(Y _ _ B).2.get n;refine⟨⟨⟨A,U,(kl _ _ B).1,(Y _ _ B).1,by lia⟩,by lia⟩,λx' H' ⟨T,u,v,a0,L,eH,a3,a2⟩=>?_⟩;subst a0;subst eH;have z1:=a3 A (kl _ _ B).1;have z2:=a2 U (Y _ _ B).1;rw[gv]at z1;cases z1;rw[gw]at z2;cases z2;refine⟨Ext.new f L,f.new L,?_⟩;simp only[Rep];refine⟨T,[g1,g3],rfl,.inl ⟨.inl aY,f.fresh L⟩,?_⟩;exact aq.cons (g2.ext (Ext.new f L)) (aq.cons (g4.ext (Ext.new f L)) aq.nil)
end
section
variable{X:Cx}{g:ac4}{y:List (Str×F0)}{ar:List Str}{z:K8}{pos:Pos}
end
section
variable{X:Cx}{a b c e:K8}{pos:Pos}
theorem uu{G R tc te:TE}{o i g:an2}{r O n:R2}(ho:OpR X (L8 o) r)(p:OpR X (L8 i) O)(m:OpR X (L8 g) n)(ha:PE X a G)(hb:PE X b R)(hc:PE X c tc)(he:PE X e te)
  (Z:ai6 [o,i,g] [b,c,e]=false:=by with_unfolding_all rfl):PT X (.Compare a [o,i,g] [b,c,e] pos) (tf (rZ r O n G R tc te)):=by
 intro l s j H Q I h;refine isTrue_chain (thn (ha l s j H _ I h) λv s1 f=>f.el λx H1 I1 r1 q1=>test_link (thn (hb l s1 j H1 _ I1 q1) λu s2 f=>f.el λy H2 I2 E q2 =>
  thn (ho l s2 j H2 x y v u _ I2 r1 E q2) λd s3 ⟨z,L,A,T,k,e,J⟩=>?_)) Z
 subst e;cases T;refine O2 ?_;cases k with
 |false =>
  obtain⟨k',t,q⟩:=J;cases t;exact ite_ff ⟨L,A,q⟩
 |true =>
  refine ite_tt (test_link (thn (hc l s3 j L _ A J) λM s4 ⟨C,H4,I4,w,q4⟩=>thn (p l s4 j H4 y C u M _ I4 E w q4) λd' s5 ⟨z5,N,B,U,Y,e5,P⟩=>?_));subst e5;cases U;refine O2 ?_;cases Y with
  |false =>
   obtain⟨k',t,q⟩:=P;cases t;exact ite_ff ⟨N,B,q⟩
  |true =>
   refine ite_tt (test_last (thn (he l s5 j N _ B P) λw6 s6 f=>f.el λz6 H6 I6 S q6=>thn (m l s6 j H6 C z6 M w6 _ I6 w S q6) λd7 s7 ⟨z7,H7,I7,r7,k7,e7,q7⟩=>?_));subst e7;cases r7;exact O2 ⟨H7,I7,q7⟩
theorem uM{ta tb tc te:TEd}{O i f:an2}{r r' E:D->D->Option D}(ho:bB X (L8 O) r)(Y:bB X (L8 i) r')(A:bB X (L8 f) E)(ha:QEd X a ta)(hb:QEd X b tb)(hc:QEd X c tc)(he:QEd X e te)
  (hm:ai6 [O,i,f] [b,c,e]=false:=by with_unfolding_all rfl):QTd X (.Compare a [O,i,f] [b,c,e] pos) (mX (oN r r' E ta tb tc te)):=by
 simp only[QEd.eq,QTd.eq]at *
 refine(uu ho.v Y.v A.v ha hb hc he hm).conv λσ H Q h=>?_;obtain⟨L,M,R,G,hr,q,k⟩:=h;refine⟨L,M,_,G,hr,q,λx M1 v H1 q1 o Z rv=>⟨L,M1,_,G.ext o,Z,q1,λy M2 u H2 ⟨b,eb,p⟩ n m ru=>⟨_,_,.bl b,M2,m,(rv.ext n).rd m,ru.rd m,eb,λw H3 s C T =>
  ⟨b,by simpa only[Rep]using T,?_⟩⟩⟩⟩
 cases b with
 |true =>
  simp only[if_true]at p ⊢;refine⟨L,M2,_,(G.ext (o.trans n)).ext s,C,p,λz S w4 H4 ⟨U,ed,t⟩ J j r4=>⟨_,_,.bl U,S,j,((ru.ext s).ext J).rd j,r4.rd j,ed,λw5 H5 N B r5=>⟨U,by simpa only[Rep]using r5,?_⟩⟩⟩;cases U with
  |true =>
   simp only[if_true]at t ⊢;exact⟨L,S,_,(((G.ext (o.trans n)).ext s).ext J).ext N,B,t,λz6 M6 w6 H6 ⟨d6,a0,I,g,q6⟩ e6 l r6=>⟨_,_,d6,M6,l,((r4.ext N).ext e6).rd l,r6.rd l,a0,λw7 H7 e7 P r7=>⟨I,by subst g;simpa only[Rep]using r7,k I M6 H7 q6 ((((((o.trans n).trans s).trans J).trans N).trans e6).trans e7) P⟩⟩⟩
  |false =>
   simp only[F1,if_false]at t ⊢;obtain⟨I,g,t⟩:=t;cases g;exact⟨false,rfl,k _ S H5 t ((((o.trans n).trans s).trans J).trans N) B⟩
 |false =>
  simp only[F1,if_false]at p ⊢;obtain⟨I,g,p⟩:=p;cases g;exact⟨false,rfl,k _ M2 H3 p ((o.trans n).trans s) C⟩
end
section
variable{X:Cx}{e:K8}{te:TEd}
def Eh(a:List (Key×D)):D:=.box (.dk (a.map (·.1))) (a.map (·.2))
end
section
variable{X:Cx}{a b c e o i:K8}{y:List K8}{te z B E G:TEd}{t:TAd}{pos:Pos}{H g:K8}
end
def B3:D->Option D
 |.box (.dk a) _=>some (.lst (a.map kD))
 |_=>none
theorem yX{a:List (Key×D)}:B3 (Eh a)=some (.lst (a.map λp=>kD p.1)):=by
 show some (D.lst ((a.map (·.1)).map kD))=_;rw[S5];rfl
noncomputable def DL(s:W8)(i:Nat):W8:=match s with
 |.ClassDef _ _ _ b _ _ _ _ _ _ _=>b.getD i (.Pass ⟨0,0,0,0⟩)
 |_=>.Pass ⟨0,0,0,0⟩
noncomputable def DZ:D->Option D
 |.int i=>some (.int i)
 |.bl k=>some (.int (if k then 1 else 0))
 |_=>none
theorem BW{k:Bool}:DZ (.bl k)=some (.int (if k then 1 else 0)):=rfl
section
variable{X:Cx}
end
section
variable{X:Cx}{e:K8}{t:TEd}
end
section
variable{P:K3}{w:Q5}{K:E2}{h base:J6}{E:Str->Option E1}{x y:Str}{st:W8}{f:F0}{z:J7}{k:Nat}{S:SpD}
structure bC(K:E2) (x:Str) (st:W8) (f:F0) (z:J7):Prop where
 a:L5 K J3 x=some (some (.ref f))
 F:Fun K x x st f z
theorem DC{j:E1}{m h:Option F0}{g:Array (Option E1)}{kV e i b ct:E1}(a:L5 K J3 x=some (some (.ref f)))(l:K.lookup f=some ⟨j,m,.func (Z8 x x (fj st) (cD st) (ak st) .none kV e i h b ct),g⟩)
  (c:ah3 K b x=true) (k:T8 K (.ref f)=true):bC K x st f (Z8 x x (fj st) (cD st) (ak st) .none kV e i h b ct):=⟨a,qQ l c k⟩
theorem usS{p:List E1->Prop}{n:Nat}(h:∀a us,us.length=n->p (a::us)):∀us:List E1,us.length=n+1->p us:=by
 intro us e;cases us with
 |nil=>cases e
 |cons a us=>exact h a us (Nat.succ.inj e)
theorem us0{p:List E1->Prop}(h:p []):∀us:List E1,us.length=0->p us:=by
 intro us e;cases us with
 |nil=>exact h
 |cons a us=>cases e
def Bd(x y:Str)(st:W8)(ps:List Str)(us:List E1):Prop:=∀(kV a f:E1) (e:Option F0) (b g:E1),bindArgs (Z8 x y (fj st) (cD st) (ak st) .none kV a f e b g) ⟨us,[]⟩=ae2 (ps.zip us)
theorem qh{ps:List Str}(F:Fun K x y st f z)(b:∀us:List E1,us.length=ps.length->Bd x y st ps us):cQ K z ps []:=F.binds λkV a i g e j us h=>b us h kV a i g e j
variable{B H I W Y:Str}
theorem bd1(F:Fun K x y st f z)(b:∀a,Bd x y st [B] [a]):cQ K z [B] []:=qh F (usS λa=>us0 (b a))
theorem bd2(F:Fun K x y st f z)(b:∀a c,Bd x y st [B,H] [a,c]):cQ K z [B,H] []:=qh F (usS λa=>usS λc=>us0 (b a c))
theorem bd3(F:Fun K x y st f z)(b:∀a c d,Bd x y st [B,H,I] [a,c,d]):cQ K z [B,H,I] []:=qh F (usS λa=>usS λc=>usS λd=>us0 (b a c d))
theorem bd4(F:Fun K x y st f z)(b:∀a c d e,Bd x y st [B,H,I,W] [a,c,d,e]):cQ K z [B,H,I,W] []:=qh F (usS λa=>usS λc=>usS λd=>usS λe=>us0 (b a c d e))
theorem bd5(F:Fun K x y st f z)(b:∀a c d e g,Bd x y st [B,H,I,W,Y] [a,c,d,e,g]):cQ K z [B,H,I,W,Y] []:=qh F (usS λa=>usS λc=>usS λd=>usS λe=>usS λg=>us0 (b a c d e g))
theorem fg{ps:List Str}{n:Nat}(X:K.In h)(G:h.Ns J3 E)(i:bC K x st f z)(o:aU P w K E base CX0 k f z ps (spD K n S))(b:cQ K z ps []):FnD P w K E base x k n S:=⟨_,_,_,o,P3 X G i.a,i.F.kp,b⟩
theorem Aj{m:F0}{sp:Sp}{n:K3}(X:K.In h)(G:h.Ns J3 E)(g:E "law"=some (.ref m))(i:bC K "law" st f z)(b:∀a,Bd "law" "law" st [B] [a])(o:∀base:J6,aU n w K E base CX0 k f z [B] sp):
  ∃z:J7,(∀(s:E6) (v:E1),ao7 s z ⟨[v],[]⟩ [(B,v)])/\∀base:J6,K.In base->base.Ns J3 E->aU n w K E base CX0 k m z [B] sp:=by
 have e:=g.symm.trans (P3 X G i.a);cases e;refine⟨z,λs v=>?_,λbase _ _=>o base⟩;obtain⟨A,H,kV,l,u,t,j,q,x,rfl,C,p⟩:=i.F.ex;exact .of_eq (b v kV l u t j q)
end
theorem nbh{a:an2}{b:K8}(h:a≠.In:=by decide)(e:a≠.NotIn:=by decide):ad2 a b=false:=vH b h e
theorem fsc{N P:List Str}{h:ac4}(a:h.kind=.function:=by exact rfl)(b:h.isCoroutine=false:=by exact rfl)(c:h.isGenerator=false:=by exact rfl)(d:N.Nodup:=by decide +kernel)(e:N.take P.length=P:=by exact rfl)
  (f:∀x∈P,h.names.lookup x=some .local∨h.names.lookup x=some .cell:=by decide +kernel) (g:∀y∈h.names,y.2≠.free:=by decide +kernel):ay N P h:=⟨a,b,c,d,e,f,g⟩
section
variable{X:Cx}{e:K8}{g:List K8}{t:TAd}{pos p:Pos}{x:Str}{j k n:Nat}{S:SpD}
theorem qd(F:FnD X.prog X.w X.K X.mg X.base x j n S)(hr:cc k X.A)(ha:QAd X (e::g) t)(h:j<=k:=by decide)(hg:Gl X x:=by exact rfl)(hdb:(x==("__debug__":Str))=false:=by decide)(he:E9 (e::g) X.env=(false,X7 e X.env)::E9 g X.env:=by rfl)(hpl:(U3 pos (E9 g X.env)).any (·.1)=false:=by rfl):
  QEd X (.Call (.Name x p) (e::g) [] pos) (qD n S t):=qc F (hr.mono h) hg ha hdb he hpl
end
end L2
namespace L2
open PySem
end L2
namespace L2
open PySem PySem.SetTable
def rs(g:Nat)(h:Int):Nat->Nat×Nat
 |0=>(bits h % (g+1),bits h)
 |n+1=>leap g (rs g h n).1 (rs g h n).2
variable{g:Nat}{h:Int}
end L2
namespace L2
open PySem PySem.Spec PyProof.Rows
section
variable{X:Cx}{o i:K8}{g y:TEd}{pos:Pos}
end
section
variable{P:K3}{w:Q5}{K:E2}{y:Str->Option E1}{base:J6}{f:F0}{g:J7}
theorem Fun.okR{x b:Str}{st:W8}{f:F0}{g:J7}{N ps:List Str}{k n:Nat}{S:SpD}(F:Fun K x b st f g)(m:ps.length=n)(l:ay N ps (ak st))
  (h:∀ (e:E1) (A:M9) (a:List Env) (s:E6) (H:Hp) (E:XK),cc k (A.deeper (ab4 b (ak st) s.heap.objs.size f e)) →
   ∃t:TSd,QSs (jq CX0 P w K y base N b (ak st) f e A a s H E).nox (cD st) t/\∀ds M R (G:Prop),S ds M R->(t { nx:=λ_ j=>R .non j,rt:=R } (gj N ds) M->G)->G):aU P w K y base CX0 (k+1) f g ps (spD K n S):=by
 refine F.okD m l λe A a s H E i=>?_;obtain⟨t,p,o⟩:=h e A a s H E i;exact⟨t,zx p,λds M R _ q=>o ds M R _ q id⟩
theorem shr{p:Prop}(h:∀q:Prop,(p->q)->q):p:=h p id
end
end L2
namespace L2
open PySem PyProof.Rows
section
variable{prog:K3}{w:Q5}{A:M9}{E:E1->E6->Prop}{s:E6}{O:aa0}{key:Keyed->O.α}{g:List Keyed}{κ:ap6}
structure SB(g:List Keyed) (κ:ap6) (st:SortSt):Prop where
 perm:(arrOf st).toList.Perm g
 kind:aj9 st=κ
 fail:failedOf st=none
theorem SB.size{st:SortSt}(h:SB g κ st):(arrOf st).size=g.length:=by rw[<-P7];exact h.perm.length_eq
end
section
variable{prog:K3}{w:Q5}{A:M9}{E:E1->E6->Prop}{s:E6}{O:aa0}{key:Keyed->O.α}{z:List Keyed}{κ:ap6}
def kl(key:Keyed->O.α)(x y:Keyed):Prop:=O.kle (key x) (key y)
variable{a b g:Array Keyed}{B G k:Nat}
end
end L2
namespace L2
open PySem PySem.SetTable
variable{g:Nat}{h:Int}
variable{g:Nat}
end L2
namespace L2
open PySem PySem.SetTable PySem.SeqAt
structure TK(prog:K3) (w:Q5) (g:Type) where
 is:J6->g->E1->Prop
 hash:g->Int
 room:M9->Prop
 pyHash:∀{A:M9} {E:E1->E6->Prop} {s:E6} {x:g} {v:E1} {Q:Int->E6->Prop},room A->is s.heap x v->(∀t,s.toks<=t->Q (hash x) { s with toks:=t })->H0 (K7 prog w) A (PySem.pyHash v) Q E s
 eqB:∀{A:M9} {s:E6} {x y:g} {v u:E1},room A->is s.heap x v->is s.heap y u->∃b:Bool,(b=true↔x=y)/\EqAt A s v u b
 quiet:∀{A:M9} {E:E1->E6->Prop} {s:E6} {x:g} {v:E1} {Q:Bool->E6->Prop},room A->is s.heap x v->Q true s->H0 (K7 prog w) A (eqIsQuiet 8 v) Q E s
 noCls:∀{A:M9} {E:E1->E6->Prop} {s:E6} {x:g} {v:E1} {Q:Bool->E6->Prop},room A->is s.heap x v->Q false s->H0 (K7 prog w) A (ofAClassStatement 8 v) Q E s
 byV:∀{A:M9} {E:E1->E6->Prop} {s:E6} {x:g} {v:E1} {Q:Bool->E6->Prop},room A->is s.heap x v->(∀b,Q b s)->H0 (K7 prog w) A (hashByValue 8 v) Q E s
 ref:∀{h:J6} {x:g} {v:E1},is h x v->∃a,v=.ref a
variable{prog:K3}{w:Q5}{g:Type}{κ:TK prog w g}{A:M9}{E:E1->E6->Prop}{s:E6}
variable{prog:K3}{w:Q5}{g:Type}{κ:TK prog w g}{A:M9}{E:E1->E6->Prop}{s:E6}
end L2
namespace L2
open PySem PySem.Spec PyProof.Rows PySem.SeqAt
inductive KD where
 |int (i:Int)|str (x:Str)|tup (ks:List KD)
 deriving Inhabited
def hK(w:Q5):Nat->KD->Int
 |_,.int i=>hashInt i
 |_,.str x=>hashStr w x
 |0,.tup _=>0
 |n+1,.tup a=>reduceHash (K1.Tuple.tupleHashOf (a.map (hK w n)))
end L2
namespace L2
open PySem PySem.Spec PyProof.Rows
end L2
namespace L2
open PySem PySem.Spec PyProof.Rows PySem.SeqAt
mutual
def Cm:KD->KD->Prop
 |.int _,.int _=>True
 |.str _,.str _=>True
 |.tup a,.tup b=>Cms a b
 |_,_=>False
def Cms:List KD->List KD->Prop
 |a::e,b::bs=>Cm a b/\Cms e bs
 |_,_=>True
end
end L2
namespace L2
open PySem PySem.W PySem.Calls PyProof.Rows PySem.SeqAt
end L2
namespace L2
open PySem PySem.Spec PyProof.Rows PySem.Calls PySem.SeqAt
mutual
def kd:KD->D
 |.int i=>.int i
 |.str x=>.str x
 |.tup a=>.tup (kds a)
def kds:List KD->List D
 |[]=>[]
 |k::a=>kd k::kds a
end
mutual
theorem Bw:∀{a b:KD},kd a=kd b->a=b
 |.int _,.int _,h=>by simp[kd]at h;rw[h]
 |.int _,.str _,h=>by simp[kd]at h
 |.int _,.tup _,h=>by simp[kd]at h
 |.str _,.int _,h=>by simp[kd]at h
 |.str _,.str _,h=>by simp[kd]at h;rw[h]
 |.str _,.tup _,h=>by simp[kd]at h
 |.tup _,.int _,h=>by simp[kd]at h
 |.tup _,.str _,h=>by simp[kd]at h
 |.tup a,.tup b,h=>by simp only[kd,D.tup.injEq]at h;rw[tm h]
theorem tm:∀{a b:List KD},kds a=kds b->a=b
 |[],[],_=>rfl
 |[],_::_,h=>by simp[kds]at h
 |_::_,[],h=>by simp[kds]at h
 |a::e,b::bs,h=>by
  simp only[kds,N0]at h;rw[Bw h.1,tm h.2]
end
end L2
namespace L2
open PySem PySem.Spec PyProof.Rows PySem.Calls PySem.SeqAt PySem.W
open Classical in
instance decKs:DecidableEq (List KD):=λ_ _=>propDecidable _
end L2
namespace L2
open PySem PySem.Spec PyProof.Rows PySem.Calls PySem.SeqAt
end L2
namespace L2
open PySem PySem.Spec PyProof.Rows
end L2
namespace L2
open PySem PySem.Spec PyProof.Rows PySem.Calls PySem.SeqAt
end L2
namespace L2
open PySem PySem.Spec PyProof.Rows
section
open PySem.Calls PySem.SeqAt
variable{X:Cx}{g:List (F0×Obj)}{s:E6}{σ:St}{H:Hp}{M:DH}{K:E2}
end
end L2
namespace L2
open PySem PySem.Spec PyProof.Rows PySem.Calls PySem.SeqAt
end L2
namespace L2
open PySem PySem.Spec PyProof.Rows PySem.Builtin PySem.Builtin.Str StrLaws
end L2
namespace L2
open PySem PySem.Spec PyProof.Rows
open AutoSeq1 (wpAny_loadPart')
def j6(a:Obj->Prop):Prop:=∀o v,a o->a (o.mapFields (·.setIfInBounds 1 v))
def yI(h base:J6)(e:F0)(i:Obj->Prop)(j:E1):Prop :=
 ∃a f T g b,h.get? e=some a/\i a/\a.data=.fields f/\f[1]?=some (.ref T)/\base.get? T=none/\T≠e/\h.get? T=some g/\g.data=.fields b/\b[3]?=some j
def GoX(base:J6)(l:List Env)(e:F0)(b:Obj->Prop)(a:E1)(h h':J6):Prop:=base.StaysIn h'/\h'.FunFrames base l/\yI h' base e b a/\h.UpToSlots h'
section
variable{M:ap2}{A:M9}{E:E1->E6->Prop}{s:E6}{base:J6}{env:Env}{g l:List Env}{L e:F0}{y:Obj->Prop}{Q:Unit->E6->Prop}
theorem vd{N:Obj}{u:Array E1}{m:E1}{l:Bool}(st:j6 y)
  (S:A.frames=some (env::g)) (I:s.heap.FunFrames base (env::g)) (hf:env.frame=some L)
  (he:s.heap.get? e=some N) (Y:base.StaysIn s.heap) (R:base.get? e=none) (J:N.data=.fields u) (hsz:1<u.size) (h0:y N)
  (h:∀h',GoX base (env::g) e y (ai5 L) s.heap h'->Q () { s with heap:=h' }) :
  H0 M A (do let a <-frameOf env;let pl <-entryPlaceOf L l;let b <-EntryCells.newEntry m a .none (ai5 L) .none pl;setField (.ref e) 1 b) Q E s:=by
 have C:e∉(env::g).filterMap (·.frame):=λT=>by
  obtain⟨_,o,ho,i⟩:=I.mem T;rw[he]at ho;cases ho;exact i u J
 refine o0 (wpAny_frameOf_fun S I hf λj t=>?_);refine o0 (wpAny_entryPlaceOf λpl O=>?_);unfold EntryCells.newEntry newFields;refine o0 (O4 ?_ (O.sizeOk5 _ _ _ _ _));have z:j.get? e=some N:=(t.2.1 e C).trans he;have x:base.StaysIn j:=λb o f=>(t.2.1 b λT=>by rw[(I.mem T).1]at f;cases f).trans (Y b o f);have H:([m,.ref L,.none,ai5 L,.none]++(if pl.isEmpty then F3 6 J5 else pl)).toArray[3]?=some (ai5 L):=by simp
 generalize ([m,.ref L,.none,ai5 L,.none]++(if pl.isEmpty then F3 6 J5 else pl)).toArray=X at H ⊢;have B:=u8 (h:=j) { cls:=.type "traceback",dict:=none,data:=.fields X } z;refine ah4 B J hsz (h _ ?_);have w:j.objs.size≠e:=ac7 (F8 z);have G:=Z9 J (·.setIfInBounds 1 (J0 j.objs.size));have P:=P5 (V9 (·.setIfInBounds 1 (J0 j.objs.size))) B (Obj.isFreed_of_fields G);have Z:=(K5 (j.push { cls:=.type "traceback",dict:=none,data:=.fields X }) (V9 (·.setIfInBounds 1 (J0 j.objs.size))) (T7 w)).trans (F9 j rfl);have keep:∀b o,b≠e->j.get? b=some o->((j.push { cls:=.type "traceback",dict:=none,data:=.fields X }).update e (V9 (·.setIfInBounds 1 (J0 j.objs.size)))).get? b=some o:=λb o a0 p=>by
  rw[K5 _ _ (T7 a0)];exact u8 _ p
 have n:∀b o,s.heap.get? b=some o->(∀u,o.data≠.fields u)->b≠e:=λb o p i q=>by
  rw[q,he]at p;cases p;exact i u J
 refine⟨λb o f=>keep b o (λq=>by rw[q,R]at f;cases f) (x b o f),I.of_keeps λb o p i=>?_,?_,λb o p i=>?_⟩
 ·obtain⟨sl,U⟩:=t.2.2 b o p;exact⟨_,keep b _ (n b o p i) U,rfl⟩
 ·exact⟨_,_,j.objs.size,_,_,P,st _ _ h0,G,by simp[hsz],x.fresh,w,Z,rfl,H⟩
 ·obtain⟨sl,U⟩:=t.2.2 b o p;exact⟨sl,keep b _ (n b o p i) U⟩
theorem oO{N:E1}(w:base.StaysIn s.heap)(O:s.heap.FunFrames base l)(I:yI s.heap base e y N)(h:∀h',GoX base l e y .none s.heap h'->Q () { s with heap:=h' }):H0 M A (setFlight (.ref e) none) Q E s:=by
 obtain⟨P,z,T,R,G,C,L,B,H,t,p,u,j,J⟩:=I;have m:3<G.size:=(T1.mp J).1;have a:∀b,b≠T->(s.heap.update T (V9 λx=>x.setIfInBounds 3 J5)).get? b=s.heap.get? b:=λb i=>K5 _ _ (T7 i);have g:∀b o,s.heap.get? b=some o->(∀z,o.data≠.fields z)->b≠T:=λb o i f q=>by
  rw[q,u]at i;cases i;exact f G j
 refine wpAny_setFlight_none C B H u j m (h _ ⟨λb o n=>(a b λq=>by rw[q,t]at n;cases n).trans (w b o n),O.of_keeps λb o i f=>⟨o,(a b (g b o i f)).trans i,rfl⟩,?_,λb o i f=>⟨o.slots,(a b (g b o i f)).trans i⟩⟩);exact⟨P,z,T,_,_,(a e (T7 p)).trans C,L,B,H,t,p,P5 _ u (Obj.isFreed_of_fields (Z9 j _)),Z9 j _,by simp[m]⟩
theorem qo{i:Obj}{m:Array E1}(st:j6 y)(b:A.frames=some (env::g))(x:s.heap.FunFrames base (env::g))(j:env.frame=some L)
  (he:s.heap.get? e=some i) (f:base.StaysIn s.heap) (a:base.get? e=none) (l:i.data=.fields m) (n:m[1]?=some .none) (B:y i)
  (h:∀h',GoX base (env::g) e y .none s.heap h'->Q () { s with heap:=h' }):H0 M A (leaving env (.ref e)) Q E s:=by
 unfold leaving am4;simp only[j];refine o0 (o0 (P1 he l n ?_));rw[if_neg (by decide)];exact vd st b x j he f a l (T1.mp n).1 B λH ⟨q,t,C,o⟩=>oO q t C λu ⟨w,z,G,p⟩=>h u ⟨w,z,G,o.trans p⟩
theorem zX(st:j6 y)(w:A.frames=some (env::g))(O:s.heap.FunFrames base (env::g))(z:env.frame=some L)(S:yI s.heap base e y .none)(x:base.StaysIn s.heap)(u:base.get? e=none)
  (h:∀h',GoX base (env::g) e y (ai5 L) s.heap h'->Q () { s with heap:=h' }):H0 M A (am4 (.ref e) env) Q E s:=by
 obtain⟨Y,H,T,Z,U,C,X,G,I,t,p,n,m,B⟩:=S;unfold am4;simp only[z];refine o0 (P1 C G I ?_);rw[if_pos (show(J0 T != J5)=true from by simp)];refine o0 (P1 n m B ?_);rw[if_neg (show ¬ ((J5==ai5 L)=true)from by simp[ai5])];refine o0 (ah4 n m (T1.mp B).1 ?_);have a:∀b,b≠T->(s.heap.update T (V9 (·.setIfInBounds 3 J5))).get? b=s.heap.get? b:=λb j=>K5 _ _ (T7 j);have i:∀b o,s.heap.get? b=some o->(∀H,o.data≠.fields H)->b≠T:=λb o j f q=>by
  rw[q,n]at j;cases j;exact f U m
 refine vd st w (O.of_keeps λb o j f=>⟨o,(a b (i b o j f)).trans j,rfl⟩) z ((a e (T7 p)).trans C)
  (λb o l=>(a b λq=>by rw[q,t]at l;cases l).trans (x b o l)) u G (T1.mp I).1 X
  λh' ⟨P,R,J,N⟩=>h h' ⟨P,R,J,λb o j f=>N b o ((a b (i b o j f)).trans j) f⟩
theorem rA(st:j6 y)(b:A.frames=some (env::g))(q:s.heap.FunFrames base (env::g))(i:env.frame=some L)(u:yI s.heap base e y .none)(f:base.StaysIn s.heap)(a:base.get? e=none)
  (h:∀h',GoX base (env::g) e y .none s.heap h'->Q () { s with heap:=h' }):H0 M A (leaving env (.ref e)) Q E s:=by
 unfold leaving;exact o0 (zX st b q i u f a λz ⟨m,n,w,j⟩=>oO m n w λo ⟨p,t,x,l⟩=>h o ⟨p,t,x,j.trans l⟩)
end
theorem kN{prog:K3}{w:Q5}{A:M9}{E:E1->E6->Prop}{h:J6}{g:Array ao0}{d:Drawn}{t:Nat}{os:OsState}{nm q:Str}{C N:F0}{bs bm s:List E1}{hdct:Bool}
  {sn:List Str} {sub:List E1} {ab:Bool} {col:Option Bool} {dd:Option F0} {k0 k1 k2 k3 k5:Option E1} {B newId i:String} (F:ExcBaseFacts B newId i s) (T:an9 h s bm)
  {K:E2} {rest:List E1} {G:F0} {x:Obj} {Q:PySem.Fin->E6->Prop} (p:h.get? C=some (S6 nm q C N bs bm hdct sn sub ab col dd k0 k1 k2 k3 k5 newId)) (I:K.In h)
  (hi:O6 K (.ref C) "__init__"=some (some (J0 G))) (u:h.get? G=some x) (H:x.cls=N9 "function")
  (L:∀(h':J6) (e:F0),h.objs.size<=e->h.MadeExcOf h' e (J0 C) rest->H0 (K7 prog w) A (aq5 (J0 G) (J0 e::rest)) (λr s'=>r=J5/\Q (Fin.done (Flow.ret (J0 e))) s') E { heap:=h',gens:=g,drawn:=d,toks:=t,os:=os })
  (n:rest.length<=F2):H0 (K7 prog w) A (K1.«type.__call__» { pos:=J0 C::rest }) Q E { heap:=h,gens:=g,drawn:=d,toks:=t,os:=os }:=by
 unfold K1.«type.__call__»;dsimp only;refine R3 (aj4 (decide ((J0 C==N9 "type")=true))) (o0 ?_);show H0 _ _ (Q7 _ _) _ _ _;refine o0 ?_;show H0 _ _ (Q7 _ _) _ _ _;refine o0 (aj5 p (E5 (E5 ?_)));refine R3 (aj4 (decide ({ name:=nm,bases:=bs,mro:=J0 C::bm,ns:=N,qualname:=q,hasDict:=hdct,slotNames:=sn,subclasses:=sub,abstract:=ab,collection:=col:ClassData }.mro.isEmpty=true))) ?_;refine o0 (wpAny_madeBy_exc p (o0 (E5 (o0 (P2 (af3 ?_))))));refine codeAny_call_builtin_code (aq4.quiet_builtin { pos:=J0 C::rest } F.quiet) (wpAny_check_new_subT F T p (codeAny_exc_new_subT F T p ?_ n));have l:=u8 { cls:=J0 C,data:=ac8 #[J0 h.objs.size,J5,J5,J5,ag9 false,J5] } (u8 { cls:=N9 "tuple",data:=al5 rest.toArray } p);have j:=u8 { cls:=J0 C,data:=ac8 #[J0 h.objs.size,J5,J5,J5,ag9 false,J5] } (u8 { cls:=N9 "tuple",data:=al5 rest.toArray } u);have kp:∀b o,h.get? b=some o->((h.push { cls:=N9 "tuple",data:=al5 rest.toArray }).push { cls:=J0 C,data:=ac8 #[J0 h.objs.size,J5,J5,J5,ag9 false,J5] }).get? b=some o:=λb o e=>u8 _ (u8 _ e);have m:=I.keeps kp;have f:=J6.get?_push_at (h:=h.push { cls:=N9 "tuple",data:=al5 rest.toArray }) (a:=h.objs.size+1) (o:={ cls:=J0 C,data:=ac8 #[J0 h.objs.size,J5,J5,J5,ag9 false,J5] }) (by rw[aa4]) rfl;show H0 _ _ (Q7 _ _) _ _ _;refine o0 (o0 ?_);show H0 _ _ (Q7 _ _) _ _ _;refine o0 (S9 f (E5 (ae9 l ?_)));rw[show(J0 C::bm).contains (J0 C)=true by simp];refine R3 (aj4 (decide ((!true)=true))) (o0 (P2 ?_));show H0 _ _ (Q7 _ _) _ _ _;refine o0 ?_;show H0 _ _ (Q7 _ _) _ _ _;refine o0 ?_;show H0 _ _ (Q7 _ _) _ _ _;refine o0 (S9 f (E5 ?_));refine PySem.W.Looks.here (PySem.W.looks_findIn m hi) ?_;refine P2 (o0 ?_);show H0 _ _ (Q7 _ _) _ _ _;refine o0 (ak0 ⟨x,j,H⟩ ?_);refine ah5 (aj4 (decide ((N9 "function"==N9 "function" || N9 "function"==N9 "method_descriptor" || N9 "function"==N9 "wrapper_descriptor")=true))) (E5 ?_);refine o0 (O1 (L _ (h.objs.size+1) (an5 _) ⟨kp,?_,h.objs.size,f,?_,?_⟩) ?_ λ_ _ z=>z)
 ·exact T3 (an5 _)
 ·exact T3 (F5 _)
 ·exact u8 _ (F9 _ rfl)
 ·rintro r s' ⟨rfl,J⟩;exact E5 (R3 (aj4 (decide ((J5 != J5)=true))) (E5 J))
theorem rJ{prog:K3}{w:Q5}{A:M9}{E:E1->E6->Prop}{h:J6}{g:Array ao0}{d:Drawn}{t:Nat}{os:OsState}{nm q:Str}{C N:F0}{bs bm f:List E1}{hdct:Bool}
  {sn:List Str} {sub:List E1} {ab:Bool} {col:Option Bool} {dd:Option F0} {k0 k1 k2 k3 k5:Option E1} {B newId a:String} (F:ExcBaseFacts B newId a f) (T:an9 h f bm)
  {K:E2} {rest:List E1} {l:F0} {n:Obj} {Q:E1->E6->Prop} (i:h.get? C=some (S6 nm q C N bs bm hdct sn sub ab col dd k0 k1 k2 k3 k5 newId)) (x:K.In h)
  (hi:O6 K (.ref C) "__init__"=some (some (J0 l))) (j:h.get? l=some n) (m:n.cls=N9 "function")
  (G:∀(h':J6) (e:F0),h.objs.size<=e->h.MadeExcOf h' e (J0 C) rest->H0 (K7 prog w) (A.under (aq4.builtin "type.__call__" { pos:=J0 C::rest })) (aq5 (J0 l) (J0 e::rest)) (λr s'=>r=J5/\Q (J0 e) s') E { heap:=h',gens:=g,drawn:=d,toks:=t,os:=os })
  (b:rest.length<=F2):H0 (K7 prog w) A (aq5 (J0 C) rest) Q E { heap:=h,gens:=g,drawn:=d,toks:=t,os:=os }:=by
 have p:=tc_lookup;have u:=tc_bind (J0 C);have o:E6.TypeIs { heap:=h,gens:=g,drawn:=d,toks:=t,os:=os } (J0 C) "type":=⟨_,i,rfl⟩;refine af3 (codeAny_of_tree ?_);show H0 _ _ (Q7 _ _) _ _ _;refine o0 (aj5 i ?_);show H0 _ _ (Q7 _ _) _ _ _;refine o0 (wpAny_specialOf o p (o0 (an6 u (o0 ?_))));refine E5 (ah5 (aj4 (decide (("type.__call__"=="type.__call__")=true))) ?_);refine E5 ⟨rfl,codeAny_call_builtin_at (aq4.quiet_builtin _ (by decide +kernel)) entry_typeCall (wpAny_check_type_call_sub i (kN F T i x hi j m (λh' e z s=>G h' e z s) b))⟩
theorem lh{prog:K3}{w:Q5}{A:M9}{E:E1->E6->Prop}{h:J6}{g:Array ao0}{d:Drawn}{t:Nat}{os:OsState}{nm q:Str}{C N e:F0}{bs bm l:List E1}{hdct:Bool}
  {sn:List Str} {sub:List E1} {ab:Bool} {col:Option Bool} {dd:Option F0} {k0 k1 k2 k3 k5:Option E1} {B newId a:String} (F:ExcBaseFacts B newId a l) (T:an9 h l bm)
  {rest:List E1} {n:Obj} {z s I G J u:E1} {Q:E1->E6->Prop} (M:h.get? C=some (S6 nm q C N bs bm hdct sn sub ab col dd k0 k1 k2 k3 k5 newId))
  (he:h.get? e=some n) (j:n.cls=.ref C) (H:n.data=.fields #[z,s,I,G,J,u])
  (P:∀(h':J6) (t':F0),(∀b o,b≠e->h.get? b=some o->h'.get? b=some o)->h'.get? e=some { n with data:=.fields #[.ref t',s,I,G,J,u] }->Q .none { heap:=h',gens:=g,drawn:=d,toks:=t,os:=os })
  (i:rest.length<=F2):H0 (K7 prog w) A (aq5 (ag3 a) (J0 e::rest)) Q E { heap:=h,gens:=g,drawn:=d,toks:=t,os:=os }:=by
 refine af3 (aa8 F.init.plain F.initEntry (wpAny_check_init_subT F T M he j ?_));unfold K1.«BaseException.__init__»;dsimp only;refine R3 (aj4 (decide ((!({ pos:=J0 e::rest }:Args).kw.isEmpty)=true))) ?_;refine o0 ?_;unfold newTuple;obtain⟨O,U,L,R⟩:=n;obtain rfl:O=.ref C:=j;obtain rfl:L=_:=H;have f:=u8 { cls:=N9 "tuple",data:=al5 rest.toArray } he;refine R3 (by rw[decide_eq_false_iff_not];simpa using i) ?_;refine o0 (wpAny_alloc' (E5 ?_));refine o0 ?_;unfold K1.BaseException.bexcPut;refine o0 ?_;show H0 _ _ (Q7 _ _) _ _ _;refine o0 ?_;show H0 _ _ (Q7 _ _) _ _ _;refine o0 (aj5 f (E5 (E5 (o0 ?_))));show H0 _ _ (Q7 _ _) _ _ _;refine o0 (aj5 f ?_);dsimp only;refine ah5 (aj4 (decide (0<#[z,s,I,G,J,u].size))) (wpAny_update' f ?_);have m:Q J5 { heap:=(h.push { cls:=N9 "tuple",data:=al5 rest.toArray }).update e (V9 λx=>x.setIfInBounds 0 (J0 h.objs.size)),gens:=g,drawn:=d,toks:=t,os:=os }:=by
  refine P _ h.objs.size (λb o S p=>?_) ?_
  ·rw[K5 _ _ (T7 S)];exact u8 _ p
  ·exact P5 _ f rfl
 cases z
 all_goals first
  |exact an8 (E5 m)
  |exact E5 (E5 m)
theorem lY{M:ap2}{A:M9}{E:E1->E6->Prop}{env:Env}{nm q:Str}{C N:F0}{bs bm:List E1}{hdct:Bool}{sn:List Str}{sub:List E1}{ab:Bool}{col:Option Bool}{dd:Option F0}
  {k0 k1 k2 k3 k5:Option E1} {newId:String} {s:E6} {x:K8} {pos:Pos} {Q:Flow->E6->Prop} (o:bm.contains (N9 "BaseException")=true) (t:A.handled=none)
  (h:H0 M A (X7 x env) (λv a => ∃ e m n i,v = J0 e ∧ a.heap.get? C = some (S6 nm q C N bs bm hdct sn sub ab col dd k0 k1 k2 k3 k5 newId) ∧
   a.heap.get? e=some { cls:=J0 C,dict:=m,data:=ac8 #[n,J5,J5,J5,ag9 false,J5],slots:=i }/\E (J0 e) a) E s) :
  H0 M A (exec (W8.Raise (some x) none pos) env) Q E s:=by
 have l:(J0 C::bm).contains (N9 "BaseException")=true:=by
  rw[List.contains_cons,o,Bool.or_true]
 rw[arm_exec_Raise];show H0 _ _ (Q7 _ _) _ _ _;refine o0 ?_;refine ad3 ?_;show H0 _ _ (Q7 _ _) _ _ _;refine o0 (o0 (O1 h (λv a f=>?_) λ_ _ z=>z));obtain⟨e,m,n,i,rfl,j,b,p⟩:=f;obtain⟨u,g,d,w,os⟩:=a;dsimp only at j b;refine o0 (ad3 (E5 ?_));refine o0 (E5 (o0 (P2 ?_)));show H0 _ _ (Q7 _ _) _ _ _;refine o0 ?_;show H0 _ _ (Q7 _ _) _ _ _;refine o0 ?_;show H0 _ _ (Q7 _ _) _ _ _;refine o0 ?_;refine S9 b (E5 (R3 ?_ (E5 (R3 (aj4 (decide (false=true))) ?_))))
 ·rfl
 refine o0 ?_;show H0 _ _ (Q7 _ _) _ _ _;refine o0 ?_;show H0 _ _ (Q7 _ _) _ _ _;refine o0 (S9 b (E5 (ae9 j ?_)));rw[l];refine ah5 (aj4 (decide (true=true))) (E5 (o0 ?_));show H0 _ _ (Q7 _ _) _ _ _;refine o0 ?_;refine S9 b (E5 (R3 ?_ (o0 ?_)))
 ·rfl
 show H0 _ _ (Q7 _ _) _ _ _;refine o0 ?_;show H0 _ _ (Q7 _ _) _ _ _;refine o0 (S9 b (E5 (o0 ?_)));show H0 _ _ (Q7 _ _) _ _ _;refine o0 (S9 j (E5 (ah5 ?_ (E5 (o0 ?_)))))
 ·rfl
 show H0 _ _ (Q7 _ _) _ _ _;refine o0 ?_;show H0 _ _ (Q7 _ _) _ _ _;refine o0 ?_;show H0 _ _ (Q7 _ _) _ _ _;refine o0 (aj5 b (E5 (E5 (R3 ?_ (E5 (wpAny_raiseNew_none t p))))));rfl
abbrev veM:List E1:=[.type "ValueError",.type "Exception",.type "BaseException",.type "object"]
theorem ut(self:E1)(C W:F0):refuseLoop self "__setattr__" [.ref C,.ref W,.type "ValueError",.type "Exception",.type "BaseException",.type "object"]=ae2 ():=by
 kernel_rfl
def ot(C e:F0)(h:J6):Prop:=∃b a,h.get? e=some { cls:=.ref C,dict:=none,data:=.fields #[b,.none,.none,.none,.bool false,.none],slots:=a }
theorem rX{P:K3}{w:Q5}{H:Hp}{h:J6}{C e:F0}(x:ot C e h):bP P w H h e (.ext (ot C e)):=by
 obtain⟨i,f,g⟩:=x;exact⟨⟨i,f,g⟩,⟨_,g⟩,λl j ⟨a,b,q⟩ k=>⟨a,b,k _ q⟩⟩
structure mL(K:E2) (mg:Str->Option E1) (xC xW fld:Str) (C W fI:F0):Prop where
 gC:mg xC=some (.ref C)
 gW:mg xW=some (.ref W)
 kC:T8 K (.ref C)=true
 lC:∃nm q N bs sn sub ab col dd k0 k1 k2 k3 k5,K.lookup C=some (S6 nm q C N bs [.ref W,.type "ValueError",.type "Exception",.type "BaseException",.type "object"] true sn sub ab col dd k0 k1 k2 k3 k5 "ValueError.__new__")
 iC:O6 K (.ref C) "__init__"=some (some (.ref fI))
 lW:∃c0 dW cdW slW cN dN es ep sN,K.lookup W=some ⟨c0,dW,.cls cdW,slW⟩/\K.lookup cdW.ns=some ⟨cN,dN,.dict es ep,sN⟩/\es.toList.all (λe=>e.key.isStr "__init__"==false&&match e.key with|.str _ _=>true|_=>false)=true
 sW:ah2 K (.ref W) "__getattribute__"=some (some (.builtin "type.__getattribute__"))
 rW:PySem.W.readsIn K W (.type "type")=true
 fW:PySem.W.findCls K (.ref W) (.type "type") "__init__"=some (.val (.builtin "ValueError.__init__"))
 sC:O6 K (.ref C) "__setattr__"=some (some (.builtin "object.__setattr__"))
 mC:ad8 K C (.type "object")=some true
 tC:O6 K (.ref C) fld=some none
theorem mL.tail{K:E2}{j:Str->Option E1}{p w fld:Str}{C W l:F0}{h:J6}(Y:mL K j p w fld C W l)(g:K.In h):an9 h veM (.ref W::veM):=by
 obtain⟨x,z,i,m,E,B,f,o,A,u,s,a⟩:=Y.lW;rw[N3]at a;refine an9.own (g _ _ u) (mA:=ap1 f) ⟨_,f,o,g _ _ s,rfl,λe b=>?_,λ_=>rfl⟩ ?_ an9.base
 ·have:=a e (by simpa using b);rw[J9]at this;cases q:e.key with
  |str n t=>exact⟨n,t,rfl⟩
  |_=>rw[q]at this;simp at this
 ·unfold ap1 findBy;rw[Option.map_eq_none_iff,Array.find?_eq_none];intro e b;have:=a e (by simpa using b);rw[J9]at this;simpa using this.1
section
variable{X:Cx}{E y B:Str}{C W G:F0}
def tWI(C:F0)(i:Nat):TE:=λa H Q=>∃e,a[i]?=some (some (.ref e))/\H e=some (.ext (ot C e))/\Q .non H
theorem B7(Y:mL X.K X.mg E y B C W G)(i:Nat){x:Str}{pl:Sem Bool}{p M ps pos l:Pos}{a:Str}{j:Nat}(hg:Gl X y)(hx:PE X (.Name x ps) (ue i))(ht:PE X (.Constant (.str a) j l) (tC (.str a)))
  (hdb:(y==("__debug__":Str))=false:=by decide)
  (O:E9 [.Name x ps,.Constant (.str a) j l] X.env=(false,X7 (.Name x ps) X.env)::E9 [.Constant (.str a) j l] X.env:=by rfl) (hpl:(U3 pos (E9 [.Constant (.str a) j l] X.env)).any (·.1)=false:=by rfl)
  (L:X7 (.Call (.Attribute (.Name y p) "__init__" M) [.Name x ps,.Constant (.str a) j l] [] pos) X.env = (do
   let U <-X7 (.Name y p) X.env
   am1 M.atName
   let(f,first) <-ak4 [U] (getMethod U "__init__" pl)
   callWith pos f first (U3 pos (E9 [.Name x ps,.Constant (.str a) j l] X.env)) (ak1 pos (ad1 [] X.env))):=by rfl) :
  PE X (.Call (.Attribute (.Name y p) "__init__" M) [.Name x ps,.Constant (.str a) j l] [] pos) (tWI C i):=by
 intro af s σ H Q I h;obtain⟨e,ei,P,q⟩:=h;refine PySem.W.methodCall_KW (pl:=pl) (il I hg Y.gW ?_ hdb) L;refine PySem.W.method_cls I.kIn Y.sW (PySem.W.cls_value I.kIn Y.rW Y.fW rfl ?_);have I1:=I.tok (s.toks+1);have ha:PA X [.Name x ps,.Constant (.str a) j l] (qC (ue i) (qC (tC (.str a)) zB)):=bF hx (bF ht dY);refine PyProof.Rows.callWith_builtin1 (thn (ha pos af _ σ H (λZ n=>Z=[.ref e,.str a]/\n=H) I1 ?_) λus s1 hs=>?_) O hpl
 ·exact⟨.ref e,ei,rfl,rfl⟩
 obtain⟨Z,n,A,m,rfl,rfl⟩:=hs;obtain⟨w,J,rfl,R,T⟩:∃w J,us=[w,J]/\aO (.ref e) w/\aO (.str a) J:=by
  cases m with
  |cons R m =>
   cases m with
   |cons T m =>
    cases m;exact⟨_,_,rfl,R,T⟩
 obtain rfl:w=.ref e:=R;obtain⟨⟨a0,a1,g⟩,_⟩:=A.hok e _ P;obtain⟨nm,q',N,bs,sn,sub,ab,a2,dd,k0,k1,k2,k3,k5,lC⟩:=Y.lC;obtain⟨hp,gs,d,t,os⟩:=s1;refine lh F.excBase_ValueError (Y.tail A.kIn) (A.kIn _ _ lC) g rfl rfl (λh' t' kp ge=>?_) (ac5 (jQ (by simp)));have S:=A.write (t':=t) (h':=h') (x:=e) (e:=e) (o:=.ext (ot C e)) (by rw[P];trivial) (.inl rfl) (λb u hb hu=>kp b u hb hu) ⟨_,ge⟩ (rX ⟨_,_,ge⟩);have eu:upd n e (.ext (ot C e))=n:=by
  funext b;unfold upd
  split
  ·next z=>rw[z,P]
  ·rfl
 rw[eu]at S;exact⟨.non,n,S,rfl,q⟩
end
section
variable{X:Cx}{B E y:Str}{C W G:F0}{g:List (F0×Obj)}{σ:St}{H:Hp}{s:E6}
theorem Inv.forget{e:F0}{φ:J6->Prop}(I:Inv X g σ (upd H e (.ext φ)) s)(j:H e=none):Inv X g σ H s:=by
 have h:∀{b o},upd H e (.ext φ) b=some o->(∀ C,o≠.ext C)->H b=some o:=λ{b o} q z=>by
  by_cases f:b=e
  ·subst f;rw[aY]at q;cases q;exact absurd rfl (z φ)
  ·rw[aJ f]at q;exact q
 have i:∀{b},upd H e (.ext φ) b=none->H b=none:=λ{b} q=>by
  by_cases f:b=e
  ·subst f;exact j
  ·rw[aJ f]at q;exact q
 refine⟨I.ok,I.os,I.bare,⟨I.base.keep,I.base.slot,λb o q n x=>i (I.base.free b o q n x),I.base.there,λb l q=>h (I.base.tups b l q) (λ_ z=>by cases z),λb o u q=>h (I.base.frzs b o u q) (λ_ z=>by cases z),λb w q=>?_⟩,I.loc,I.cell,i I.free,λx c q=>i (I.freeC x c q),λp A=>?_,λa o q=>?_,I.len⟩
 ·obtain⟨more,B⟩:=I.base.tbls b w q;exact⟨more,h B (λ_ z=>by cases z)⟩
 ·obtain⟨G,E,t⟩:=I.pin p A;exact⟨G,i E,t⟩
 ·have m:a≠e:=by rintro rfl;rw[j]at q;cases q
  refine(I.hok a o (by rw[aJ m];exact q)).stay (λc v _ r=>r) (λc r=>h r (λ_ z=>by cases z)) λc l r=>h r (λ_ z=>by cases z)
def tRs(XW:Hp->Prop)(te:TE):TS:=λ_ σ H=>te σ H λx a=>[x].length=1/\XW a
end
theorem bP.is{P:K3}{w:Q5}{H:Hp}{h:J6}{a:F0}{o:HO}(x:bP P w H h a o):∃u,h.get? a=some u:=by
 cases o with
 |lst i=>obtain⟨_,_,_,_,e⟩:=x;exact⟨_,e⟩
 |tup i=>obtain⟨_,_,_,g,e,_⟩:=x;exact⟨_,e⟩
 |dK b=>obtain⟨_,_,_,_,o,_,_,e,_⟩:=x;exact⟨_,e⟩
 |dT b=>obtain⟨_,_,_,_,o,_,_,e,_⟩:=x;exact⟨_,e⟩
 |set S n=>obtain⟨o,_,_,_,e,_⟩:=x;exact⟨_,e⟩
 |ins C j fs=>obtain⟨_,_,_,e,_⟩:=x;exact⟨_,e⟩
 |own y=>exact x
 |xd fs=>obtain⟨_,⟨_,_,_,e,_⟩,_⟩:=x;exact⟨_,e⟩
 |rng lo m=>obtain⟨_,_,_,e⟩:=x;exact⟨_,e⟩
 |frz g u=>obtain⟨e,_⟩:=x;exact⟨_,e⟩
 |tbl p=>exact⟨_,x⟩
 |met f y=>exact⟨_,x⟩
 |ext l=>exact x.2.1
def ExF(C:F0)(o:Obj):Prop:=o.cls=.ref C/\∃a,o.data=.fields a/\a[2]?=some .none
theorem qJ{C:F0}:j6 (ExF C):=λo v ⟨b,f,a,e⟩=>⟨(Obj.cls_mapFields _ _).trans b,_,Z9 a _,by rw[Array.getElem?_setIfInBounds_ne (by decide)];exact e⟩
section
variable{X:Cx}{B:List (F0×Obj)}{σ:St}{E g:Hp}{y s':E6}{C a T:F0}
theorem p8{h:J6}{Z:List F0}(x:Inv X B σ E y)(os:s'.os=y.os)(f:ah9 s'.gens)(un:Un (frs X.stack) [] E g y.heap s'.heap)(m:HOk X.prog X.w g s'.heap)
  (kp:∀b o,s'.heap.get? b=some o->b∉Z->b∉frs X.stack->h.get? b=some o) (G:∀b o,b∈frs X.stack->s'.heap.get? b=some o->∃C,h.get? b=some { o with slots:=C })
  (A:∀b∈Z,y.heap.get? b=none/\g b=none):Inv X B σ g { s' with heap:=h }:=by
 have H:Inv X B σ g s':=x.call' (ch:=[]) os un m f λb z=>absurd z (by simp);have i:=H.stkFree;have w:∀{b o},y.heap.get? b=some o->b∉Z:=λ{b o} e z=>by rw[(A b z).1]at e;cases e
 refine x.call' (s':={ s' with heap:=h }) (ch:=[]) os ⟨λb o e n j l=>kp b o (un.keep b o e n j l) (w e) j,λb o e n j l=>?_,un.free,λb o e l=>?_,un.tups,un.frzs,un.tbls⟩ (λb o e=>?_) f λb z=>absurd z (by simp)
 ·obtain⟨C,q⟩:=un.slot b o e n j l;obtain⟨p,s⟩:=G b _ j q;exact⟨p,s⟩
 ·obtain⟨u,q⟩:=un.there b o e l
  by_cases t:b∈frs X.stack
  ·obtain⟨p,s⟩:=G b _ t q;exact⟨_,s⟩
  ·exact⟨u,kp b u q (w e) t⟩
 ·refine(m b o e).stay (λc v a r=>kp c v r (λz=>?_) (λz=>?_)) (λc r=>r) λc I r=>r
  ·have:=(A c z).2;rcases a with rfl|a
   ·rw[this]at e;cases e
   ·rw[this]at a;cases a
  ·have:=i c z;rcases a with rfl|a
   ·rw[this]at e;cases e
   ·rw[this]at a;cases a
end
theorem mL.cls{K:E2}{a:Str->Option E1}{f g fld:Str}{C W b:F0}(Y:mL K a f g fld C W b):∃nm q N bs bm e sn sub ab col dd k0 k1 k2 k3 k5 newId,K.lookup C=some (S6 nm q C N bs bm e sn sub ab col dd k0 k1 k2 k3 k5 newId)/\bm.contains (.type "BaseException")=true:=by
 obtain⟨nm,q,N,bs,sn,sub,ab,col,dd,k0,k1,k2,k3,k5,h⟩:=Y.lC;exact⟨nm,q,N,bs,_,_,sn,sub,ab,col,dd,k0,k1,k2,k3,k5,_,h,rfl⟩
def xh:SpD:=λ_ _ _=>False
theorem xk{P:K3}{w:Q5}{K:E2}{e:Str->Option E1}{base:J6}{CX:CXT}{k n:Nat}{f:F0}{g:J7}{ps:List Str}:aU P w K e base CX k f g ps (spD K n xh) :=
 ⟨λi H Q E h=>by obtain⟨_,_,_,_,_,_,h,_⟩:=h;exact h.elim,λA a s H b j i Q E _ _ _ _ h=>by obtain⟨_,_,_,_,_,_,h,_⟩:=h;exact h.elim⟩
structure BH(K:E2) (mg:Str->Option E1) (xC:Str) (C W:F0):Prop where
 gC:mg xC=some (.ref C)
 kC:T8 K (.ref C)=true
 lC:∃nm q N bs hd sn sub ab col dd k0 k1 k2 k3 k5 cN dN es ep sN,K.lookup C=some (S6 nm q C N bs [.ref W,.type "ValueError",.type "Exception",.type "BaseException",.type "object"] hd sn sub ab col dd k0 k1 k2 k3 k5 "ValueError.__new__") /\
  K.lookup N=some ⟨cN,dN,.dict es ep,sN⟩/\es.toList.all (λe=>e.key.isStr "__init__"==false&&match e.key with|.str _ _=>true|_=>false)=true
 lW:∃c0 dW cdW slW cN dN es ep sN,K.lookup W=some ⟨c0,dW,.cls cdW,slW⟩/\K.lookup cdW.ns=some ⟨cN,dN,.dict es ep,sN⟩/\es.toList.all (λe=>e.key.isStr "__init__"==false&&match e.key with|.str _ _=>true|_=>false)=true
theorem nZ{h:J6}{a:F0}{o:E1}{m:Option F0}{b:Array am3}{j:Nat}{l:Array (Option E1)}(g:h.get? a=some ⟨o,m,.dict b j,l⟩)
  (f:b.toList.all (λe=>e.key.isStr "__init__"==false&&match e.key with|.str _ _=>true|_=>false)=true):h.Ns a (ap1 b)/\ap1 b "__init__"=none:=by
 rw[N3]at f;refine⟨⟨_,b,j,g,rfl,λe i=>?_,λ_=>rfl⟩,?_⟩
 ·have:=f e (by simpa using i);rw[J9]at this;cases q:e.key with
  |str n t=>exact⟨n,t,rfl⟩
  |_=>rw[q]at this;simp at this
 ·unfold ap1 findBy;rw[Option.map_eq_none_iff,Array.find?_eq_none];intro e i;have:=f e (by simpa using i);rw[J9]at this;simpa using this.1
theorem lO{b:Type}{p:b->Bool}:∀(l:List b) (i:Nat),(∀x,l[i]?=some x->p x=false)->(l.eraseIdx i).find? p=l.find? p
 |[],_,_=>rfl
 |a::l,0,h=>by simp[Z0,h a rfl]
 |a::l,i+1,h=>by
  simp only[List.eraseIdx_cons_succ,Z0];rw[lO l i (λx e=>h x (by simpa using e))]
theorem qw{b:Array am3}{name x:Str}{i:Nat}(hi:b.findIdx? (·.key.isStr name)=some i)(g:x≠name):ap1 (b.eraseIdxIfInBounds i) x=ap1 b x:=by
 unfold ap1 findBy;rw[<-Array.find?_toList,<-Array.find?_toList];obtain⟨f,a,h⟩:=Array.findIdx?_eq_some_iff_getElem.mp hi;rw[Array.eraseIdxIfInBounds,dif_pos f,Array.toList_eraseIdx,lO];intro y e;rw[Array.getElem?_toList,Array.getElem?_eq_getElem f]at e;cases e;have a:b[i].key.isStr name=true:=a;show b[i].key.isStr x=false;cases q:b[i].key<;>rw[q]at a<;>simp only[E1.isStr]at a ⊢<;>first|(cases a;done)|skip
 all_goals first|(rw[beq_iff_eq]at a;rw[beq_eq_false_iff_ne];exact λz=>g (z.symm.trans a))|rfl
section
variable{M:ap2}{A:M9}{E:E1->E6->Prop}{s:E6}
theorem AF{a:F0}{m}{name:Str}{Q:Bool->E6->Prop}(N:s.heap.Ns a m)
  (P:∀h' g,h'.Ns a g->(∀x,x≠name->g x=m x)->Z6 a s.heap h'->Q (m name).isSome { s with heap:=h' }):H0 M A (nsDel a name) Q E s:=by
 obtain⟨o,l,L,w,O,I,B⟩:=id N;have q:l.any (·.refKey)=false:=by
  rw[Array.any_eq_false'];intro e R;obtain⟨n,t,h⟩:=I e R;simp[am3.refKey,h]
 have j:(m name).isSome=l.any (·.key.isStr name):=by
  rw[<-B name];simp only[ap1,findBy,Option.isSome_map];rw[P6];simp only[Array.find?_isSome,Array.any_eq_true];constructor
  ·rintro⟨x,G,H⟩;obtain⟨i,f,rfl⟩:=Array.mem_iff_getElem.mp G;exact⟨i,f,H⟩
  ·rintro⟨i,f,H⟩;exact⟨_,Array.getElem_mem f,H⟩
 have p:nsHas name o=ae2 (l.any (·.key.isStr name)):=by
  rw[nsHas_eq];unfold nsHasByArray;rw[O];show(if(l.any λx=>x.key.isStr name)=true then _ else _)=_;generalize (l.any λx=>x.key.isStr name)=b;cases b<;>simp[q]
 unfold nsDel;refine o0 (ah6 w ?_);rw[p];refine o0 (E5 ?_);rw[<-j];cases u:(m name).isSome
 ·have:=P s.heap m N (λ_ _=>rfl) (.refl ..);rw[u]at this;exact E5 this
 ·refine o0 (wpAny_updatePart w (E5 ?_));have C:∃g,(s.heap.update a (Obj.dropName name)).Ns a g/\∀x,x≠name->g x=m x:=by
   obtain⟨S,d,dt,T⟩:=o;subst O;cases f:l.findIdx? (·.key.isStr name)with
   |some i=>exact⟨_,⟨_,_,L+1,P5 _ w (by simp only[aj6,af0,f]<;>rfl),(by simp only[aj6,af0,f]<;>rfl),I.erase i,λ_=>rfl⟩,λx G=>by rw[qw f G,B]⟩
   |none=>exact⟨_,⟨_,_,L,P5 _ w (by simp only[aj6,af0,f]<;>rfl),(by simp only[aj6,af0,f]<;>rfl),I,λ_=>rfl⟩,λx _=>B x⟩
  obtain⟨g,z,J⟩:=C;have:=P _ g z J (Z6.update ..);rw[u]at this;exact this
end
end L2
namespace L2
open PySem PySem.Spec PySem.Calls PyProof.Rows PySem.W PySem.Builtin PySem.Builtin.ObjectAttr PySem.Builtin.Getset_descriptor
def iI(C e:F0)(h:J6):Prop:=∃o,h.get? e=some o/\ExF C o
theorem iI.type{M:ap2}{h:J6}{C e:F0}(x:iI C e h):Looks M h (typeOf (.ref e)) (.ref C):=by
 obtain⟨o,g,r,_⟩:=x;exact r▸(Looks.ld g).andThen .now
section
variable{prog:K3}{w:Q5}{A:M9}{E:E1->E6->Prop}{s:E6}{K:Frag}{x C D:F0}{name:Str}
theorem qq{M:ap2}{a:E1}{Q:Unit->E6->Prop}(X:K.In s.heap)(I:iI D x s.heap)(o:mroIn K D (.type "BaseException")=some true)(i:Q () s):
  H0 M A (checkBuiltinCall "BaseException.__getattribute__" ⟨[.ref x,a],[]⟩) Q E s:=by
 obtain⟨p,g,d,t,os⟩:=s;have j:builtinKind "BaseException.__getattribute__"=some .slot:=by decide +kernel
 have b:splitId "BaseException.__getattribute__"=some ("BaseException","__getattribute__"):=by decide +kernel
 have h:=F.args_bexc_ga (.ref x) a;have m:=I.type (M:=M);have l:=looks_mroIn (M:=M) X o;simp only[checkBuiltinCall,j,b];unfold isInstance;refine o0 (o0 (m.at (l.at ?_)));simp only[al7,F1,if_false];cases e:Manifest.signature? "BaseException.__getattribute__" with
 |none=>exact E5 i
 |some f =>
  simp only[argsOk,e]at h;have n:Bind.checkArgs "BaseException.__getattribute__" f ⟨[.ref x,a],[]⟩=ae2 ():=h;show H0 M A (Bind.checkArgs "BaseException.__getattribute__" f ⟨[.ref x,a],[]⟩) Q E _;rw[n];exact E5 i
theorem yE{M:ap2}{h:J6}{a g:E1}(X:K.In h)(ha:findIn K (.ref D) name=some (some a))(hg:specialIn K a "__get__"=some (some g))(e:takesIn K a=some true):
  Looks M h (find (.ref x) (.ref D) name) (.bind g a):=by
 have i:=looks_findIn (M:=M) X ha;have b:Looks M h (getOf (some a)) (some g):=looks_specialIn X hg;have f:=looks_takesIn (M:=M) X e;refine i.andThen (b.andThen ?_);exact(show Looks M h (dataDescriptor? (some a) (some g)) (some (g,a))from f.andThen .now).andThen (Looks.tag .now)
theorem v6{g a:E1}{i:Tok}{P:E1->E6->Prop}(X:K.In s.heap)(I:iI D x s.heap)(ha:findIn K (.ref D) name=some (some a))(hg:specialIn K a "__get__"=some (some g))(f:takesIn K a=some true)
  (h:H0 (K7 prog w) A (aq5 g [a,.ref x,.ref D]) P E s) :
  H0 (K7 prog w) A (K1.«object.__getattribute__» ⟨[.ref x,.str name i],[]⟩) (λb s'=>match b with|.done (.ret v)=>P v s'|_=>False) E s:=by
 obtain⟨m,l,d,t,os⟩:=s;have j:=I.type (M:=K7 prog w);have e:=yE (M:=K7 prog w) (x:=x) X ha hg f;refine o0 (E5 (o0 (E5 (o0 (j.at (o0 (e.at ?_)))))));show H0 _ _ (ak4 [a] (aq5 g [a,.ref x,.ref D]) >>= ret) _ _ _;exact o0 (P2 (O1 h (λv s' z=>E5 z) λ_ _ z=>z))
theorem yO{g a:E1}{Q:Option E1->E6->Prop}(X:K.In s.heap)(I:iI D x s.heap)(j:findIn K (.ref D) "__getattribute__"=some (some (.builtin "BaseException.__getattribute__")))(i:findIn K (.ref D) "__getattr__"=some none)(p:mroIn K D (.type "BaseException")=some true)
  (ha:findIn K (.ref D) name=some (some a)) (hg:specialIn K a "__get__"=some (some g)) (u:takesIn K a=some true)
  (h:∀A q,H0 (K7 prog w) A (aq5 g [a,.ref x,.ref D]) (λv s'=>H0 (K7 prog w) q (handedOut v) (λv b=>Q (some v) b) (λ_ _=>False) s') (λ_ _=>False) { s with toks:=s.toks+1 }) :
  H0 (K7 prog w) A (getAttr? (.ref x) name) Q E s:=by
 obtain⟨B,o,d,t,os⟩:=s;have C:=I.type (M:=K7 prog w);have n:=looks_findIn (M:=K7 prog w) X j;have m:=looks_findIn (M:=K7 prog w) X i;unfold getAttr? getAttrBy? getAttrBy;refine o0 (wpAny_mkText (o0 (ag5 (P2 (o0 (C.at (o0 (n.at ?_))))))));have f:(ag3 "BaseException.__getattribute__"==ag3 "object.__getattribute__")=false:=by decide +kernel
 simp only[f,ae3,F1,if_false];unfold getAttrByItsOwn hookBefore;refine o0 (m.at (o0 (ag5 (P2 ?_))));unfold callGetattribute boundAndCalled;simp only[U4,F1,if_false];rw[show bindSpecial (.builtin "BaseException.__getattribute__") (.ref x)=ae2 (.builtin "BaseException.__getattribute__",[.ref x])from ae1.ga.bind _];refine o0 (E5 (af3 ?_));refine aa8 ae1.ga.plain F.entry_bexc_ga (qq X I p ?_);refine O1 (v6 (s:=⟨B,o,d,t+1,os⟩) X I ha hg u (h _ A)) (λe s' z=>?_) (λ_ _ z=>z.elim);rcases e with(_|_|_|_)|_<;>first|exact O1 z (λv b l=>E5 l) (λ_ _ z=>z.elim)|exact z.elim
theorem Bn{a:E1}{R:Result->E6->Prop}(X:K.In s.heap)(I:iI C x s.heap)(b:mroIn K C (.type "object")=some true)
  (h:R (.ok (.ret (.ref C))) s):ai0 (K7 prog w) A (.call (.builtin "getset_descriptor.__get__") ⟨[.builtin "object.__class__",.ref x,a],[]⟩) R s:=by
 obtain⟨i,g,j,t,os⟩:=s;have f:=I.type (M:=K7 prog w);have e:=looks_mroIn (M:=K7 prog w) X b;refine aa8 KF.slot_gs.plain KF.entry_gs (KF.slot_gs.check _ _ _ _ _ _ _ _ KF.type_class (KF.args_gs _ _ _) ?_);unfold K1.«getset_descriptor.__get__» descrGet;rw[dga_obj];refine o0 (E5 ?_);unfold descrGetter descrCheckInstance descrNameAndClass isInstance;simp only[KF.owner_class]
 repeat lk
 refine⟨aq4.quiet_builtin _ (by decide +kernel),aj1 KF.entry_class ?_⟩;unfold K1.«object.__class__» shownTypeOf
 repeat lk
 exact h
theorem wN(m:findIn K (.ref D) "__getattribute__"=some (some (.builtin "BaseException.__getattribute__")))(g:findIn K (.ref D) "__getattr__"=some none)(E:mroIn K D (.type "BaseException")=some true)(hdct:(clsIn K D).isSome=true)(ha:findIn K (.ref D) "__class__"=some (some (.builtin "object.__class__")))
  (t:specialIn K (.builtin "object.__class__") "__get__"=some (some (.builtin "getset_descriptor.__get__"))) (j:takesIn K (.builtin "object.__class__")=some true) (B:mroIn K D (.type "object")=some true) :
  KitX K (.ref x) (.ref D) (iI D x) where
 ty:=λ_ _ _ I=>I.type
 it:=λ_ _ X _=>by
  obtain⟨b,a⟩:=W5.mp hdct;unfold clsIn at a
  split at a
  ·rename_i w A i o f;intro G L J N k q;unfold isType loadHead;exact o0 (ah6 (k _ _ (X _ _ f)) (E5 q))
  ·cases a
 ne:=λh u H C n M X l=>by
  obtain⟨b,a⟩:=W5.mp hdct;refine Bool.eq_false_iff.mpr λq=>?_;have e:D=u:=J0.inj (beq_iff_eq.mp q);subst e;unfold clsIn at a
  split at a
  ·rename_i w A i o f;have z:=(X _ _ f).symm.trans l;cases z
  ·cases a
 ca:=λ{_ _ _ _ _ s} X I k=>yO X I m g E ha t j λ_ _=>af3 (Bn (s:={ s with toks:=s.toks+1 }) X I B (handed_on rfl k))
end
end L2
namespace L2
open PySem PySem.Spec PyProof.Rows
section
variable{X:Cx}{g:List (F0×Obj)}{σ:St}{H:Hp}{s:E6}
theorem kU{M:ap2}{A:M9}{E:E1->E6->Prop}{i:Nat}{x:Str}{pos:Pos}{Q:Unit->E6->Prop}(I:Inv X g σ H s)(Z:X.N.Nodup)(hi:X.N[i]?=some x)(t:X.env.scope.names.lookup x=some .local)
  (h:∀s',Inv X g (σ.set i none) H s'->Q () s'):H0 M A (do bindName X.env x .none;unbindBehindTheSuite X.env x pos) Q E s:=by
 refine o0 (wpAny_bindName (fJ I Z hi (.inl t) (v:=.non) (u:=.none) rfl (λs1 a=>?_) (.inr t)));have w:i<σ.length:=by rw[I.len];exact(J8.mp hi).1
 unfold unbindBehindTheSuite;refine ag4 ?_;unfold unbindName;refine o0 (wpAny_point (o0 ?_));unfold deleteName;have T:X.env.kindOf x=some .local:=t;have G:(X.env.scope.kind==.class || (X.env.scope.kind==.module&&X.env.locals != X.env.globals))=false:=by rw[I.ok.kind];rfl
 simp only[T,G];rw[if_neg (by decide)];obtain⟨m,Y,J⟩:=id a.loc;have hm:(m x).isSome=true:=by
  obtain⟨u,r,q⟩:=J i x .non hi (by rw[N5 w]) (.inl t);rcases q with⟨_,e⟩|⟨k,_⟩
  ·rw[e];rfl
  ·rw[T]at k;rcases k with k|k<;>cases k
 refine o0 (AF Y λh2 m2 R S B=>?_);rw[hm];simp only[al7,F1,if_false];refine E5 (wpAny_point (h _ ?_));have cne:=a.cne;obtain⟨oL,_,_,a0,_⟩:=id Y;have f:HOk X.prog X.w H h2:=λb ob e=>by
  refine(a.hok b ob e).stay (λc U N q=>(B.2 c ?_).trans q) (λ_ q=>q) λ_ _ q=>q;rintro rfl;have l:=a.free;rcases N with rfl|N
  ·rw[l]at e;cases e
  ·rw[l]at N;cases N
 refine⟨a.ok,a.os,a.bare,⟨λb o e n P t=>?_,λb o e n P t=>?_,a.base.free,λb o e t=>?_,a.base.tups,a.base.frzs,a.base.tbls⟩,⟨_,R,λj y v' C O e3=>?_⟩,λy c e=>?_,a.free,a.freeC,λp hp=>?_,f,by simpa using I.len⟩
 ·exact(B.2 b (K4 (F6 (F8 e) I.ok.above))).trans (a.base.keep b o e n P t)
 ·obtain⟨sl,C⟩:=a.base.slot b o e n P t;exact⟨sl,(B.2 b (K4 (F6 (F8 e) I.ok.above))).trans C⟩
 ·obtain⟨o',C⟩:=a.base.there b o e t;exact⟨o',(B.2 b (K4 (F6 (F8 e) I.ok.above))).trans C⟩
 ·by_cases L:j=i
  ·subst L;rw[N5 w]at O;cases O
  ·rw[T4 (T7 L)]at O;obtain⟨u',r',q⟩:=J j y v' C (by rw[T4 (T7 L)];exact O) e3;refine⟨u',r',?_⟩;rcases q with⟨k,e⟩|⟨k,c,e,z⟩
   ·refine .inl ⟨k,?_⟩;have:y≠x:=λe=>L (lF Z C (e▸hi));rw[S y this];exact e
   ·exact .inr ⟨k,c,e,z.sameBut B (cne y c e)⟩
 ·obtain⟨U,z⟩:=a.cell y c e;exact⟨U,z.sameBut B (cne y c e)⟩
 ·obtain⟨e,n,ne,nf,d⟩:=a.pin p hp;exact⟨(B.2 p.1 ne).trans e,n,ne,nf,d⟩
theorem Inv.track{a:F0}{φ:J6->Prop}(I:Inv X g σ H s)(l:H a=none)(m:bP X.prog X.w (upd H a (.ext φ)) s.heap a (.ext φ))(B:X.s₀.heap.get? a=none)(j:a≠X.env.locals)(t:∀x c,X.env.cells.lookup x=some c->c≠a)
  (C:∀p∈X.pn++g,p.1≠a):Inv X g σ (upd H a (.ext φ)) s:=by
 have f:∀{b o},H b=some o->upd H a (.ext φ) b=some o:=λ{b o} q=>by
  by_cases z:b=a
  ·rw[z,l]at q;cases q
  ·rw[aJ z];exact q
 refine⟨I.ok,I.os,I.bare,⟨I.base.keep,I.base.slot,λb o e n x=>?_,I.base.there,λb h q=>f (I.base.tups b h q),λb o u q=>f (I.base.frzs b o u q),λb A q=>?_⟩,I.loc,I.cell,?_,λx c e=>?_,λp z=>?_,λb o e=>?_,I.len⟩
 ·have:b≠a:=λz=>by rw[z,B]at e;cases e
  rw[aJ this];exact I.base.free b o e n x
 ·obtain⟨more,G⟩:=I.base.tbls b A q;exact⟨more,f G⟩
 ·rw[aJ (T7 j)];exact I.free
 ·rw[aJ (t x c e)];exact I.freeC x c e
 ·obtain⟨J,E,w⟩:=I.pin p z;exact⟨J,by rw[aJ (C p z)];exact E,w⟩
 ·by_cases i:b=a
  ·subst i;rw[aY]at e;cases e;exact m
  ·rw[aJ i]at e;exact(I.hok b o e).stay (λc v _ r=>r) (λc r=>f r) λc h r=>f r
end
theorem SR.setN{K:E2}{M:DH}{H:Hp}{σ:St}{a:DE}(h:SR K M H σ a)(i:Nat):SR K M H (σ.set i none) (a.set i none):=by
 refine⟨by simp[h.1],λj e q=>?_⟩
 by_cases b:j=i
 ·subst b
  by_cases f:j<a.length
  ·rw[N5 f]at q;cases q
  ·rw[List.getElem?_eq_none (by simpa using f)]at q;cases q
 ·rw[T4 (T7 b)]at q ⊢;exact h.2 j e q
def BS(j:Nat)(E:dP):dP where
 nx:=λb M=>∃a,LeM a M/\E.nx (b.set j none) a
 bk:=λb M=>∃a,LeM a M/\E.bk (b.set j none) a
 ct:=λb M=>∃a,LeM a M/\E.ct (b.set j none) a
 rt:=λd M=>∃a,LeM a M/\E.rt d a
abbrev Cx.caught(X:Cx)(a:F0):Cx:={ X with A:=X.A.mark (some (.ref a)),calm:=false,xe:=λ_ _=>False }
structure uR(K:E2) (C:F0):Prop where
 ga:O6 K (.ref C) "__getattribute__"=some (some (.builtin "BaseException.__getattribute__"))
 gk:O6 K (.ref C) "__getattr__"=some none
 mb:ad8 K C (.type "BaseException")=some true
 cl:(al8 K C).isSome=true
 ha:O6 K (.ref C) "__class__"=some (some (.builtin "object.__class__"))
 hn:ah2 K (.builtin "object.__class__") "__get__"=some (some (.builtin "getset_descriptor.__get__"))
 tk:PySem.W.takesIn K (.builtin "object.__class__")=some true
 mo:ad8 K C (.type "object")=some true
theorem mN:entryFor table "proto.unchain"=some K1.«proto.unchain»:=entryFor_of_tree (by kernel_rfl)
section
variable{prog:K3}{w:Q5}{A:M9}{E:E1->E6->Prop}{s:E6}{C e b:F0}{y:Obj}{B:Array E1}
theorem AB{f:Type}{Q:f->E6->Prop}(n:A.handled=some (.ref e))(q:iI C e s.heap)(a:e≠b)(i:s.heap.get? b=some y)(j:y.data=.fields B)(l:2<B.size)
  (h:E (.ref b) { s with heap:=s.heap.update b (V9 (·.setIfInBounds 2 (.ref e))) }):H0 (K7 prog w) A (raiseNew (.ref b):Sem f) Q E s:=by
 obtain⟨o,g,_,t,m,p⟩:=q;unfold raiseNew;refine o0 (wpAny_handled ?_);rw[n];dsimp only;rw[if_pos (show(J0 e != J0 b)=true by simp[a])];refine o0 (P2 (wpAny_runValue (aj1 mN ?_)));unfold K1.«proto.unchain»;dsimp only;refine o0 (P1 g m p ?_);rw[if_pos (show(J5==J5)=true from rfl)];refine o0 (E5 (E5 ?_));dsimp only;unfold updateField;refine o0 (o0 (aj5 i ?_));simp only[j];rw[if_pos l];exact wpAny_update' i (wpAny_throw h)
theorem iI.kept{h h':J6}(x:iI C e h)(k:∀o,h.get? e=some o->h'.get? e=some o):iI C e h':=let⟨o,g,r⟩:=x;⟨o,k o g,r⟩
theorem ub{it l:F0}{i:Nat}{f:Array E1}{Q:Option E1->E6->Prop}(P:A.handled=some (.ref e))(H:iI C e s.heap)
  (j:s.heap.IsListIter it l i) (M:s.heap.IsList l f) (hi:f[i]?=none)
  (N:∀h',(∀b o,b≠it->s.heap.get? b=some o->h'.get? b=some o)->Q none { s with heap:=h' }):H0 (K7 prog w) A (ao1 (.ref it)) Q E s:=by
 obtain⟨o,n,O,G⟩:=id j;obtain⟨S,u,_,R,t⟩:=M;have p:e≠it:=λz=>by
  obtain⟨h,g,r,_⟩:=H;rw[z,n]at g;cases g;rw[O]at r;cases r
 unfold ao1;refine o0 (ag5 (R0 (name:=R7 "__next__") j.typeIs slot_listiter_next
  (V0 slot_listiter_next j.typeIs entry_listiter_next ?_ (args_listiter_next _))))
 show H0 _ _ (field (.ref it) 0 >>= _) _ _ s;refine o0 (P1 n G (x:=.ref l) rfl ?_);show H0 _ _ (if(J0 l==J5)=true then _ else _) _ _ s;rw[if_neg (show ¬ ((J0 l==J5)=true)from O7)];show H0 _ _ (field (.ref it) 1 >>= _) _ _ s;refine o0 (P1 n G (x:=.int i 0) rfl ?_);show H0 _ _ (seqItems? (.ref l) >>= _) _ _ s;refine o0 (X4 u t ?_);simp only[P4,hi];refine o0 (ak9 (o0 (ah4 n G (by simp) ?_)));have I:∀b h,b≠it->s.heap.get? b=some h->(s.heap.update it (V9 λx=>x.setIfInBounds 0 J5)).get? b=some h:=λb h B q=>by
  rw[K5 _ _ (T7 B)];exact q
 show H0 _ _ (newExc (.type "StopIteration") [] >>= _) _ _ _;refine o0 ?_;simp only[newExc,newTuple];refine o0 (O4 ?_ (by size_fits));refine o0 (m:=ak6 _ _) (an6 (a:=J5) (by first|rfl|(simp only[ak6];rfl)) ?_);refine O4 ?_ (by size_fits);have J:iI C e (s.heap.update it (V9 λx=>x.setIfInBounds 0 J5)):=H.kept λh q=>I e h p q;refine AB (e:=e) (C:=C) P (J.kept λh q=>u8 _ (u8 _ q)) ?_ (F9 _ rfl) rfl (by rw[Array.size_append];exact F6 (show 2<6 by decide) (ae5 _ _)) ?_
 ·obtain⟨h,g,_⟩:=J;exact K4 (F8 (u8 _ g))
 refine o0 (wpAny_isInstance (T:="StopIteration") (b:=true) ⟨_,P5 _ (F9 _ rfl) rfl,rfl⟩ isSubtype_stop ?_);refine E5 (N _ λb h B q=>?_);have L:=u8 { cls:=N9 "tuple",data:=al5 #[] } (I b h B q);rw[K5]
 ·exact u8 _ L
 ·exact ac7 (F8 L)
theorem DK(B:A.handled=some (.ref e))(I l:F0)(n:l≠I)(he:e≠I)(a:Array E1):
  Walks prog w A I [I,l,e] [I] a.size (λi v=>a[i]?=some v) (λi h=>h.IsListIter I l i/\h.IsList l a/\iI C e h) where
 sub:=λb g=>by simp at g;simp[g]
 frame:=λ_ _ _ st p=>⟨st.1.at λo e=>p I (by simp) o e,st.2.1.at λo e=>p l (by simp) o e,st.2.2.kept λo q=>p e (by simp) o q⟩
 item:=λi s Q E z st m=>by
  refine wpAny_pyNext_list_item st.1 st.2.1 (x:=a[i]) (by simp[z]) λu j f=>?_;exact m _ u s.toks (by simp[z]) ⟨j,st.2.1.extBut f.extBut n,st.2.2.kept λo q=>f.extBut e o he q⟩ λb o g e=>f.extBut b o (λh=>g (by simp[h])) e
 done:=λs Q E st m=>ub B st.2.2 st.1 st.2.1 (by simp) λu t=>m u s.toks λb o g e=>t b o (λh=>g (by simp[h])) e
 self:=λ_ _ _ _ st m=>wpAny_pyIter_listiter st.1 m
end
def vT(K:E2)(P:F0):E2:=K.filter λp=>p.1 != P
theorem lS{P a:F0}(h:a≠P):∀K:E2,(vT K P).lookup a=K.lookup a
 |[]=>rfl
 |(b,o)::K=>by
  have ih:=lS h K;unfold vT at ih ⊢
  by_cases f:b=P
  ·rw[ab8 (by simp[f]),ih,M0,beq_eq_false_iff_ne.mpr (λe=>h (e.trans f))]
  ·rw[ab9 (by simp[f]),M0,M0,ih]
theorem pJ{P:F0}:∀K:E2,(vT K P).lookup P=none
 |[]=>rfl
 |(b,o)::K=>by
  have ih:=pJ (P:=P) K;unfold vT at ih ⊢
  by_cases a:b=P
  ·rw[ab8 (by simp[a]),ih]
  ·rw[ab9 (by simp[a]),M0,beq_eq_false_iff_ne.mpr (λe=>a e.symm),ih]
theorem w9{K:E2}{P:F0}{h:J6}(X:K.In h):(vT K P).In h:=λa o e=>by
 by_cases b:a=P
 ·subst b;rw[pJ]at e;cases e
 ·rw[lS b]at e;exact X a o e
end L2
namespace L2
open PySem PySem.Spec PySem.Calls PyProof.Rows
end L2
namespace L2
open PySem PySem.Spec PyProof.Rows
end L2
namespace L2
open PySem PySem.Spec PyProof.Rows PySem.Calls PySem.SeqAt
end L2
namespace L2
open PySem PySem.Spec PyProof.Rows PySem.Calls PySem.SeqAt PySem.W
end L2
namespace L2
open PySem PySem.Spec PyProof.Rows PySem.Calls
end L2
namespace L2
open PySem PySem.Spec PyProof.Rows
end L2
namespace L2
open PySem PySem.Spec PyProof.Rows PySem.Calls PySem.SeqAt
end L2
namespace L2
open PySem PySem.Spec PyProof.Rows
end L2
namespace L2
open PySem PySem.Spec PySem.Calls PyProof.Rows PySem.W PySem.Builtin PySem.Builtin.ObjectAttr
section
variable{prog:K3}{w:Q5}{A:M9}{E:E1->E6->Prop}{s:E6}{K:Frag}{x D:F0}{y:Obj}{g:Option Obj}{name:Str}
theorem AL{a:Bool}{v:E1}{Q:E1->E6->Prop}(X:K.In s.heap)(I:InstAt s.heap x y D g)(f:findIn K (.ref D) "__getattribute__"=some (some (.builtin "BaseException.__getattribute__")))(e:findIn K (.ref D) "__getattr__"=some none)(p:mroIn K D (.type "BaseException")=some true)
  (J:iI D x s.heap) (j:findObj K D g name=some (.value v)) (q:handedIn v=true) (h:Q v { s with toks:=s.toks+1 }) :
  H0 (K7 prog w) A (getAttr (.ref x) name a) Q E s:=by
 obtain⟨l,u,d,t,os⟩:=s;have i:=I.type (M:=K7 prog w);have o:=looks_findIn (M:=K7 prog w) X f;have m:=looks_findIn (M:=K7 prog w) X e;have n:=looks_find (M:=K7 prog w) X I j;unfold getAttr getAttrBy;refine o0 (wpAny_mkText (P2 (o0 (i.at (o0 (o.at ?_))))));have b:(ag3 "BaseException.__getattribute__"==ag3 "object.__getattribute__")=false:=by decide +kernel
 simp only[b,ae3,F1,if_false];unfold getAttrByItsOwn hookBefore;refine o0 (m.at (o0 (ag5 (P2 ?_))));unfold callGetattribute boundAndCalled;simp only[onTheHeap,ae3,F1,if_false];rw[show bindSpecial (.builtin "BaseException.__getattribute__") (.ref x)=ae2 (.builtin "BaseException.__getattribute__",[.ref x])from ae1.ga.bind _];refine o0 (E5 (af3 ?_));refine aa8 ae1.ga.plain F.entry_bexc_ga (qq X J p ?_);refine o0 (E5 (o0 (E5 (o0 (i.at (o0 (n.at ?_)))))));refine E5 ?_;show H0 _ _ (handedOut v) _ _ _;rw[handedOut_of q];exact E5 h
end
end L2
namespace L2
open PySem PySem.Spec PyProof.Rows
theorem pw{prog:K3}{w:Q5}{A:M9}{E:E1->E6->Prop}{s:E6}{K:W.Frag}{x C:F0}{n:Obj}{name:Str}{v:E1}{J:Array E1}{cd:ClassData}{Q:Unit->E6->Prop}
  (X:K.In s.heap) (he:s.heap.get? x=some n) (m:n.cls=.ref C) (f:n.dict=none) (j:n.data=.fields J)
  (Z:W.findIn K (.ref C) "__setattr__"=some (some (.builtin "object.__setattr__"))) (U:W.clsIn K C=some cd) (P:W.mroIn K C (.type "object")=some true)
  (B:∀self,refuseLoop self "__setattr__" cd.mro=ae2 ()) (ha:W.findIn K (.ref C) name=some none) (hh:cd.hasDict=true)
  (h:∀(h':J6) (d:F0),(∀b o,b≠x->s.heap.get? b=some o->h'.get? b=some o)->s.heap.objs.size<=d->h'.get? x=some { n with dict:=some d }->(∃o,h'.get? d=some o/\W.lookIn name o=some (some v))->Q () { s with heap:=h',toks:=s.toks+2 }) :
  H0 (K7 prog w) A (setAttr (.ref x) name v) Q E s:=by
 have I:W.InstAt s.heap x n C none:=⟨he,m,by unfold W.notCls;rw[j],by rw[f];trivial⟩;refine W.set_plain X I Z ?_;have G:=F.store_object;have sub:aj7 (K7 prog w) s.heap (isInstance (.ref x) (.type "object")) true:=aj7.andThen (W.InstAt.type I) (W.looks_mroIn X P);refine aa8 G.slot.plain G.entry ?_;have hk:=G.kind;have L:=G.split;have S:=G.args (J0 x) (al9 name s.toks) v;refine W.check_slot (i:="object.__setattr__") (owner:="object") (self:=.ref x) (rest:=[al9 name s.toks,v]) (kw:=[]) hk L sub S ?_;rw[W.osa_eq,refuse_eq];have Y:aj7 (K7 prog w) s.heap (mroOf (.ref C)) cd.mro:=aj7.andThen (W.looks_clsIn X U) aj7.now;refine o0 (o0 (ah8 (W.InstAt.type I) (o0 (ah8 Y ?_))));rw[B];refine E5 (o0 (ah8 (W.InstAt.type I) (o0 (ah8 (W.looks_findIn X ha) (o0 (ah8 (r:=none) aj7.now ?_))))));obtain⟨oc,od,T,H⟩:=n;obtain rfl:oc=.ref C:=m;obtain rfl:od=none:=f;obtain rfl:T=.fields J:=j;obtain⟨a,g,d,t,os⟩:=s;refine o0 (E5 (o0 (o0 (ah6 he (o0 (ah8 (W.looks_clsIn X U) ?_))))));rw[hh];refine R3 (aj4 (decide ((!true)=true))) ?_;refine R3 (aj4 (decide ((!true || !typeHasDict (J0 C))=true))) ?_;refine o0 (wpAny_alloc (o0 (wpAny_update (u8 _ he) ?_)));dsimp only;have l:a.get? a.objs.size=none:=T3 (F5 _);have u:a.objs.size≠x:=λz=>by rw[z]at l;dsimp only at he;rw[he]at l;cases l
 refine E5 ?_;have N:(a.push { cls:=N9 "dict",data:=ak8 #[] }).get? x=some { cls:=.ref C,data:=.fields J,slots:=H }:=u8 _ he;have O:((a.push { cls:=N9 "dict",data:=ak8 #[] }).update x λo=>{ cls:=o.cls,dict:=some a.objs.size,data:=o.data,slots:=o.slots }).get? x=some { cls:=.ref C,dict:=some a.objs.size,data:=.fields J,slots:=H } :=
  P5 _ N rfl
 have p:((a.push { cls:=N9 "dict",data:=ak8 #[] }).update x λo=>{ cls:=o.cls,dict:=some a.objs.size,data:=o.data,slots:=o.slots }).get? a.objs.size=some { cls:=N9 "dict",data:=ak8 #[] }:=by
  rw[K5 _ _ (T7 u)];exact F9 _ rfl
 have M:∀b o,b≠x->a.get? b=some o->((a.push { cls:=N9 "dict",data:=ak8 #[] }).update x λo=>{ cls:=o.cls,dict:=some a.objs.size,data:=o.data,slots:=o.slots }).get? b=some o:=λb o R e=>by
  rw[K5 _ _ (T7 R)];exact u8 _ e
 generalize ((a.push { cls:=N9 "dict",data:=ak8 #[] }).update x λo=>{ cls:=o.cls,dict:=some a.objs.size,data:=o.data,slots:=o.slots })=h1 at *
 refine o0 (E5 (o0 ?_));show H0 _ _ (Q7 _ _) _ _ _;refine o0 (o0 (wpAny_askSetting (E5 ?_)));refine o0 (wpAny_mkText (o0 (ah6 p ?_)));dsimp only;refine R3 (show decide (aRefKeyMayBeTheName name #[]=true)=false from rfl) (wpAny_updatePart p ?_);dsimp only;have q:=P5 (Obj.putName name (if name.cps.isEmpty=true then 0 else reduceHash ((K7 prog w).w.params.strHash name.cps)) (al9 name (t+1)) v) p rfl;refine o0 (o0 (ah6 q ?_));refine E5 (E5 ?_);refine h _ a.objs.size (λb o R e=>?_) (F5 _) ?_ ⟨_,q,?_⟩
 ·rw[K5 _ _ (λz=>by subst z;dsimp only at e;rw[l]at e;cases e)];exact M b o R e
 ·rw[K5 _ _ u];exact O
 ·exact(congrArg (W.lookIn name) (W.putName_dict name _ _ v [] 0)).trans (by rw[W.lookIn_dict];simp[W.putL,W.getL,E1.isStr])
def kG(f:Str)(dd:F0)(v:V)(h:J6):Prop:=∃o u,h.get? dd=some o/\PySem.W.lookIn f o=some (some u)/\aO v u
theorem yF{P:K3}{w:Q5}{H:Hp}{h:J6}{f:Str}{dd:F0}{v:V}(x:kG f dd v h):bP P w H h dd (.ext (kG f dd v)):=by
 obtain⟨o,u,g,l,r⟩:=x;exact⟨⟨o,u,g,l,r⟩,⟨_,g⟩,λb a ⟨o,u,q,l,r⟩ k=>⟨o,u,k _ q,l,r⟩⟩
def mE(x:Option F0)(C e:F0)(h:J6):Prop:=∃b a,h.get? e=some { cls:=.ref C,dict:=x,data:=.fields #[b,.none,.none,.none,.bool false,.none],slots:=a }
theorem zE{P:K3}{w:Q5}{H:Hp}{h:J6}{y:Option F0}{C e:F0}(x:mE y C e h):bP P w H h e (.ext (mE y C e)):=by
 obtain⟨f,a,g⟩:=x;exact⟨⟨f,a,g⟩,⟨_,g⟩,λj i ⟨b,c,q⟩ k=>⟨b,c,k _ q⟩⟩
section
variable{X:Cx}{E G B:Str}{C W fI:F0}
def tSF(B:Str)(C:F0)(i j:Nat):TS:=λD b H=>∃e v,b[i]?=some (some (.ref e))/\b[j]?=some (some v)/\H e=some (.ext (ot C e))/\∀a,H a=none->D.nx b (upd (upd H e (.ext (mE (some a) C e))) a (.ext (kG B a v)))
theorem CL(Y:mL X.K X.mg E G B C W fI)(i j:Nat){x y:Str}{S L pa pos:Pos}(hx:PE X (.Name x S) (ue i))(hy:PE X (.Name y L) (ue j))
  (hs:af9 (.Name y L) (some (.Attribute (.Name x S) B pa)) pos.line X.env=ae2 false:=by rfl):PS X (.Assign [.Attribute (.Name x S) B pa] (.Name y L) pos) (tSF B C i j):=by
 intro af s O H D I h;obtain⟨e,v,ei,ej,R,q⟩:=h;refine plainObj_wpAny_Assign_Attribute (thn (hy af s O H (λP T=>P=v/\T=H) I ⟨v,ej,rfl,rfl⟩) λu s1 J=>?_) hs;obtain⟨v0,_,I1,rv,ev,rfl⟩:=J;subst ev;refine thn (hx af s1 O _ (λP T=>P=.ref e/\T=_) I1 ⟨_,ei,rfl,rfl⟩) λu2 Z U=>?_;obtain⟨_,H2,l,A,rfl,rfl⟩:=U;obtain rfl:u2=.ref e:=A;obtain⟨⟨a0,a1,g⟩,_⟩:=l.hok e _ R;obtain⟨nm,q',N,bs,sn,sub,ab,Q,dd,k0,k1,k2,k3,k5,lC⟩:=Y.lC;refine pw l.kIn g rfl rfl rfl Y.sC (cd:={ name:=nm,bases:=bs,mro:=[.ref C,.ref W,.type "ValueError",.type "Exception",.type "BaseException",.type "object"],ns:=N,qualname:=q',hasDict:=true,slotNames:=sn,subclasses:=sub,abstract:=ab,collection:=Q }) ?_ Y.mC (λt=>ut t C W) Y.tC rfl λh' n kp M ge gd=>?_
 ·unfold al8;rw[lC]
 ·have I3:=l.write (t':=Z.toks+2) (x:=e) (e:=e) (o:=.ext (mE (some n) C e)) (by rw[R];trivial) (.inl rfl) (λb u hb hu=>kp b u hb hu) ⟨_,ge⟩ (zE ⟨_,_,ge⟩);have w:H2 n=none:=l.hok.fresh M;have ne:n≠e:=λz=>by rw[z,R]at w;cases w
  obtain⟨o,go,lo⟩:=gd;have n0:Z.heap.get? n=none:=T3 M;have f:∀{b o},Z.heap.get? b=some o->b≠n:=λe z=>by rw[z,n0]at e;cases e
  refine⟨O,_,I3.track (a:=n) (φ:=kG B n v0) (by rw[aJ ne];exact w) (yF ⟨o,_,go,lo,rv⟩) (T3 (Q8 l.sz M)) ?_ (λx c e=>?_) (λp hp=>?_),q n w⟩
  ·obtain⟨m,⟨o,es,ep,g,_⟩,_⟩:=l.loc;exact(f g).symm
  ·obtain⟨v,o,g,_⟩:=l.cell x c e;exact f g
  ·exact f (l.pin p hp).1
end
def spF(fld:Str)(C:F0):Sp:=λb H Q _=>∃e v,b=[.ref e,v]/\H e=some (.ext (ot C e))/\∀a,H a=none->Q .non (upd (upd H e (.ext (mE (some a) C e))) a (.ext (kG fld a v)))
section
variable{X:Cx}{B G g:Str}{C W E:F0}{y:List (F0×Obj)}{σ:St}{H:Hp}{s:E6}
def rfQ(g:Str)(XW:F0->Hp->Prop):List V->Hp->Prop
 |[x],b=>∀a,b a=none->XW a (upd b a (.ext (kG g a x)))
 |_,_=>False
def tRF(g:Str)(XW:F0->Hp->Prop)(te:TE):TS:=λ_ σ H=>te σ H λx a=>rfQ g XW [x] a
theorem C4{XW:F0->Hp->Prop}{k:Nat}{fd:J7}{ps:List Str}{e:K8}{te:TE}{p pos pc:Pos}(Y:mL X.K X.mg B G g C W E)(F:aU X.prog X.w X.K X.mg X.base CX0 k E fd ps (spF g C))(hb:cQ X.K fd ps [])(hf:∃oI,X.K.lookup E=some oI/\oI.cls=N9 "function")
  (hr:cc (k+1) X.A) (hg:Gl X B) (hc:X.calm=true) (he:PE X e te)
  (hx:∀y σ H s a dd,Inv X y σ H s->XW dd H->H a=none->mE (some dd) C a s.heap->X.s₀.heap.get? a=none->X.xe (.ref a) s)
  (hdb:(B==("__debug__":Str))=false:=by decide) (w:E9 [e] X.env=(false,X7 e X.env)::E9 [] X.env:=by rfl) :
  PS X (.Raise (some (.Call (.Name B p) [e] [] pc)) none pos) (tRF g XW te):=by
 intro y s σ H D I h;obtain⟨nm,q',N,bs,sn,sub,ab,A,dd,k0,k1,k2,k3,k5,lC⟩:=Y.lC;obtain⟨oI,lI,cI⟩:=hf;refine lY (C:=C) (bm:=[.ref W,.type "ValueError",.type "Exception",.type "BaseException",.type "object"]) (hdct:=true) (nm:=nm) (q:=q') (N:=N) (bs:=bs) (sn:=sn) (sub:=sub) (ab:=ab) (col:=A) (dd:=dd) (k0:=k0) (k1:=k1) (k2:=k2) (k3:=k3) (k5:=k5) (newId:="ValueError.__new__") rfl (I.ok.hd hc) (W4 (il I hg Y.gC ?_ hdb));have ha:PA X [e] (qC te zB):=bF he dY w;refine ag1 (h₀:=X.base) I.ok.mod.kin Y.kC (thn (ha pc y s σ H (rfQ g XW) I h) λj s1 hs=>⟨?_,?_⟩) w rfl
 ·obtain⟨S,m,i,T,_⟩:=hs;exact i.kIn
 obtain⟨S,m,i,T,q⟩:=hs;obtain⟨v,rfl⟩:∃v,S=[v]:=by
  match S,q with
  |[v],_=>exact⟨v,rfl⟩
 obtain⟨hp,gs,d,t,os⟩:=s1;have a3:j.length=1:=by rw[<-T.length];rfl
 refine rJ PySem.F.excBase_ValueError (Y.tail i.kIn) (i.kIn _ _ lC) i.kIn Y.iC (i.kIn _ _ lI) cI (λh' a l o=>?_) ?_
 ·obtain⟨kp,new,t',ge,_,_⟩:=o;have Q:Inv X y σ (upd m a (.ext (ot C a))) { heap:=h',gens:=gs,drawn:=d,toks:=t,os:=os }:=i.laid (t':=t) kp l (rX ⟨_,_,ge⟩);have U:m a=none:=i.hok.fresh l;have r2:aA [V.ref a,v] (J0 a::j):=.cons rfl T;have n:spF g C [V.ref a,v] (upd m a (.ext (ot C a))) (λu H2=>u=.non/\∃dd,m dd=none/\dd≠a/\H2=upd (upd m dd (.ext (kG g dd v))) a (.ext (mE (some dd) C a))) E0:=⟨a,v,rfl,aY,λdd M=>by
   have R:dd≠a:=λz=>by rw[z,aY]at M;cases M
   rw[aJ R]at M;refine⟨rfl,dd,M,R,?_⟩;rw[zD];funext b;unfold upd
   by_cases z1:b=dd
   ·subst z1;simp[R]
   ·simp[z1]⟩
  have a1:(J0 a::j++[]).length=ps.length:=by
   rw[S3,<-r2.length];exact F.len _ _ _ _ n
  refine af3 (af4 (F.run _ X.stack _ _ ⟨J0 a::j,[]⟩ (J0 a::j) _ _ E0 (hr.make C j []) (Q.env0.make C j []) (by simpa using hb _ (J0 a::j) Q.kIn a1) r2 n) λr s' f=>?_);cases r with
  |error e=>exact f.elim
  |ok fl =>
   cases fl with
   |ret u =>
    obtain⟨v3,H3,O,a2,rfl,L,P,Z,rfl⟩:=Q.after f;obtain rfl:u=J5:=a2;obtain⟨a0,x,g3⟩:=(O.hok a _ aY).1;refine⟨rfl,a,_,a0,x,rfl,O.kIn _ _ lC,g3,?_⟩;have J:upd m L (.ext (kG g L v)) a=none:=by rw[aJ (T7 Z)];exact U
    refine hx y σ _ s' a L (O.forget J) (q L P) J ⟨a0,x,g3⟩ ?_;exact T3 (Q8 i.sz l)
   |next=>exact S1 f
   |brk=>exact S1 f
   |cont=>exact S1 f
 ·rw[L6,a3];exact ac5 (jQ (by decide))
end
def ExG(x:Option F0)(C:F0)(o:Obj):Prop:=ExF C o/\o.dict=x
theorem jd{x:Option F0}{C:F0}:j6 (ExG x C):=λo v ⟨e,b⟩=>⟨qJ o v e,by
 obtain⟨c,d,a,f⟩:=o;cases a<;>exact b⟩
def DR(x:Option F0)(C a T:F0)(i h:J6):Prop:=∃b f g e,h.get? a=some b/\ExG x C b/\b.data=.fields f/\f[1]?=some (.ref T)/\i.get? T=none/\T≠a/\h.get? T=some g/\g.data=.fields e/\e[3]?=some .none
def CX2(P:K3)(w:Q5)(Cs:List F0):CXT:=λb H s E e g=>∃(i:Nat) (C:F0) (x:Option F0) (a T:F0) (f:Hp),Cs[i]?=some C/\e=.ref a/\g.os=s.os/\ah9 g.gens/\Un (frs b) [] H f s.heap g.heap/\HOk P w f g.heap/\s.heap.get? a=none/\f a=none/\f T=none/\DR x C a T s.heap g.heap/\E (.ref C) x f
section
variable{P:K3}{w:Q5}{K:E2}{Y:Str->Option E1}{base:J6}{N:List Str}{G:Str}{B:ac4}{f:F0}{cd:E1}{A:M9}{y:List Env}{s:E6}{H:Hp}{E:XK}{Cs:List F0}
theorem xi{af:List (F0×Obj)}{σ:St}{u:Hp}{p:E6}{a C:F0}{x0:Option F0}{i:Nat}(I:Inv (jq (CX2 P w Cs) P w K Y base N G B f cd A y s H E) af σ u p)(hC:Cs[i]?=some C)(q:E (.ref C) x0 u)(hn:u a=none)(x:mE x0 C a p.heap)(h0:s.heap.get? a=none):
  (jq (CX2 P w Cs) P w K Y base N G B f cd A y s H E).xe (.ref a) p:=by
 obtain⟨a0,a4,g⟩:=x;have U:=I.stack;have l:∀b∈frs (ab4 G B s.heap.objs.size f cd::y),∃o,p.heap.get? b=some o/\∀vs:Array E1,o.data≠ac8 vs:=λb m=>(U.mem m).2;have a3:a∉frs (ab4 G B s.heap.objs.size f cd::y):=λm=>by
  obtain⟨o,e,d⟩:=l a m;rw[g]at e;cases e;exact d _ rfl
 refine qo jd (base:=ai4 p.heap (a::frs (ab4 G B s.heap.objs.size f cd::y))) I.ok.frames ?_ (L:=s.heap.objs.size) rfl g ?_ ?_ rfl rfl ⟨⟨rfl,_,rfl,rfl⟩,rfl⟩ λh' lf=>?_
 ·exact PySem.W.funFrames_hide U λa2 he b m=>K2 _ (W1.mpr ⟨a2,he,m⟩)
 ·exact λb o e=>af8 _ e
 ·exact W6 _ R9
 obtain⟨st,ff,⟨oe,vs,T,oT,ts,t1,t2,t3,t4,t5,t6,t7,t8,t9⟩,up⟩:=lf;have keep:∀b o,p.heap.get? b=some o->b≠a->b∉frs (ab4 G B s.heap.objs.size f cd::y)->h'.get? b=some o:=λb o e m j=>st b o (V4 _ e (λz=>(I0.mp z).elim m j));have hT:p.heap.get? T=none:=by
  cases e:p.heap.get? T with
  |none=>rfl
  |some o =>
   by_cases j:T∈frs (ab4 G B s.heap.objs.size f cd::y)
   ·obtain⟨o',Q,O⟩:=l T j;obtain⟨sl,R⟩:=up T o' Q O;rw[t7]at R;cases R;exact absurd t8 (O ts)
   ·rw[V4 _ e (λz=>(I0.mp z).elim t6 j)]at t5;cases t5
 have un:Un (frs y) [] H u s.heap p.heap:=I.base;have J:∀b∈frs (ab4 G B s.heap.objs.size f cd::y),u b=none:=I.stkFree;have a1:∀b o,s.heap.get? b=some o->b∈frs (ab4 G B s.heap.objs.size f cd::y)->b∈frs y:=λb o e m=>by
  rcases I0.mp m with z|z
  ·subst z;exact absurd (F8 e) (W7 _)
  ·exact z
 refine⟨i,C,x0,a,T,u,hC,rfl,I.os,I.bare,⟨λb o e n X M=>?_,λb o e n X M=>?_,λb o e n M=>un.free b o e n M,λb o e M=>?_,un.tups,un.frzs,un.tbls⟩,λb o e=>?_,h0,hn,?_,⟨oe,vs,oT,ts,t1,t2,t3,t4,?_,t6,t7,t8,t9⟩,q⟩
 ·exact keep b o (un.keep b o e n X M) (λz=>by rw[z,h0]at e;cases e) λz=>X (a1 b o e z)
 ·obtain⟨sl,h⟩:=un.slot b o e n X M;obtain⟨o',Q,O⟩:=l b (K2 _ X);rw[h]at Q;cases Q;obtain⟨S,R⟩:=up b _ h O;exact⟨S,R⟩
 ·obtain⟨Z,h⟩:=un.there b o e M
  by_cases j:b∈frs (ab4 G B s.heap.objs.size f cd::y)
  ·obtain⟨o',Q,O⟩:=l b j;obtain⟨S,R⟩:=up b _ Q O;exact⟨_,R⟩
  ·exact⟨Z,keep b Z h (λz=>by rw[z,h0]at e;cases e) j⟩
 ·refine(I.hok b o e).stay (λc v t r=>keep c v r ?_ ?_) (λc r=>r) λc xs r=>r
  ·rintro rfl;rcases t with rfl|t
   ·rw[hn]at e;cases e
   ·rw[hn]at t;cases t
  ·intro j;have:=J c j;rcases t with rfl|t
   ·rw[this]at e;cases e
   ·rw[this]at t;cases t
 ·cases e:u T with
  |none=>rfl
  |some o =>
   obtain⟨Z,h⟩:=(I.hok T o e).is;rw[hT]at h;cases h
 ·cases e:s.heap.get? T with
  |none=>rfl
  |some o =>
   obtain⟨Z,h⟩:=un.there T o e (by simp);rw[hT]at h;cases h
theorem DU:jT (CX2 P w Cs) (jq (CX2 P w Cs) P w K Y base N G B f cd A y s H E) (λc x S=>E c x S):=by
 intro af σ H1 s1 e t I h;obtain⟨i,C,dd,a,T,S,hC,rfl,os,a1,a9,a6,h0,M,O,fl,qx⟩:=h;have q:Inv (jq (CX2 P w Cs) P w K Y base N G B f cd A y s H E) af σ S t:=I.call' (ch:=[]) os a9 a6 a1 λb z=>absurd z (by simp);obtain⟨oe,vs,oT,ts,f1,f2,f3,f4,f5,f6,f7,f8,f9⟩:=fl;have a2:=q.stack;have u:∀b∈frs (ab4 G B s.heap.objs.size f cd::y),∃o,t.heap.get? b=some o/\∀vs:Array E1,o.data≠ac8 vs:=λb Q=>(a2.mem Q).2;have g0:s.heap.get? a=none:=by
  cases e:s.heap.get? a with
  |none=>rfl
  |some o =>
   obtain⟨U,g⟩:=I.base.there a o e (λz=>nomatch z);rw[h0]at g;cases g
 have gT:s.heap.get? T=none:=by
  cases e:s.heap.get? T with
  |none=>rfl
  |some o =>
   obtain⟨U,g⟩:=I.base.there T o e (λz=>nomatch z);rw[f5]at g;cases g
 refine rA jd (base:=ai4 t.heap (a::T::frs (ab4 G B s.heap.objs.size f cd::y))) q.ok.frames
  (PySem.W.funFrames_hide a2 λa7 he b Q=>K2 _ (K2 _ (W1.mpr ⟨a7,he,Q⟩))) (L:=s.heap.objs.size) rfl
  ⟨oe,vs,T,oT,ts,f1,f2,f3,f4,W6 _ (by simp),f6,f7,f8,f9⟩ (λb o e=>af8 _ e) (W6 _ (by simp)) λh' b1=>?_
 obtain⟨st,ff,⟨b0,a8,l,a5,a3,t1,t2,t3,t4,t5,t6,t7,t8,t9⟩,up⟩:=b1;have keep:∀b o,t.heap.get? b=some o->b≠a->b≠T->b∉frs (ab4 G B s.heap.objs.size f cd::y)->h'.get? b=some o:=λb o e Q b2 m=>st b o (V4 _ e (λz=>by
  rcases I0.mp z with z|z
  ·exact Q z
  rcases I0.mp z with z|z
  ·exact b2 z
  ·exact m z))
 have a0:l=T∨t.heap.get? l=none:=by
  by_cases z:l=T
  ·exact .inl z
  ·right;cases e:t.heap.get? l with
   |none=>rfl
   |some o =>
    by_cases m:l∈frs (ab4 G B s.heap.objs.size f cd::y)
    ·obtain⟨o',e',Z⟩:=u l m;obtain⟨sl,X⟩:=up l o' e' Z;rw[t7]at X;cases X;exact absurd t8 (Z a3)
    ·rw[V4 _ e (λp=>by
      rcases I0.mp p with p|p
      ·exact t6 p
      rcases I0.mp p with p|p
      ·exact z p
      ·exact m p)]at t5
     cases t5
 have un:Un (frs y) [] H S s.heap t.heap:=q.base;have J:∀b∈frs (ab4 G B s.heap.objs.size f cd::y),S b=none:=q.stkFree;have a':∀b o,s.heap.get? b=some o->b∈frs (ab4 G B s.heap.objs.size f cd::y)->b∈frs y:=λb o e Q=>by
  rcases I0.mp Q with z|z
  ·subst z;exact absurd (F8 e) (W7 _)
  ·exact z
 have na:∀{b o},s.heap.get? b=some o->b≠a:=λe z=>by rw[z,g0]at e;cases e
 have nT:∀{b o},s.heap.get? b=some o->b≠T:=λe z=>by rw[z,gT]at e;cases e
 refine⟨i,C,dd,a,l,S,hC,rfl,q.os,q.bare,⟨λb o e n h1 R=>?_,λb o e n h1 R=>?_,λb o e n R=>un.free b o e n R,λb o e R=>?_,un.tups,un.frzs,un.tbls⟩,λb o e=>?_,g0,M,?_,⟨b0,a8,a5,a3,t1,t2,t3,t4,?_,t6,t7,t8,t9⟩,qx⟩
 ·exact keep b o (un.keep b o e n h1 R) (na e) (nT e) λz=>h1 (a' b o e z)
 ·obtain⟨sl,g⟩:=un.slot b o e n h1 R;obtain⟨o',e',Z⟩:=u b (K2 _ h1);rw[g]at e';cases e';obtain⟨a4,X⟩:=up b _ g Z;exact⟨a4,X⟩
 ·obtain⟨U,g⟩:=un.there b o e R
  by_cases m:b∈frs (ab4 G B s.heap.objs.size f cd::y)
  ·obtain⟨o',e',Z⟩:=u b m;obtain⟨a4,X⟩:=up b _ e' Z;exact⟨_,X⟩
  ·exact⟨U,keep b U g (na e) (nT e) m⟩
 ·refine(q.hok b o e).stay (λc v j r=>keep c v r ?_ ?_ ?_) (λc r=>r) λc xs r=>r
  ·rintro rfl;rcases j with rfl|j
   ·rw[M]at e;cases e
   ·rw[M]at j;cases j
  ·rintro rfl;rcases j with rfl|j
   ·rw[O]at e;cases e
   ·rw[O]at j;cases j
  ·intro m;have:=J c m;rcases j with rfl|j
   ·rw[this]at e;cases e
   ·rw[this]at j;cases j
 ·rcases a0 with rfl|z
  ·exact O
  ·cases e:S l with
   |none=>rfl
   |some o =>
    obtain⟨U,g⟩:=(q.hok l o e).is;rw[z]at g;cases g
 ·rcases a0 with rfl|z
  ·exact gT
  ·cases e:s.heap.get? l with
   |none=>rfl
   |some o =>
    obtain⟨U,g⟩:=un.there l o e (by simp);rw[z]at g;cases g
end
def xA(i:Nat)(x:Option F0):D:=.box (.dk [.inl (i:Int)]) (match x with|none=>[]|some d=>[.ref d,.ref d])
def isX:D->Option (Nat×Option F0)
 |.box (.dk [.inl i]) []=>some (i.toNat,none)
 |.box (.dk [.inl i]) [.ref d,.ref _]=>some (i.toNat,some d)
 |_=>none
theorem dX{i:Nat}{x:Option F0}:isX (xA i x)=some (i,x):=by cases x<;>simp[xA,isX]
theorem vE{d:D}{i:Nat}{x:Option F0}(h:isX d=some (i,x)):(∃j:Int,d=.box (.dk [.inl j]) [])∨∃(j:Int) (a b:F0),d=.box (.dk [.inl j]) [.ref a,.ref b]:=by
 unfold isX at h
 split at h
 ·exact .inl ⟨_,rfl⟩
 ·exact .inr ⟨_,_,_,rfl⟩
 ·cases h
theorem sk{K:E2}{M:DH}{H:Hp}{v:V}{d:D}(h:Rep K M H d v):isX d=none:=by
 cases e:isX d with
 |none=>rfl
 |some p =>
  rcases vE (i:=p.1) (x:=p.2) e with⟨j,rfl⟩|⟨j,a,b,rfl⟩
  ·obtain⟨a,g,_,⟨f,_⟩,r⟩:=h;simp only[aq]at r;subst r;cases f
  ·obtain⟨a,g,_,⟨f,_⟩,r⟩:=h;have:=r.length;simp at this f
   lia
def Ep(f:Str)(dd:F0):List V->J6->Prop
 |[v]=>kG f dd v
 |_=>λ_=>False
def qS(f:Str)(dd:F0)(d:D):HD:=.ext (Ep f dd) [d]
def Dd(K:E2)(Cs:List F0)(XW:F0->Option F0->Hp->Prop)(t:TSd):TS:=λD b H=>∃(a:DE) (M:DH) (E:dP),SR K M H b a/\HR K M H/\t E a M/\UpE K E D M H/\∀(i:Nat) (x:Option F0) (C:F0) M' H',E.rt (xA i x) M'->Cs[i]?=some C->Ext M H M' H'->HR K M' H'->XW C x H'
def PSy(X:Cx)(Cs:List F0)(XW:F0->Option F0->Hp->Prop)(st:W8)(t:TSd):Prop:=PS X st (Dd X.K Cs XW t)
def pN(X:Cx)(Cs:List F0)(XW:F0->Option F0->Hp->Prop)(st:List W8)(t:TSd):Prop:=PSs X st (Dd X.K Cs XW t)
section
variable{X:Cx}{XW:F0->Option F0->Hp->Prop}{Cs:List F0}{a b c e:K8}{te:TEd}{pos:Pos}{st:W8}{rest:List W8}{t u:TSd}{B I y:Str}{C W G:F0}
theorem ya(h:QSd X st t):PSy X Cs XW st t:=by
 rw[QSd.eq]at h;exact PS.conv h λD f H ⟨e,M,E,a,b,q,k,_⟩=>⟨e,M,E,a,b,q,k⟩
theorem vY:pN X Cs XW [] pF:=sP.conv λD b H ⟨f,M,E,a,e,q,u,_⟩=>u.nx f M b H q (Ext.refl _ _) e a
theorem js(I:PSy X Cs XW st t)(C:pN X Cs XW rest u):pN X Cs XW (st::rest) (zF t u) :=
 (mz I C).conv λD L H ⟨z,M,E,i,l,q,k,x⟩=>⟨z,M,{ E with nx:=u E },i,l,q,⟨λe n m N s h a f=>⟨e,n,E,f,a,s,k.ext h,λp j o b g B A G w=>x p j o b g B A (h.trans G) w⟩,k.bk,k.ct,k.rt⟩,x⟩
theorem jb(a:PSy X Cs XW st t):pN X Cs XW [st] t:=pe a
theorem DO{A z:List W8}{tc:TTd}(B:QTd X c tc)(ha:pN X Cs XW A t)(G:pN X Cs XW z u):PSy X Cs XW (.If c A z pos) (wA tc t u):=by
 rw[QTd.eq]at B;exact(Ad B ha G).conv λD I H ⟨m,M,E,i,C,q,k,x⟩=>⟨m,M,_,i,C,q,λb M1 J h f g=>by
  cases b with
  |true=>simp only[if_true]at h ⊢;exact⟨m,M1,E,i.ext f,g,h,k.ext f,λs j p a e n o w l=>x s j p a e n o (f.trans w) l⟩
  |false=>simp only[F1,if_false]at h ⊢;exact⟨m,M1,E,i.ext f,g,h,k.ext f,λs j p a e n o w l=>x s j p a e n o (f.trans w) l⟩⟩
theorem Co{R iter:K8}{p:List W8}{wi:TId}{g:GD}{P:TSd}(hp:T0 (K7 X.prog X.w) X.A X.env X.xe)(hc:X.calm=true)(hi:QId X R iter wi)(hg:PGd X R g)(hb:pN X Cs XW p P)
  (hs:∀x,O3 iter X.env x=ae2 x:=by intro _;rfl):PSy X Cs XW (.For R iter p [] pos) (AM wi g P):=by
 rw[QId.eq]at hi;obtain⟨gv,pg,kg⟩:=hg;refine(wU hp hc hi pg hb hs).conv λD σ H hh=>?_;obtain⟨Δ,M,E,Y,hr,q,k,xx⟩:=hh;refine⟨Δ,M,_,Y,hr,q,λl M1 J H1 q1 L U it=>?_⟩;refine⟨λi m b n=>∃ a e,m=l.length-i/\i<=l.length/\Ext M1 H1 e n/\HR X.K e n/\SR X.K e n b a/\bN g P E (l.drop i) a e,⟨l.length,Δ,M1,by simp,P9 _,Ext.refl _ _,U,Y.ext L,q1⟩,?_⟩;rintro i m B H2 ⟨G,M2,rfl,a1,s,O,C,A⟩;obtain⟨go,stop⟩:=it M2 H2 s O i
 by_cases o:i<l.length
 ·have hd:l[i]?=some l[i]:=by simp[o]
  obtain⟨g1,y1⟩:=go _ hd;rw[aa5 o]at A;simp only[bN]at A;obtain⟨I,eg,f3⟩:=A;refine .inr ⟨g1,λb n=>∃Z,Z<l.length-i/\∃ a e,Z=l.length-(i+1)/\i+1<=l.length/\Ext M1 H1 e n/\HR X.K e n/\SR X.K e n b a/\bN g P E (l.drop (i+1)) a e,λb n z=>z,λx n hy=>?_⟩;obtain⟨w,N,rx⟩:=y1 x n hy;refine kg _ x B G I M2 n _ (C.ext w) N rx eg λa0 S=>?_;refine⟨I,M2,_,S,N,f3,⟨λa e b f t u h j=>?_,λa e b f t u h j=>?_,λa e b f t u h j=>?_,λd e v f t u h Q=>?_⟩,λi0 x0 C0 T f z1 z0 z2 z3=>xx i0 x0 C0 T f z1 z0 (((L.trans s).trans w).trans z2) z3⟩
  ·exact⟨_,by lia,a,e,rfl,o,(s.trans w).trans u,h,j,t⟩
  ·exact k.nx a e b f t (((L.trans s).trans w).trans u) h j
  ·exact⟨_,by lia,a,e,rfl,o,(s.trans w).trans u,h,j,t⟩
  ·exact k.rt d e v f t (((L.trans s).trans w).trans u) h Q
 ·rw[ac2 (by lia)]at A;exact .inl ⟨stop (by lia),k.nx G M2 B H2 A (L.trans s) O C⟩
def sA(y:Str)(i:Nat)(te:TEd):TSd:=λE b M=>te b M λd M1=>∀a,M1 a=none->∃M2,LeM M2 (aG M1 a (qS y a d))/\E.rt (xA i (some a)) M2
theorem Er(i:Nat){k:Nat}{t:J7}{ps:List Str}{p S:Pos}(L:Cs[i]?=some C)(Y:mL X.K X.mg B I y C W G)(F:aU X.prog X.w X.K X.mg X.base CX0 k G t ps (spF y C))(O:cQ X.K t ps [])(A:∃o,X.K.lookup G=some o/\o.cls=N9 "function")
  (hr:cc (k+1) X.A) (hg:Gl X B) (Q:X.calm=true) (he:QEd X e te)
  (J:∀m σ H s a x,Inv X m σ H s->XW C x H->H a=none->mE x C a s.heap->X.s₀.heap.get? a=none->X.xe (.ref a) s)
  (hdb:(B==("__debug__":Str))=false:=by decide) (n:E9 [e] X.env=(false,X7 e X.env)::E9 [] X.env:=by rfl) :
  PSy X Cs XW (.Raise (some (.Call (.Name B p) [e] [] S)) none pos) (sA y i te):=by
 rw[QEd.eq]at he;refine(C4 (XW:=λb H=>XW C (some b) H) Y F O A hr hg Q he (λm σ H s a b=>J m σ H s a (some b)) hdb n).conv λD σ H ⟨P,M,E,w,hr,q,k,x⟩=>⟨P,M,_,w,hr,q,λd M1 v j T z f R b u=>?_⟩;obtain⟨M2,g,N⟩:=T b (f.fresh u);have l:Ext M1 j (aG M1 b (qS y b d)) (upd j b (.ext (kG y b v))):=Ext.own u;have h:HR X.K (aG M1 b (qS y b d)) (upd j b (.ext (kG y b v))):=f.put l ⟨[v],aY,by simp only[aq];exact⟨_,_,rfl,R.ext l,rfl⟩⟩;exact x i (some b) C M2 _ N L ((z.trans l).trans (Ext.le g)) (h.le g)
end
section
variable{X:Cx}{XW:Hp->Prop}{g:Str}{C W:F0}
theorem DI{e:K8}{te:TE}{p pos Q:Pos}(Y:BH X.K X.mg g C W)(hg:Gl X g)(hc:X.calm=true)(he:PE X e te)
  (hx:∀n σ H s a,Inv X n σ H s->XW H->H a=none->mE none C a s.heap->X.s₀.heap.get? a=none->X.xe (.ref a) s)
  (hex:X.ex=[]:=by rfl) (hdb:(g==("__debug__":Str))=false:=by decide) (j:E9 [e] X.env=(false,X7 e X.env)::E9 [] X.env:=by rfl) :
  PS X (.Raise (some (.Call (.Name g p) [e] [] Q)) none pos) (tRs XW te):=by
 intro n s σ H D I h;obtain⟨U,q',N,bs,hd,L,sub,Z,m,E,R,J,S,T,A,cN,dN,es,ep,sN,G,lN,hN⟩:=Y.lC;obtain⟨c0,dW,a2,a3,a1,a0,a4,a6,a5,w1,w2,w3⟩:=Y.lW;refine lY (C:=C) (bm:=[.ref W,.type "ValueError",.type "Exception",.type "BaseException",.type "object"]) (hdct:=hd) (nm:=U) (q:=q') (N:=N) (bs:=bs) (sn:=L) (sub:=sub) (ab:=Z) (col:=m) (dd:=E) (k0:=R) (k1:=J) (k2:=S) (k3:=T) (k5:=A) (newId:="ValueError.__new__") rfl (I.ok.hd hc) (W4 (il I hg Y.gC ?_ hdb));have ha:PA X [e] (qC te zB):=bF he dY j;refine ag1 (h₀:=X.base) I.ok.mod.kin Y.kC (thn (ha Q n s σ H (λu f=>u.length=1/\XW f) I h) λus s1 B=>⟨?_,?_⟩) j rfl
 ·obtain⟨u,f,b,O,_⟩:=B;exact b.kIn
 obtain⟨u,f,b,O,hl,q⟩:=B;obtain⟨hp,gs,d,t,os⟩:=s1;have x:us.length=1:=by rw[<-O.length];exact hl
 obtain⟨n1,n2⟩:=nZ (b.kIn _ _ lN) hN;obtain⟨n3,n4⟩:=nZ (b.kIn _ _ w2) w3;refine wpAny_call_exc_subU PySem.F.excBase_ValueError (by decide) PySem.F.excBase_ValueError (an9.own (b.kIn _ _ w1) n3 n4 an9.base) (b.kIn _ _ G) n1 n2 (λh' a i=>?_) ?_
 ·obtain⟨kp,new,t',P,_,_⟩:=i;have M:Inv X n σ f { heap:=h',gens:=gs,drawn:=d,toks:=t,os:=os }:=b.kept (t':=t) kp;have w:f a=none:=by
   cases z:f a with
   |none=>rfl
   |some o =>
    obtain⟨o1,l⟩:=(b.hok a o z).is;rw[new]at l;cases l
  refine⟨a,_,_,_,rfl,M.kIn _ _ G,P,hx n σ f _ a M q w ⟨_,_,P⟩ ?_⟩;cases z:X.s₀.heap.get? a with
  |none=>rfl
  |some o =>
   obtain⟨o1,l⟩:=b.base.there a o z (by rw[hex];simp);rw[new]at l;cases l
 ·rw[L6,x];exact ac5 (jQ (by decide))
end
def tH(i:Nat)(te:TEd):TSd:=λE a M=>te a M λ_ M1=>∃M2,LeM M2 M1/\E.rt (xA i none) M2
section
variable{X:Cx}{XW:F0->Option F0->Hp->Prop}{Cs:List F0}{g:Str}{C W:F0}
theorem El(i:Nat){e:K8}{te:TEd}{p pos B:Pos}(o:Cs[i]?=some C)(Y:BH X.K X.mg g C W)(hg:Gl X g)(u:X.calm=true)(he:QEd X e te)
  (A:∀f σ H s a x,Inv X f σ H s->XW C x H->H a=none->mE x C a s.heap->X.s₀.heap.get? a=none->X.xe (.ref a) s)
  (hex:X.ex=[]:=by rfl) (hdb:(g==("__debug__":Str))=false:=by decide) (j:E9 [e] X.env=(false,X7 e X.env)::E9 [] X.env:=by rfl) :
  PSy X Cs XW (.Raise (some (.Call (.Name g p) [e] [] B)) none pos) (tH i te):=by
 rw[QEd.eq]at he;exact(DI (XW:=XW C none) Y hg u he (λf σ H s a=>A f σ H s a none) hex hdb j).conv λD σ H ⟨t,M,E,l,m,q,k,x⟩=>⟨t,M,_,l,m,q,λd M1 v z ⟨M2,b,w⟩ n h _=>⟨rfl,x i none C M2 z w o (n.trans (Ext.le b)) (h.le b)⟩⟩
end
def spY(K:E2)(n:Nat)(S:SpD)(Cs:List F0):Sp:=λf H Q E=>∃(e:List D) (M:DH) (R:D->DH->Prop),e.length=n/\aq K M H e f/\HR K M H/\S e M R/\(∀d a v b,R d a->Ext M H a b->HR K a b->Rep K a b d v->Q v b) /\
 ∀(i:Nat) (x:Option F0) (C:F0) a b,R (xA i x) a->Cs[i]?=some C->Ext M H a b->HR K a b->E (.ref C) x b
section
variable{P:K3}{w:Q5}{K:E2}{y:Str->Option E1}{base:J6}{f:F0}{g:J7}
theorem Fun.okY{x b:Str}{st:W8}{f:F0}{g:J7}{N ps:List Str}{k n:Nat}{S:SpD}{Cs:List F0}(F:Fun K x b st f g)(U:ps.length=n)(O:ay N ps (ak st))
  (j:∀ (e:E1) (A:M9) (a:List Env) (s:E6) (H:Hp) (E:XK),cc k (A.deeper (ab4 b (ak st) s.heap.objs.size f e)) →
   ∃t:TSd,pN (jq (CX2 P w Cs) P w K y base N b (ak st) f e A a s H E) Cs (λC x o=>E (.ref C) x o) (cD st) t/\∀ds M R,ds.length=n->S ds M R->t { nx:=λ_ m=>R .non m,rt:=R } (gj N ds) M):aU P w K y base (CX2 P w Cs) (k+1) f g ps (spY K n S Cs):=by
 obtain⟨oc,od,kV,Z,pm,an,e,ct,a0,rfl,lk,p⟩:=F.ex;refine Aa lk p O (λvs H Q E h=>?_) λA a s H vs Q E J h=>?_
 ·obtain⟨ds,M,R,z,r,_⟩:=h;rw[U,<-r.length];exact z
 obtain⟨t,X,Y⟩:=j e A a s H E J;obtain⟨ds,M,R,z,r,u,q,G,I⟩:=h;exact⟨_,X,gj N ds,M,_,qf r,u,Y ds M R z q,⟨λT m L o i B l _=>G .non m .non o i B l (by simp[Rep]),λ_ _ _ _ i=>S1 i,λ_ _ _ _ i=>S1 i,λd m v o i B l rv=>G d m v o i B l rv⟩,I⟩
end
structure FnY(P:K3) (w:Q5) (K:E2) (mg:Str->Option E1) (base:J6) (x:Str) (k n:Nat) (S:SpD) (Cs:List F0):Prop where
 ex:∃(f:F0) (fd:J7) (ps:List Str),aU P w K mg base (CX2 P w Cs) k f fd ps (spY K n S Cs)/\mg x=some (.ref f)/\T8 K (.ref f)=true/\cQ K fd ps []
theorem fgY{P:K3}{w:Q5}{K:E2}{a:Str->Option E1}{base h:J6}{x:Str}{st:W8}{f:F0}{Cs:List F0}{e:J7}{S:SpD}{k:Nat}{ps:List Str}{n:Nat}(X:K.In h)(G:h.Ns J3 a)(i:bC K x st f e)(o:aU P w K a base (CX2 P w Cs) k f e ps (spY K n S Cs))(b:cQ K e ps []):FnY P w K a base x k n S Cs:=⟨_,_,_,o,P3 X G i.a,i.F.kp,b⟩
section
variable{M:ap2}{A:M9}{E:E1->E6->Prop}
variable{nm q I q2:Str}{C N W N2:F0}{bs bm Y z:List E1}{hdct B:Bool}{sn sn2:List Str}{sub G:List E1}{ab ab2:Bool}{col H:Option Bool}{dd dd2:Option F0}{k0 k1 k2 k3 k5 l0 l1 l2 l3 l5:Option E1}{newId y:String}
theorem xY{h:J6}{g:Array ao0}{d:Drawn}{t:Nat}{os:OsState}{e:F0}{m:Obj}{Q:Bool->E6->Prop}
  (j:h.get? C=some (S6 nm q C N bs bm hdct sn sub ab col dd k0 k1 k2 k3 k5 newId)) (l:h.get? W=some (S6 I q2 W N2 Y z B sn2 G ab2 H dd2 l0 l1 l2 l3 l5 y)) (he:h.get? e=some m) (a:m.cls=.ref C)
  (n:z.contains (.type "BaseException")=true) (i:(J0 C::bm).contains (.ref W)=true)
  (o:Q true ⟨h,g,d,t,os⟩):H0 M A (excMatches (.ref e) (.ref W)) Q E ⟨h,g,d,t,os⟩:=by
 have b:(J0 W::z).contains (.type "BaseException")=true:=by rw[List.contains_cons,n,Bool.or_true]
 have f:=tc_notTuple;unfold excMatches
 repeat (first|(with_reducible refine S9 he ?_;rw[a])|with_reducible refine S9 l ?_|with_reducible refine S9 j ?_|(with_reducible refine ae9 l ?_;rw[b])|(with_reducible refine ae9 j ?_;rw[i])|wp_step)
 exact o
end
def ExX(x:Option F0)(C a:F0)(h:J6):Prop:=∃o,h.get? a=some o/\ExG x C o
def ExY(Cs:List F0)(i:Nat)(x:Option F0)(a:F0)(h:J6):Prop:=∃C,Cs[i]?=some C/\ExX x C a h
theorem AN{P:K3}{w:Q5}{H:Hp}{h:J6}{Cs:List F0}{i:Nat}{x:Option F0}{a:F0}(z:ExY Cs i x a h):bP P w H h a (.ext (ExY Cs i x a)):=by
 obtain⟨C,b,o,g,r⟩:=z;exact⟨⟨C,b,o,g,r⟩,⟨_,g⟩,λf e ⟨C,b,o,q,r⟩ k=>⟨C,b,o,k _ q,r⟩⟩
def exY(Cs:List F0)(i:Nat)(x:Option F0)(a:F0):HD:=.ext (λ_=>ExY Cs i x a) []
section
variable{X:Cx}{H:List (F0×Obj)}{σ:St}{I B:Hp}{E s':E6}{C a T:F0}{y:Option F0}{Cs:List F0}{G:Nat}
theorem yK{xW n:Str}{W:F0}{p pos:Pos}{b0:W8}{s:List W8}{Q:Flow->E6->Prop}{E':E1->E6->Prop}(L:Inv X H σ I E)(a0:X.stack=X.env::X.outer)(b':X.env.frame=some X.env.locals)(hg:Gl X xW)(hm:X.mg xW=some (.ref W))
  (lC:∃nm q N bs bm hd sn sub ab col dd k0 k1 k2 k3 k5 newId,X.K.lookup C=some (S6 nm q C N bs bm hd sn sub ab col dd k0 k1 k2 k3 k5 newId)/\(J0 C::bm).contains (.ref W)=true)
  (lW:∃nm q N bs bm hd sn sub ab col dd k0 k1 k2 k3 k5 newId,X.K.lookup W=some (S6 nm q W N bs bm hd sn sub ab col dd k0 k1 k2 k3 k5 newId)/\bm.contains (.type "BaseException")=true)
  (os:s'.os=E.os) (l:ah9 s'.gens) (un:Un (frs X.stack) [] I B E.heap s'.heap) (u:HOk X.prog X.w B s'.heap) (ha:E.heap.get? a=none) (M:B a=none) (O:B T=none) (b4:Cs[G]?=some C) (fl:DR y C a T E.heap s'.heap) (hex:X.ex=[])
  (k:∀ h,Inv X H σ (upd B a (.ext (ExY Cs G y a))) { s' with heap:=h } → H0 (K7 X.prog X.w) (X.A.mark (some (.ref a))) (ap7 X.env n (.ref a)) (λ_ s2 => H0 (K7 X.prog X.w) (X.A.mark (some (.ref a))) (execs (b0 :: s) X.env)
   (λf s3=>H0 (K7 X.prog X.w) X.A (do bindName X.env n .none;unbindBehindTheSuite X.env n pos) (λ_ s4=>Q f s4) E' s3) (λ_ _=>False) s2) (λ_ _=>False) { s' with heap:=h }) (hdb:(xW==("__debug__":Str))=false:=by decide) :
  H0 (K7 X.prog X.w) X.A (am4 (.ref a) X.env) (λ_ s2=>H0 (K7 X.prog X.w) X.A (setFlight (.ref a) none) (λ_ s3=>H0 (K7 X.prog X.w) X.A (handleBy (.ref a) X.env [.ExceptHandler (some (.Name xW p)) (some n) (b0::s) pos]) Q E' s3) E' s2) E' s':=by
 obtain⟨oe,vs,oT,ts,f1,f2,f3,f4,f5,f6,f7,f8,f9⟩:=fl;have I':Inv X H σ B s':=L.call' (ch:=[]) os un u l λb z=>absurd z (by simp);have a2:=I'.stack;have a1:∀b∈frs X.stack,∃o,s'.heap.get? b=some o/\∀vs:Array E1,o.data≠ac8 vs:=λb i=>(a2.mem i).2;have hA:X.A.frames=some (X.env::X.outer):=by rw[<-a0];exact L.ok.frames
 refine zX jd (base:=ai4 s'.heap (a::T::frs X.stack)) hA (by rw[<-a0];exact PySem.W.funFrames_hide a2 λa7 he b i=>K2 _ (K2 _ (W1.mpr ⟨a7,he,i⟩))) b'
  ⟨oe,vs,T,oT,ts,f1,f2,f3,f4,W6 _ (by simp),f6,f7,f8,f9⟩ (λb o e=>af8 _ e) (W6 _ (by simp)) λh1 g=>oO g.1 g.2.1 g.2.2.1 λh2 U=>?_
 have up1:=g.2.2.2;obtain⟨b9,c3,⟨b6,c',t,c2,b1,t1,t2,t3,t4,t5,t6,t7,t8,t9⟩,b8⟩:=U;have S:∀b o,s'.heap.get? b=some o->b∉[a,T]->b∉frs X.stack->h2.get? b=some o:=λb o e Y hf=>b9 b o (V4 _ e λz=>by
  rcases I0.mp z with z|z
  ·exact Y (by simp[z])
  rcases I0.mp z with z|z
  ·exact Y (by simp[z])
  ·exact hf z)
 have P:∀b o,b∈frs X.stack->s'.heap.get? b=some o->∃sl,h2.get? b=some { o with slots:=sl }:=λb o i e=>by
  obtain⟨o',e',d'⟩:=a1 b i;rw[e]at e';cases e';obtain⟨sl,q1⟩:=up1 b o e d';obtain⟨b3,q2⟩:=b8 b _ q1 d';exact⟨b3,q2⟩
 have a':∀b∈[a,T],E.heap.get? b=none/\B b=none:=λb i=>by
  rcases I0.mp i with rfl|i
  ·exact⟨ha,M⟩
  ·obtain rfl:=O9.mp i;exact⟨f5,O⟩
 have R:=p8 L os l un u S P a';obtain⟨nm,q,N,bs,bm,hd,sn,sub,ab,col,dd,k0,k1,k2,k3,k5,newId,lC,b5⟩:=lC;obtain⟨d8,q',N',d5,d3,d1,d6,c0,d2,c1,c5,d0,d4,c6,c4,d7,a4,lW,a3⟩:=lW;refine wpAny_handleBy_cons (codeAny_handlers_test (Calls.Name_function_global R.ok.kind hg (Calls.loadGlobal_global (by rw[R.ok.glob];exact R.mod.glob.keeps R.bk) hm ?_) hdb)) (by intro z;cases z);refine xY (R.kIn _ _ lC) (R.kIn _ _ lW) t1 t2.1.1 a3 b5 ?_;refine codeAny_handlers_suite_as ?_;have a6:3<b1.size:=(T1.mp t9).1;refine wpAny_setFlight_none t1 t3 t4 t7 t8 a6 ?_;have J:t∉frs X.stack:=λi=>by
  obtain⟨o',e',d'⟩:=a1 t i;obtain⟨sl,q2⟩:=P t o' i e';rw[t7]at q2;cases q2;exact d' _ t8
 have a8:t=T∨s'.heap.get? t=none:=by
  by_cases z:t=T
  ·exact .inl z
  ·right;cases e:s'.heap.get? t with
   |none=>rfl
   |some o =>
    rw[V4 _ e λw=>by
     rcases I0.mp w with w|w
     ·exact t6 w
     rcases I0.mp w with w|w
     ·exact z w
     ·exact J w]at t5
    cases t5
 have a9:∀b∈[a,T,t],E.heap.get? b=none/\B b=none:=λb i=>by
  rcases I0.mp i with rfl|i
  ·exact⟨ha,M⟩
  rcases I0.mp i with rfl|i
  ·exact⟨f5,O⟩
  obtain rfl:=O9.mp i;rcases a8 with rfl|z
  ·exact⟨f5,O⟩
  ·constructor
   ·cases e:E.heap.get? b with
    |none=>rfl
    |some o =>
     obtain⟨o1,A⟩:=un.there b o e (by simp);rw[z]at A;cases A
   ·cases e:B b with
    |none=>rfl
    |some o =>
     obtain⟨o1,A⟩:=(u b o e).is;rw[z]at A;cases A
 have I3:=p8 (h:=h2.update t (V9 λx=>x.setIfInBounds 3 J5)) L os l un u (Z:=[a,T,t]) (λb o e Y hf=>by
   rw[K5 _ _ (λz=>Y (by simp[z]))];exact S b o e (λz=>Y (by
    rcases I0.mp z with z|z
    ·simp[z]
    ·simp[O9.mp z])) hf)
  (λb o i e => by
   rw[K5 _ _ (λz=>J (by rw[z];exact i))];exact P b o i e) a9
 have j:∀{b o},E.heap.get? b=some o->b≠a:=λe z=>by rw[z,ha]at e;cases e
 have a5:ExY Cs G y a (h2.update t (V9 λx=>x.setIfInBounds 3 J5)):=⟨C,b4,b6,by rw[K5 _ _ t6];exact t1,t2⟩;have I4:=I3.track (a:=a) (φ:=ExY Cs G y a) M (AN a5) (by
   cases e:X.s₀.heap.get? a with
   |none=>rfl
   |some o =>
    obtain⟨o1,A⟩:=L.base.there a o e (by rw[hex];simp);rw[ha]at A;cases A) (by
   obtain⟨m,⟨o,es,ep,g,_⟩,_⟩:=L.loc;exact(j g).symm) (λx c e=>by
   obtain⟨v,o,g,_⟩:=L.cell x c e;exact j g) (λp hp=>j (L.pin p hp).1)
 exact O1 (k _ I4) (λ_ s2 z=>O1 z (λf s3 z=>z) λ_ _ z=>z.elim) λ_ _ z=>z.elim
end
abbrev TXd:=DE->DH->(D->DH->Prop)->(Nat->Option F0->DH->Prop)->Prop
abbrev TYd:=dP->(Nat->Option F0->DH->Prop)->DE->DH->Prop
def v4(X:Cx)(Cs:List F0)(j:List (F0×Obj))(σ:St)(M:DH)(H:Hp)(h:Nat->Option F0->DH->Prop)(e:E1)(s':E6):Prop :=
 ∃g b,Inv X j σ b g/\CX2 X.prog X.w Cs X.stack b g (λc x f=>∃(i:Nat) (C:F0) (a:DH),c=.ref C/\Cs[i]?=some C/\h i x a/\Ext M H a f/\HR X.K a f) e s'
def PXe(X:Cx)(Cs:List F0)(e:K8)(t:TXd):Prop:=∀(g:List (F0×Obj)) (s:E6) (a:St) (H:Hp) (j:VK) (h:DE) (M:DH) (Q:D->DH->Prop) (i:Nat->Option F0->DH->Prop),Inv X g a H s->SR X.K M H a h->HR X.K M H->t h M Q i ->
 (∀d b v f,Q d b->Ext M H b f->HR X.K b f->Rep X.K b f d v->j v f)->H0 (K7 X.prog X.w) X.A (X7 e X.env) (EP X g a j) (v4 X Cs g a M H i) s
def PTy(X:Cx)(Cs:List F0)(st:W8)(t:TYd):Prop:=∀(b:List (F0×Obj)) (s:E6) (a:St) (H:Hp) (D:m5) (e:DE) (M:DH) (E:dP) (f:Nat->Option F0->DH->Prop),Inv X b a H s->SR X.K M H a e->HR X.K M H->t E f e M->UpE X.K E D M H ->
 H0 (K7 X.prog X.w) X.A (exec st X.env) (SP X b D) (v4 X Cs b a M H f) s
theorem v4.ext{X:Cx}{Cs:List F0}{g:List (F0×Obj)}{σ:St}{M M1:DH}{H f:Hp}{l:Nat->Option F0->DH->Prop}{e:E1}{s':E6}(x:Ext M H M1 f)(h:v4 X Cs g σ M1 f l e s'):v4 X Cs g σ M H l e s':=by
 obtain⟨u,L,I,i,C,y,a,T,O,P,J,p,z,G,s,B,E,m,b,j,w,n,A,t,o,q,N⟩:=h;exact⟨u,L,I,i,C,y,a,T,O,P,J,p,z,G,s,B,E,m,b,j,w,n,A,t,o,x.trans q,N⟩
def dXC(n:Nat)(S:SpD)(t:TAd):TXd:=λb M Q e=>t b M λa M1=>a.length=n/\S a M1 λd M2=>(isX d=none->Q d M2)/\∀i x,isX d=some (i,x)->e i x M2
section
variable{X:Cx}{Cs:List F0}{e c:K8}{g:List K8}{t:TAd}{S:SpD}{B G nm:Str}{W:F0}{Y:F0->TSd}{te:TXd}{st sa sb:W8}{ta tt:TYd}{tc:TTd}{pos:Pos}
theorem yH{k n:Nat}{p2 p3:Pos}(FX:FnY X.prog X.w X.K X.mg X.base B k n S Cs)(hr:cc k X.A)(a0:Gl X B)(Y:∀e s,¬ X.xe e s)(ha:QAd X (e::g) t)
  (U:(B==("__debug__":Str))=false:=by decide) (he:E9 (e::g) X.env=(false,X7 e X.env)::E9 g X.env:=by rfl) (hpl:(U3 p3 (E9 g X.env)).any (·.1)=false:=by rfl) :
  PXe X Cs (.Call (.Name B p2) (e::g) [] p3) (dXC n S t):=by
 rw[QAd.eq]at ha;intro af s σ H QV Δ M Q XH I sr a1 q kk;obtain⟨f,fd,ps,F,N,a2,O⟩:=FX.ex;refine W4 (il I a0 N ?_ U);refine ag1 (h₀:=X.base) I.ok.mod.kin a2 (O1 (ha p3 af s σ H (λo a=>∃l M1,l.length=n/\S l M1 (λd M2=>(isX d=none->Q d M2)/\∀i x,isX d=some (i,x)->XH i x M2)/\Ext M H M1 a/\HR X.K M1 a/\aq X.K M1 a l o) I
  ⟨Δ,M,_,sr,a1,q,λl M1 o a ⟨P,q1⟩ J j rl=>⟨l,M1,P,q1,J,j,rl⟩⟩) (λL Z hs=>⟨?_,?_⟩) λe s' z=>(Y e s' z).elim) he hpl
 ·obtain⟨o,a,m,_⟩:=hs;exact m.kIn
 obtain⟨o,a,m,rv,l,M1,P,q1,J,j,rl⟩:=hs;have p:spY X.K n S Cs o a QV (λc x G=>∃(i:Nat) (C:F0) (h:DH),c=.ref C/\Cs[i]?=some C/\XH i x h/\Ext M H h G/\HR X.K h G) :=
  ⟨l,M1,_,P,rl,j,q1,λd h v G R T b A=>kk d h v G (R.1 (sk A)) (J.trans T) b A,λi x C h G R hC T b=>⟨i,C,h,rfl,hC,R.2 i x dX,J.trans T,b⟩⟩
 have w:(L++[]).length=ps.length:=by
  rw[S3,<-rv.length];exact F.len _ _ _ _ p
 refine af3 (af4 (F.run X.A X.stack Z a ⟨L,[]⟩ L o _ _ hr m.env0 (by simpa using O Z L m.kIn w) rv p) λr s' E=>?_);cases r with
 |error e=>exact⟨Z,a,m,E⟩
 |ok fl =>
  cases fl with
  |ret u=>exact m.after E
  |next=>exact S1 E
  |brk=>exact S1 E
  |cont=>exact S1 E
def dYA(i:Nat)(te:TXd):TYd:=λE b a M=>te a M (λd M2=>E.nx (a.set i (some d)) M2) b
theorem Bf(i:Nat){x:Str}{h m:Pos}(N:X.N.Nodup)(hi:X.N[i]?=some x)(t:Loc X.env.scope x)(he:PXe X Cs e te)
  (G:af9 e (some (.Name x h)) m.line X.env=ae2 false:=by rfl) (o:X.fn x=true∨X.env.scope.names.lookup x=some .local:=by first|exact .inl rfl|exact .inr rfl|assumption) :
  PTy X Cs (.Assign [.Name x h] e m) (dYA i te):=by
 intro w s l H D L M E C I g n q O;refine wpAny_Assign_Name (thn (he w s l H (λv f=>D.nx (l.set i (some v)) f) L M _ C I g n q λd p v Q B j a b=>O.nx _ p _ Q B j a ((g.ext j).set i b)) λu T R=>?_) G;obtain⟨v,f,J,P,A⟩:=R;exact fJ J N hi t P (λS z=>⟨_,f,z,A⟩) o
def CU(Cs:List F0)(j:Nat)(tt:TYd)(Y:F0->TSd):TSd:=λE b M=>tt E (λi x M2=>∀a,M2 a=none->Y a (BS j E) (b.set j (some (.ref a))) (aG M2 a (exY Cs i x a))) b M
theorem Bi{j:Nat}{p5 p9 a8:Pos}{b0:W8}{x:List W8}(b5:∀e s,¬ X.xe e s)(a4:X.stack=X.env::X.outer)(b4:X.env.frame=some X.env.locals)(hex:X.ex=[])
  (hg:Gl X G) (hm:X.mg G=some (.ref W))
  (lC:∀C∈Cs,∃nm q N bs bm hd sn sub ab col dd k0 k1 k2 k3 k5 newId,X.K.lookup C=some (S6 nm q C N bs bm hd sn sub ab col dd k0 k1 k2 k3 k5 newId)/\(J0 C::bm).contains (.ref W)=true)
  (lW:∃nm q N bs bm hd sn sub ab col dd k0 k1 k2 k3 k5 newId,X.K.lookup W=some (S6 nm q W N bs bm hd sn sub ab col dd k0 k1 k2 k3 k5 newId)/\bm.contains (.type "BaseException")=true)
  (hN:X.N.Nodup) (hj:X.N[j]?=some nm) (Z:X.env.scope.names.lookup nm=some .local) (ha:PTy X Cs st tt) (hb:∀a,QSs (X.caught a) (b0::x) (Y a)) (hdb:(G==("__debug__":Str))=false:=by decide) :
  QSd X (.Try [st] [.ExceptHandler (some (.Name G p5)) (some nm) (b0::x) p9] [] [] a8) (CU Cs j tt Y):=by
 simp only[QSd.eq,QSs.eq]at *
 intro af s σ H D I hh;obtain⟨Δ,M,E,sr,a5,q,kk⟩:=hh;refine wpAny_Try_except (wpAny_execs_cons (O1 (ha af s σ H D Δ M E _ I sr a5 q kk) (λf s1 z=>?_) λev s' z=>?_))
 ·cases f with
  |next=>exact ac6 (ac6 z)
  |ret v=>exact z
  |brk=>exact z
  |cont=>exact z
 ·obtain⟨s1,H1,I1,i,C,y,a,T,w,a',rfl,os,a1,un,a3,h0,Q,b3,fl,L,C',M2,eC,a7,qx,e2,a2⟩:=z;cases eC;refine yK I1 a4 b4 hg hm (lC C (F7 a')) lW os a1 un a3 h0 Q b3 a7 fl hex (λh I3=>?_) hdb;refine fJ I3 hN hj (.inl Z) (v:=.ref a) rfl (λs2 g=>?_) (.inr Z);have J:Inv (X.caught a) af (σ.set j (some (.ref a))) (upd w a (.ext (ExY Cs L y a))) s2:=⟨⟨g.ok.mod,g.ok.kind,g.ok.glob,g.ok.blt,g.ok.above,g.ok.inj,g.ok.has,g.ok.cab,λz=>(by cases z),g.ok.frames,g.ok.stk,g.ok.exf,g.ok.bs,g.ok.bsz,g.ok.noex,g.ok.exfs,g.ok.funs,g.ok.frf⟩,g.os,g.bare,g.base,g.loc,g.cell,g.free,g.freeC,g.pin,g.hok,g.len⟩;have e3:Ext M2 w (aG M2 a (exY Cs L y a)) (upd w a (.ext (ExY Cs L y a))):=Ext.own Q;have b1:HR X.K (aG M2 a (exY Cs L y a)) (upd w a (.ext (ExY Cs L y a))):=a2.put e3 ⟨[],aY,by simp[aq]⟩;have e4:=e2.trans e3;have a9:SR X.K (aG M2 a (exY Cs L y a)) (upd w a (.ext (ExY Cs L y a))) (σ.set j (some (.ref a))) (Δ.set j (some (.ref a))):=(sr.ext e4).set j (by simp[Rep])
  let D2:m5:={ nx:=λm w=>D.nx (m.set j none) w,bk:=λm w=>D.bk (m.set j none) w,ct:=λm w=>D.ct (m.set j none) w,rt:=D.rt }
  have b2:UpE X.K (BS j E) D2 (aG M2 a (exY Cs L y a)) (upd w a (.ext (ExY Cs L y a))) :=
   ⟨λa0 M' m n ⟨P,b,S⟩ U o A=>kk.nx _ P _ n S ((e4.trans U).trans (Ext.le b)) (o.le b) ((A.ext (Ext.le b)).setN j),λa0 M' m n ⟨P,b,S⟩ U o A=>kk.bk _ P _ n S ((e4.trans U).trans (Ext.le b)) (o.le b) ((A.ext (Ext.le b)).setN j),
    λa0 M' m n ⟨P,b,S⟩ U o A=>kk.ct _ P _ n S ((e4.trans U).trans (Ext.le b)) (o.le b) ((A.ext (Ext.le b)).setN j),λd M' v n ⟨P,b,S⟩ U o a6=>kk.rt d P v n S ((e4.trans U).trans (Ext.le b)) (o.le b) (a6.ext (Ext.le b))⟩
  refine O1 (hb a af s2 _ _ D2 J ⟨_,_,_,a9,b1,qx a (a2.fresh Q),b2⟩) (λfl s3 z=>?_) λ_ _ z=>z;have p:∀{t B},Inv (X.caught a) af t B s3->Inv X af t B s3:=λl=>⟨I.ok,l.os,l.bare,l.base,l.loc,l.cell,l.free,l.freeC,l.pin,l.hok,l.len⟩;cases fl with
  |next=>obtain⟨t,B,l,R⟩:=z;exact kU (p l) hN hj Z λs4 O=>⟨_,B,O,R⟩
  |brk=>obtain⟨t,B,l,R⟩:=z;exact kU (p l) hN hj Z λs4 O=>⟨_,B,O,R⟩
  |cont=>obtain⟨t,B,l,R⟩:=z;exact kU (p l) hN hj Z λs4 O=>⟨_,B,O,R⟩
  |ret u=>obtain⟨v2,t,B,l,r2,R⟩:=z;exact kU (p l) hN hj Z λs4 O=>⟨v2,_,B,O,r2,R⟩
end
theorem ExY.c{Cs:List F0}{i:Nat}{y:Option F0}{a:F0}{h:J6}(z:ExY Cs i y a h):∃C,Cs[i]?=some C/\iI C a h:=by
 obtain⟨C,b,o,g,r,_⟩:=z;exact⟨C,b,o,g,r⟩
def yQ(Cs:List F0)(bs:List Bool)(b:TEd):TEd:=λe M Q=>b e M λd M1=>∃a i y,d=.ref a/\M1 a=some (exY Cs i y a)/\Q (.bl (bs.getD i false)) M1
section
variable{X:Cx}{a:K8}{E:TEd}{pos p B:Pos}{Cs:List F0}{bs:List Bool}{T:Str}
theorem pS{c:E1}{vc:V}(Z:∀C∈Cs,uR X.K C)(e:∀(i:Nat) C,Cs[i]?=some C->J4 X.K (.ref C) c=some (bs.getD i false))(b:∀u,aO vc u->u=c):cL X (.builtin "isinstance") (λxs H Q=>∃x i y,xs=[.ref x,vc]/\H x=some (.ext (ExY Cs i y x))/\Q (.bl (bs.getD i false)) H):=by
 intro A s p H xs t Q I o h;obtain⟨x,i,y,rfl,j,q⟩:=h;obtain⟨f,w,rfl,g,n⟩:=aA.two o;cases(show f=J0 x from g);cases b _ n;obtain⟨C,a,l⟩:=(I.hok x _ j).1.c;have z:=Z C (F7 a);exact PySem.W.kia_one (wN z.ga z.gk z.mb z.cl z.ha z.hn z.tk z.mo) I.kIn l (e i C a) (λz=>nomatch z) λm=>⟨.bl (bs.getD i false),H,I.tok m,rfl,q⟩
theorem Ci{f:F0}(Z:∀C∈Cs,uR X.K C)(hg:Gl X "isinstance")(I:X.mg "isinstance"=none)(m:Gl X T)(g:X.mg T=some (.ref f))(e:∀(i:Nat) C,Cs[i]?=some C->J4 X.K (.ref C) (.ref f)=some (bs.getD i false))(ha:QEd X a E)(l:(T==("__debug__":Str))=false:=by decide)
  (n:E9 [a,.Name T B] X.env=(false,X7 a X.env)::E9 [.Name T B] X.env:=by rfl) (j:E9 [.Name T B] X.env=(false,X7 (.Name T B) X.env)::E9 [] X.env:=by rfl) (hpl:(U3 pos (E9 [.Name T B] X.env)).any (·.1)=false:=by rfl) :
  QEd X (.Call (.Name "isinstance" p) [a,.Name T B] [] pos) (yQ Cs bs E):=by
 rw[QEd.eq]at *
 refine(ic (pS (vc:=.ref f) Z e λu h=>h) hg I (by kernel_rfl) (bF ha (bF (oD (v:=.ref f) m g rfl l) dY j) n) (by decide) (by decide) n hpl).conv λP H Q L=>?_;obtain⟨J,M,R,o,s,q,k⟩:=L;refine⟨J,M,_,o,s,q,λd M1 v t ⟨x,i,y,z,w,O⟩ A b N=>?_⟩;subst z;obtain rfl:v=.ref x:=by simpa only[Rep]using N
 obtain⟨S,G,_⟩:=b x _ w;exact⟨x,i,y,rfl,G,k _ M1 _ t O A b (by simp[Rep])⟩
theorem fC(Z:∀C∈Cs,uR X.K C)(hg:Gl X "isinstance")(l:X.mg "isinstance"=none)(e:Gl X T)(h:∃g,X.mg T=some (.ref g)/\∀(i:Nat) C,Cs[i]?=some C->J4 X.K (.ref C) (.ref g)=some (bs.getD i false))(ha:QEd X a E)(f:(T==("__debug__":Str))=false:=by decide)
  (m:E9 [a,.Name T B] X.env=(false,X7 a X.env)::E9 [.Name T B] X.env:=by rfl) (b:E9 [.Name T B] X.env=(false,X7 (.Name T B) X.env)::E9 [] X.env:=by rfl) (hpl:(U3 pos (E9 [.Name T B] X.env)).any (·.1)=false:=by rfl) :
  QEd X (.Call (.Name "isinstance" p) [a,.Name T B] [] pos) (yQ Cs bs E):=by
 obtain⟨g,n,j⟩:=h;exact Ci Z hg l e n j ha f m b hpl
theorem BC{Tn:String}(Z:∀C∈Cs,uR X.K C)(hg:Gl X "isinstance")(J:X.mg "isinstance"=none)(n:Gl X T)(f:X.mg T=none)(m:W0 T=some (.type Tn))(e:∀(i:Nat) C,Cs[i]?=some C->J4 X.K (.ref C) (.type Tn)=some (bs.getD i false))(ha:QEd X a E)(j:T≠"__name__":=by decide)(l:(T==("__debug__":Str))=false:=by decide)
  (o:E9 [a,.Name T B] X.env=(false,X7 a X.env)::E9 [.Name T B] X.env:=by rfl) (g:E9 [.Name T B] X.env=(false,X7 (.Name T B) X.env)::E9 [] X.env:=by rfl) (hpl:(U3 pos (E9 [.Name T B] X.env)).any (·.1)=false:=by rfl) :
  QEd X (.Call (.Name "isinstance" p) [a,.Name T B] [] pos) (yQ Cs bs E):=by
 rw[QEd.eq]at *
 refine(ic (pS (vc:=.ty Tn) Z e λu h=>h) hg J (by kernel_rfl) (bF ha (bF (sM (v:=.ty Tn) n f m rfl j l) dY g) o) (by decide) (by decide) o hpl).conv λS H Q N=>?_;obtain⟨L,M,R,s,t,q,k⟩:=N;refine⟨L,M,_,s,t,q,λd M1 v w ⟨x,i,y,A,z,P⟩ G b O=>?_⟩;subst A;obtain rfl:v=.ref x:=by simpa only[Rep]using O
 obtain⟨U,I,_⟩:=b x _ z;exact⟨x,i,y,rfl,I,k _ M1 _ w P G b (by simp[Rep])⟩
structure Dk(K:E2) (C:F0) (f:Str):Prop where
 hd:PySem.W.hasDictIn K C=true
 fn:O6 K (.ref C) f=some none
def CW(Cs:List F0)(i:Nat)(f:Str)(E:TEd):TEd:=λe M Q=>E e M λd M1=>∃a b z,d=.ref a/\M1 a=some (exY Cs i (some b) a)/\M1 b=some (qS f b z)/\Q z M1
theorem Dv(i:Nat){C:F0}{f:Str}(hC:Cs[i]?=some C)(Z:uR X.K C)(G:Dk X.K C f)(he:QEd X a E)(hb:U6 a f X.env (X7 a X.env)=X7 a X.env:=by rfl):QEd X (.Attribute a f pos) (CW Cs i f E):=by
 rw[QEd.eq]at *
 intro af s σ H Q I hh;obtain⟨Δ,M,R,T,U,q,k⟩:=hh;refine xP hb (thn (he af s σ H (λv e=>∃x h z w M1,v=.ref x/\e x=some (.ext (ExY Cs i (some h) x))/\e h=some (.ext (kG f h w))/\Ext M H M1 e/\HR X.K M1 e/\Rep X.K M1 e z w/\R z M1) I ⟨Δ,M,_,T,U,q,λd M1 v e ⟨x,h,z,ed,em,ef,B⟩ p b N=>?_⟩) λu s1 ⟨v,e,n,N,x,h,z,w,M1,ev,L,A,p,b,rz,B⟩=>?_)
 ·subst ed;obtain rfl:v=.ref x:=by simpa only[Rep]using N
  obtain⟨S,L,_⟩:=b x _ em;obtain⟨ws,hw,l⟩:=b h _ ef;simp only[aq]at l;obtain⟨w,a0,rfl,r1,rfl⟩:=l;exact⟨x,h,z,w,M1,rfl,L,hw,p,b,r1,B⟩
 ·subst ev;obtain rfl:u=J0 x:=N;obtain⟨C',j,o,g,r⟩:=(n.hok x _ L).1;rw[hC]at j;cases j;obtain⟨o2,u2,Y,l2,P⟩:=(n.hok h _ A).1;obtain⟨⟨O,S,m,_⟩,t⟩:=r;have J:PySem.W.InstAt s1.heap x o C (some o2):=⟨g,O,by unfold PySem.W.notCls;rw[m],by rw[t];exact Y⟩;exact AL n.kIn J Z.ga Z.gk Z.mb ⟨o,g,O,S,m,by assumption⟩ (PySem.W.findObj_own G.hd G.fn rfl l2) (ud P) ⟨w,e,n.tok _,P,k z M1 w e B p b rz⟩
end
section
variable{P:K3}{w:Q5}{K:E2}{B:Str->Option E1}{base:J6}{N:List Str}{z:Str}{g:ac4}{f:F0}{cd:E1}{A:M9}{y:List Env}{s:E6}{H:Hp}{E:XK}{Cs:List F0}
theorem vy:jT (CX2 P w Cs) (jq (CX2 P w Cs) P w K B base N z g f cd A y s H E) (λc x b=>∀C,c=.ref C->E (.ref C) x b):=λo u l t e R I h =>
 DU o u l t e R I (let⟨i,C,x,a,T,b,Q,O,n,G,M,p,J,L,m,j,q⟩:=h;⟨i,C,x,a,T,b,Q,O,n,G,M,p,J,L,m,j,q C rfl⟩)
end
theorem ix2{p:Nat->F0->Prop}{a b:F0}(f:p 0 a)(g:p 1 b):∀(i:Nat) C,[a,b][i]?=some C->p i C
 |0,_,e=>by cases e;exact f
 |1,_,e=>by cases e;exact g
 |_+2,_,e=>by simp at e
theorem al2{p:F0->Prop}{a b:F0}(e:p a)(f:p b):∀C∈[a,b],p C:=λC h=>by
 rcases I0.mp h with rfl|h
 ·exact e
 ·cases O9.mp h;exact f
section
variable{X:Cx}{XW:F0->Option F0->Hp->Prop}{Cs:List F0}{e:K8}{g:List K8}{t:TAd}{S:SpD}{y:Str}
def zR(n:Nat)(S:SpD)(t:TAd):TSd:=λE a M=>t a M λb M1=>b.length=n/\S b M1 λd M2=>(isX d=none->E.nx a M2)/\∀i x,isX d=some (i,x)->E.rt (xA i x) M2
theorem rk{k n:Nat}{L l pos:Pos}(N:FnY X.prog X.w X.K X.mg X.base y k n S Cs)(hr:cc k X.A)(m:Gl X y)(U:jT (CX2 X.prog X.w Cs) X λc x b=>∀C,c=.ref C->XW C x b)(ha:QAd X (e::g) t)
  (hdb:(y==("__debug__":Str))=false:=by decide) (he:E9 (e::g) X.env=(false,X7 e X.env)::E9 g X.env:=by rfl) (hpl:(U3 l (E9 g X.env)).any (·.1)=false:=by rfl)
  (Q:af9 (.Call (.Name y L) (e::g) [] l) none pos.line X.env=ae2 false:=by rfl) :
  PSy X Cs XW (.Expr (.Call (.Name y L) (e::g) [] l) pos) (zR n S t):=by
 rw[QAd.eq]at ha;obtain⟨f,fd,ps,F,s,A,w⟩:=N.ex;exact(oW (tF F hr m s A w .nil U ha hdb he hpl) Q).conv λD σ H ⟨J,M,E,B,o,q,R,x⟩=>⟨J,M,_,B,o,q,λds M1 vs H1 ⟨Z,T⟩ i u rv=>by
  dsimp only;rw[S3];exact⟨ds,M1,_,Z,rv,u,T,λd p v b j h a z=>R.nx J p σ b (j.1 (sk z)) (i.trans h) a (B.ext (i.trans h)),λI G O p b j P h a C1 Y=>by cases Y;exact x I G O p b (j.2 I G dX) P (i.trans h) a⟩⟩
end
def vQ(Cs:List F0)(a:F0)(te:TEd):TEd:=λe M Q=>te e M λd M1=>∃i y,M1 a=some (exY Cs i y a)/\∃b,d=.lst b/\b.all kR=true/\Q (.bl (b.any iH)) M1
section
variable{X:Cx}{Cs:List F0}{a:F0}{p pos:Pos}{x:K8}{te:TEd}
theorem um(R:X.A.in1.handled=some (.ref a)):cL X (.builtin "any") (λxs H Q=>∃v ds M i y,xs=[v]/\HR X.K M H/\Rep X.K M H (.lst ds) v/\M a=some (exY Cs i y a)/\ds.all kR=true/\Q (.bl (ds.any iH)) H):=by
 intro G s O H xs Y Q I j h;obtain⟨v,ds,M,i0,y0,rfl,E,r,B,N,U⟩:=h;obtain⟨u,rfl,T⟩:=aA.one j;obtain⟨l,vs,rfl,sq,t⟩:=r;cases(show u=J0 l from T);obtain⟨g,j,w,hz⟩:=I.list (SqL.of sq.1);obtain⟨ws,f,_⟩:=E a _ B;obtain⟨C,_,J⟩:=(I.hok a _ f).1.c;have m:l≠s.heap.objs.size:=K4 (I.hok.lt sq.1);have n:a≠s.heap.objs.size:=K4 (I.hok.lt f);refine call_any_walk (U2 w.isList ⟨s.heap.objs.size,[s.heap.objs.size,l,a],[s.heap.objs.size],g.toArray.size,_,_,λi=>(ds[i]?.map iH).getD false,rfl,DK (C:=C) (A:=X.A.in1) (e:=a) R s.heap.objs.size l m n g.toArray,⟨⟨_,F9 _ rfl,rfl,rfl⟩,?_,?_⟩,λi v s' Q' Z z q=>?_,λL x S=>?_⟩)
 ·obtain⟨o,e,c⟩:=w.isList;exact⟨o,u8 _ e,c⟩
 ·exact J.kept λo q=>u8 _ q
 ·obtain⟨d,p,rfl⟩:=l8 t j N (i:=i) (u:=v) (by simpa using z);dsimp only at q;rw[p]at q;exact O2 q
 ·have P:Inv X G O H { s with heap:=L,toks:=x }:=I.kept (t':=x) λb o e=>S b o (by simpa using K4 (F8 e)) (u8 _ e);refine⟨.bl _,H,P,rfl,?_⟩;rw[E8,<-j.length,<-t.length,nv (q:=iH) (λi d p=>by simp[p])];exact U
theorem AE(e:X.A.in1.handled=some (.ref a))(hg:Gl X "any")(u:X.mg "any"=none)(ha:PEd X x te)
  (f:E9 [x] X.env=(false,X7 x X.env)::E9 [] X.env:=by rfl) (hpl:(U3 pos (E9 [] X.env)).any (·.1)=false:=by rfl) :
  PEd X (.Call (.Name "any" p) [x] [] pos) (vQ Cs a te):=by
 refine(ic (um (Cs:=Cs) e) hg u (by kernel_rfl) (bF ha dY f) (by decide) (by decide) f hpl).conv λB H Q e=>?_;obtain⟨i,M,R,g,h,q,k⟩:=e;refine⟨i,M,_,g,h,q,λd M1 v j ⟨s,z,l,o,m,w,A⟩ n b t=>?_⟩;subst m;exact⟨v,o,M1,s,z,rfl,b,t,l,w,k _ M1 _ j A n b (by simp[Rep])⟩
theorem Bk(f:X.A.in1.handled=some (.ref a))(hg:Gl X "any")(b:X.mg "any"=none)(ha:QEd X x te)
  (e:E9 [x] X.env=(false,X7 x X.env)::E9 [] X.env:=by rfl) (hpl:(U3 pos (E9 [] X.env)).any (·.1)=false:=by rfl) :
  QEd X (.Call (.Name "any" p) [x] [] pos) (vQ Cs a te):=by
 rw[QEd.eq]at *
 exact AE f hg b ha e hpl
end
end L2
namespace L2
open PySem PySem.Spec PySem.Calls PyProof.Rows PySem.SeqAt
end L2
namespace L2
open PySem PySem.Spec PySem.Calls PyProof.Rows
section
variable{X:Cx}
def Dn:D->Option D
 |.int i=>if i.natAbs.log2<1920 then some (.str (am8 i))else none
 |_=>none
theorem wg{i:Int}:Dn (.int i)=if i.natAbs.log2<1920 then some (.str (am8 i))else none:=rfl
theorem Al:bE X (.type "str") (m9 Dn):=bE.of oG λH M j l g Q b f e q=>by
 obtain⟨d,rfl,a⟩:=cK e;clear e;have e:=a;clear a;obtain⟨v,rfl,r⟩:=kE f;cases d with
 |int i =>
  rw[wg]at e
  by_cases h:i.natAbs.log2<1920
  ·rw[if_pos h]at e;cases e;exact⟨i,by rw[fQ r],h,q _ H (Ext.refl _ _) b (by simp[Rep])⟩
  ·rw[if_neg h]at e;cases e
 |_=>cases e
end
end L2
namespace My
open PySem PySem.Spec PyProof.Rows L2
noncomputable def top(i:Nat):W8:=PySem.Challenge.pw_wordwishes_k51_mirrored_drawings_refused.main.body.getD i (.Pass ⟨0,0,0,0⟩)
abbrev fX:W8:=top 3
abbrev dZ:W8:=top 4
abbrev bX:W8:=top 5
abbrev dG:W8:=top 7
abbrev gR:W8:=top 8
abbrev eW:W8:=top 10
abbrev ji:W8:=top 11
abbrev jf:W8:=top 13
abbrev cM:W8:=top 14
abbrev cR:W8:=top 15
abbrev cO:W8:=top 16
abbrev eD:W8:=top 29
abbrev fZ:W8:=top 30
abbrev eE:W8:=top 31
abbrev bK:W8:=top 32
abbrev eQ:W8:=top 34
abbrev dj:W8:=top 36
abbrev cy:W8:=top 38
abbrev cf:W8:=top 39
abbrev bU:W8:=top 40
abbrev dF:W8:=top 42
abbrev bA:W8:=top 43
abbrev jO:W8:=top 45
abbrev fo:W8:=top 46
abbrev k6:W8:=top 47
abbrev hV:W8:=top 48
abbrev fG:W8:=top 49
abbrev ph:W8:=top 50
abbrev iy:W8:=top 51
abbrev dg:W8:=top 52
abbrev lw:W8:=top 53
abbrev mF:W8:=top 54
abbrev i6:W8:=top 55
abbrev j7:W8:=top 56
abbrev cV:W8:=top 57
abbrev ik:W8:=top 58
abbrev pk:W8:=top 59
abbrev mm:W8:=top 60
abbrev xN:W8:=top 61
abbrev oi:List Str:=["thing"]
theorem iT:ay oi ["thing"] (ak fX):=fsc
abbrev kS:List Str:=["thing","many"]
theorem fK:ay kS ["thing","many"] (ak dZ):=fsc
abbrev c9:List Str:=["thing"]
theorem eY:ay c9 ["thing"] (ak bX):=fsc
noncomputable abbrev j3:List Str:=["pairs","mark","reached","at","low","high"]
theorem fu:ay j3 ["pairs","mark"] (ak dG):=fsc
abbrev qB:List Str:=["order","one","other"]
theorem jr:ay qB ["order","one","other"] (ak gR):=fsc
abbrev mn:List Str:=["order","turn","one","other"]
theorem gq:ay mn ["order","turn","one","other"] (ak eW):=fsc
abbrev qO:List Str:=["order","one","other"]
theorem kA:ay qO ["order","one","other"] (ak ji):=fsc
abbrev qZ:List Str:=["thing","many"]
theorem ko:ay qZ ["thing","many"] (ak jf):=fsc
abbrev cv:List Str:=["thing","many","ends"]
theorem iK:ay cv ["thing","many"] (ak cM):=fsc
abbrev bH:List Str:=["arcs"]
theorem gy:ay bH ["arcs"] (ak cR):=fsc
abbrev cU:List Str:=["order","row","arcs"]
theorem gx:ay cU ["order","row","arcs"] (ak cO):=fsc
abbrev eB:List Str:=["lexicon"]
theorem iN:ay eB ["lexicon"] (ak eD):=fsc
abbrev pd:List Str:=["lexicon","thing"]
theorem iL:ay pd ["lexicon","thing"] (ak fZ):=fsc
abbrev om:List Str:=["lexicon","word"]
theorem dO:ay om ["lexicon","word"] (ak eE):=fsc
abbrev gn:List Str:=["lexicon","words","word"]
theorem cJ:ay gn ["lexicon","words"] (ak bK):=fsc
abbrev ma:List Str:=["lexicon"]
theorem gr:ay ma ["lexicon"] (ak eQ):=fsc
abbrev bM:List Str:=["lexicon","words","choice","kinds","signs"]
theorem iM:ay bM ["lexicon","words","choice"] (ak dj):=fsc
abbrev bR:List Str:=["lexicon","words","thing"]
theorem g9:ay bR ["lexicon","words","thing"] (ak cy):=fsc
abbrev gP:List Str:=["lexicon","words","thing"]
theorem dq:ay gP ["lexicon","words","thing"] (ak cf):=fsc
abbrev gF:List Str:=["lexicon","words","thing"]
theorem cT:ay gF ["lexicon","words","thing"] (ak bU):=fsc
abbrev jR:List Str:=["arc","last","left","right"]
theorem fm:ay jR ["arc","last"] (ak dF):=fsc
abbrev cp:List Str:=["lexicon","words","drawing","choice","arcs","last"]
theorem dD:ay cp ["lexicon","words","drawing"] (ak bA):=fsc
abbrev ur:List Str:=["_law_cell","_law_sizes","_law_found","_law_size","_law_seed"]
theorem lH:ay ur ["_law_cell","_law_sizes"] (ak jO):=fsc
abbrev gJ:List Str:=["_law_xs","_law_amount","_law_alphabet","_law_found","_law_k","_law_rest"]
theorem jy:ay gJ ["_law_xs","_law_amount"] (ak fo):=fsc
abbrev vi:List Str:=["_law_order","_law_one","_law_other","_law_found","_law_at","_law_low","_law_high"]
theorem nX:ay vi ["_law_order","_law_one","_law_other"] (ak k6):=fsc
abbrev qF:List Str:=["_law_xs","_law_amount","_law_held","_law_found","_law_left","_law_place"]
theorem jv:ay qF ["_law_xs","_law_amount"] (ak hV):=fsc
abbrev fN:List Str:=["_law_xs","_law_arcs","_law_marks","_law_order","_law_goal","_law_near","_law_one","_law_other","_law_found","_law_k","_law_turn","_law_below"]
theorem lb:ay fN ["_law_xs","_law_arcs","_law_marks","_law_order","_law_goal"] (ak fG):=fsc
abbrev yZ:List Str:=["_law_xs","_law_signs_here","_law_found","_law_left","_law_size"]
theorem qa:ay yZ ["_law_xs","_law_signs_here"] (ak ph):=fsc
abbrev jX:List Str:=["_law_kind","_law_xs","_law_marks","_law_kinds_here","_law_more"]
theorem l9:ay jX ["_law_kind","_law_xs","_law_marks"] (ak iy):=fsc
abbrev cW:List Str:=["_law_cell","_law_xs","_law_marks","_law_words","_law_k","_law_pairs","_law_order","_law_goal","_law_arcs","_law_signs_here","_law_cuts","_law_entries","_law_choice","_law_kinds_here"]
theorem iU:ay cW ["_law_cell"] (ak dg):=fsc
abbrev xo:List Str:=["_law_thing","_law_way","_law_odd"]
theorem nU:ay xo ["_law_thing","_law_way"] (ak lw):=fsc
abbrev wf:List Str:=["_law_thing","_law_xs","_law_some","_law_at","_law_other"]
theorem nG:ay wf ["_law_thing","_law_xs"] (ak mF):=fsc
abbrev qR:List Str:=["_law_order","_law_one","_law_other"]
theorem kz:ay qR ["_law_order","_law_one","_law_other"] (ak i6):=fsc
abbrev uJ:List Str:=["_law_thing"]
theorem lg:ay uJ ["_law_thing"] (ak j7):=fsc
abbrev eV:List Str:=["_law_order","_law_row","_law_arcs","_law_ends","_law_arc","_law_one"]
theorem gB:ay eV ["_law_order","_law_row","_law_arcs"] (ak cV):=fsc
abbrev iA:List Str:=["_law_lexicon","_law_words","_law_drawing","_law_choice","_law_arcs","_law_row","_law_k","_law_kinds_here"]
theorem me:ay iA ["_law_lexicon","_law_words","_law_drawing"] (ak ik):=fsc
abbrev yq:List Str:=["_law_drawing","_law_last","_law_found","_law_low","_law_high"]
theorem qz:ay yq ["_law_drawing"] (ak pk):=fsc
abbrev v8:List Str:=["_law_lexicon","_law_words","_law_drawing","_law_seen_here","e","_law_others"]
theorem nj:ay v8 ["_law_lexicon","_law_words","_law_drawing"] (ak mm):=fsc
abbrev DN:List Str:=["_law_script","_law_cell","_law_lexicon","_law_words","_law_drawing","_law_xs","_law_asked","_law_due_here","_law_odd"]
theorem vU:ay DN ["_law_script"] (ak xN):=fsc
abbrev iw:W8:=DL (top 21) 0
theorem vW:ay ["self","word"] ["self","word"] (ak iw):=fsc
theorem vh{P:K3}{w:Q5}{K:E2}{g:Str->Option E1}{base:J6}{C W j f:F0}{i:J7}(F:Fun K "__init__" "NoWord.__init__" iw f i)(Y:mL K g "NoWord" "WishError" "word" C W j):aU P w K g base CX0 1 f i ["self","word"] (spF "word" C):=by
 refine F.ok vW (λm H Q E h=>?_) (λl A a s H m Q E n h=>⟨_,mz (oW (B7 Y 0 rfl (pv 0) wm)) (pe (CL Y 0 1 (pv 0) (pv 1))),?_⟩)
 ·obtain⟨e,v,rfl,_⟩:=h;rfl
 ·obtain⟨e,v,rfl,b,q⟩:=h;exact⟨e,rfl,b,e,v,rfl,rfl,b,q⟩
structure uy(K:E2) (mg:Str->Option E1) (C0 C1 W fI0:F0):Prop where
 p0:mL K mg "NoWord" "WishError" "word" C0 W fI0
 g0:Dk K C0 "word"
 p1:BH K mg "NoDrawing" C1 W
 gH:mg "WishError"=some (.ref W)
 lC:∀C∈[C0,C1],∃nm q N bs bm hd sn sub ab col dd k0 k1 k2 k3 k5 newId,K.lookup C=some (S6 nm q C N bs bm hd sn sub ab col dd k0 k1 k2 k3 k5 newId)/\(J0 C::bm).contains (.ref W)=true
 lW:∃nm q N bs bm hd sn sub ab col dd k0 k1 k2 k3 k5 newId,K.lookup W=some (S6 nm q W N bs bm hd sn sub ab col dd k0 k1 k2 k3 k5 newId)/\bm.contains (.type "BaseException")=true
 z:∀C∈[C0,C1],uR K C
 k_ValueError:∀(i:Nat) C,[C0,C1][i]?=some C->J4 K (.ref C) (.type "ValueError")=some ([true,true].getD i false)
 k_NoWord:∃C2,mg "NoWord"=some (.ref C2)/\∀(i:Nat) C,[C0,C1][i]?=some C->J4 K (.ref C) (.ref C2)=some ([true,false].getD i false)
 k_NoDrawing:∃C2,mg "NoDrawing"=some (.ref C2)/\∀(i:Nat) C,[C0,C1][i]?=some C->J4 K (.ref C) (.ref C2)=some ([false,true].getD i false)
 k_NoKept:∃C2,mg "NoKept"=some (.ref C2)/\∀(i:Nat) C,[C0,C1][i]?=some C->J4 K (.ref C) (.ref C2)=some ([false,false].getD i false)
 k_NoLexicon:∃C2,mg "NoLexicon"=some (.ref C2)/\∀(i:Nat) C,[C0,C1][i]?=some C->J4 K (.ref C) (.ref C2)=some ([false,false].getD i false)
 k_NoNumber:∃C2,mg "NoNumber"=some (.ref C2)/\∀(i:Nat) C,[C0,C1][i]?=some C->J4 K (.ref C) (.ref C2)=some ([false,false].getD i false)
 k_NoRow:∃C2,mg "NoRow"=some (.ref C2)/\∀(i:Nat) C,[C0,C1][i]?=some C->J4 K (.ref C) (.ref C2)=some ([false,false].getD i false)
 k_NoStep:∃C2,mg "NoStep"=some (.ref C2)/\∀(i:Nat) C,[C0,C1][i]?=some C->J4 K (.ref C) (.ref C2)=some ([false,false].getD i false)
 k_NoText:∃C2,mg "NoText"=some (.ref C2)/\∀(i:Nat) C,[C0,C1][i]?=some C->J4 K (.ref C) (.ref C2)=some ([false,false].getD i false)
 k_NoWorld:∃C2,mg "NoWorld"=some (.ref C2)/\∀(i:Nat) C,[C0,C1][i]?=some C->J4 K (.ref C) (.ref C2)=some ([false,false].getD i false)
structure Txt(mg:Str->Option E1):Prop where
 b_isinstance:mg "isinstance"=none
 b_int:mg "int"=none
 b_bool:mg "bool"=none
 b_tuple:mg "tuple"=none
 b_len:mg "len"=none
 b_str:mg "str"=none
 b_all:mg "all"=none
 b_sorted:mg "sorted"=none
 b_list:mg "list"=none
 b_range:mg "range"=none
 b_any:mg "any"=none
 b_zip:mg "zip"=none
 b_max:mg "max"=none
 b_ValueError:mg "ValueError"=none
 b_abs:mg "abs"=none
 g_SMALL_LETTERS:∃t,mg "SMALL_LETTERS"=some (.str "abcdefghijklmnopqrstuvwxyz" t)
 g_MOST_LETTERS:∃t,mg "MOST_LETTERS"=some (.int 8 t)
set_option hygiene false in
local macro_rules|`(tactic| walk_at"")=>`(tactic| simp only[wg,CU,dYA,dXC,yQ,CW,vQ,zR,sA,tH,BS,BG,yX,BW,zF,xp,fA,dC,wA,pF,DB,zS,zW,dOp,dUn,mX,Dh,sV,zP,dCB,zQ,CV,C9,zV,DW,B0,zr,sG,CF,CN,Da,dIf,qD,AM,uS,pL,vp,B6,Di,vB,zJ,zH,zK,zT,Ac,xc,A9,zz,vf,rE,oN,Ck,Dq,Dz,HD.dKr.injEq,yJ,HD.dT.injEq,HD.dK.injEq,C5,Dj,uT,oy,vV,dLc,za,dLR,xy,C6,
 zt,A3,yA,y8,zj,ze,xS,yf,BD,zk,yg,sj,zp,Df,Cr,Cc,C7,CG,CA,xK,Bq,AV,Ar,Bz,Aq,Av,Ax,AY,pf,Bm,By,Dw,DX,Dp,CM,A5,AK,CK,Cd,Cq,wH,vR,xj,v7,BZ,Cf,DP,DM,Dl,Cg,C8,zM,Do,zg,uG,Bt,bj,eZ,
 gj,J1,ak2,List.cons_append,L6,Q6,Z1,F3,List.set_cons_zero,List.set_cons_succ,List.getElem?_cons_zero,X1,T5.injEq,exists_eq_left',exists_eq_left,D.int.injEq,D.bl.injEq,D.str.injEq,D.ref.injEq,D.tup.injEq,D.lst.injEq,true_and,and_true,if_true,decide_eq_true_eq,exists_and_left,Nat.zero_add,Nat.reduceAdd,Nat.reduceSub,CC,CI,vP,DJ,HD.lst.injEq,N0,or_true,true_or,and_self,↓reduceIte,Int.reduceLT,Int.reduceLE,Int.reducePow,Int.reduceNeg,Int.reduceToNat,Nat.reducePow,Nat.reduceLT,Nat.reduceLeDiff,Int.reduceAdd,Int.reduceMul,Int.reduceSub,F1,Bool.true_eq_false,if_false])
section
variable{P:K3}{w:Q5}{K:E2}{g:Str->Option E1}{base:J6}{f:F0}{z:J7}
theorem jj{xs:List D}{n:Nat}:L2.cY xs none (some (n:Int))=xs.take n:=by
 unfold L2.cY;rw[HT.sIx_none,HT.sIx_nat,List.drop_zero,Nat.sub_zero]
 by_cases h:n<=xs.length
 ·rw[Nat.min_eq_left h]
 ·rw[Nat.min_eq_right (by lia),ae6,R8 (by lia)]
theorem fF{xs:List D}{n:Nat}:L2.cY xs (some (n:Int)) none=xs.drop n:=by
 unfold L2.cY;rw[HT.sIx_none,HT.sIx_nat]
 by_cases h:n<=xs.length
 ·rw[Nat.min_eq_left h,R8 (by simp)]
 ·rw[Nat.min_eq_right (by lia),Nat.sub_self,List.take_zero,List.drop_of_length_le (by lia)]
theorem cm{lo:Int}{n:Nat}:(mY lo n).length=n:=by simp[mY]
def aS(x:Str×Str):D:=.tup [.str x.1,.str x.2]
theorem eK{M:DH}{p q:F0}{a b:HD}(h:p≠q):aG (aG M p a) q b=aG (aG M q b) p a:=by
 funext c;unfold aG
 by_cases e:c=q
 ·subst e;simp[T7 h]
 ·by_cases f:c=p
  ·subst f;simp[h]
  ·simp[e,f]
inductive cz (ord:List (Str×Str)) (a:Str):Str->Prop
 |refl:cz ord a a
 |step {b c:Str}:cz ord a b->(b,c)∈ord->cz ord a c
theorem pI{ord:List (Str×Str)}{a x:Str}{L:List Str}(e:a∈L)(b:∀y∈ord,y.1∈L->y.2∈L)(h:cz ord a x):x∈L:=by
 induction h with
 |refl=>exact e
 |step _ f ih=>exact b _ f ih
def fH:SpD:=λb M R=>∃(ord:List (Str×Str)) (a:Str),b=[.tup (ord.map aS),.str a]/\ord.length<=500 /\
 ∀L:List Str,a∈L->(∀y∈ord,y.1∈L->y.2∈L)->(∀x∈L,cz ord a x)->L.length<=ord.length+1->R (.lst (L.map .str)) M
abbrev tIn:TSd:=wA (sV (mX (dOp eqF (fA 4) (dOp ixD (fA 2) (fA 3)))) (mX (dOp (inE true) (fA 5) (fA 2)))) (sG (zr (fA 2) (fA 5))) pF
theorem iz{q:F0}{E:dP}{M:DH}(O:M q=none)(ps:D)(a:Str)(ord:List (Str×Str))(g:ord.length<=500)(i:Nat)(j:List Str)(hi:i<j.length):∀(e done:List (Str×Str)) (C G:Option D) (L:List Str),ord=done++e->(∃t,L=j++t)->L.Nodup->(∀x∈L,cz ord a x)->(∀x∈L,x∈a::ord.map (·.2))->(∀y∈done,y.1=j[i]->y.2∈L) ->
  (∀(Y T:Option D) (w:List Str),(∃t,w=j++t)->w.Nodup->(∀x∈w,cz ord a x)->(∀x∈w,x∈a::ord.map (·.2))->(∀y∈ord,y.1=j[i]->y.2∈w)->E.nx [some ps,some (.str a),some (.ref q),some (.int i),Y,T] (aG M q (.lst (w.map .str)))) ->
  bN (eX (cg (ck 4) (cg (ck 5) fD)) 2) tIn E (e.map aS) [some ps,some (.str a),some (.ref q),some (.int i),C,G] (aG M q (.lst (L.map .str)))
 |[],done,C,G,L,I,m,p,o,s,B,k=>by
  simp only[ak2,bN];exact k C G L m p o s (by rw[I,S3];exact B)
 |(b,c)::e,done,C,G,L,I,⟨t,m⟩,p,o,s,B,k=>by
  have z:i<L.length:=by rw[m];simp;lia
  have Q:L[i]=j[i]:=by subst m;simp[hi]
  have J:atI (L.map D.str) (i:Int)=some (.str L[i]):=aE (by simp[z]);have Z:L.length<=ord.length+1:=by
   have:=eM L (a::ord.map (·.2)) p s;simpa using this
  simp only[J1,aS,bN,eX,cg,ck,fD,V2];refine⟨_,rfl,?_⟩;walk_at"";refine⟨_,J,?_⟩;walk_at"";have n:ord=(done++[(b,c)])++e:=by rw[I];simp
  have l:(b,c)∈ord:=by rw[I];simp
  refine aT (λh=>?_) (λh=>?_)
  ·have R:b=j[i]:=by rw[<-Q];simpa using h
   refine⟨_,if_pos ⟨rfl,jB⟩,_,rfl,?_⟩;rw[gK]
   by_cases H:c∈L
   ·simp only[H,decide_true,Bool.xor_true,al7,F1,if_false];exact iz O ps a ord g i j hi e (done++[(b,c)]) _ _ L n ⟨t,m⟩ p o s (λy A f=>by
     rcases K0.mp A with h|h
     ·exact B y h f
     ·have:y=(b,c):=by simpa using h
      subst this;exact H) k
   ·simp only[H,decide_false,Bool.xor_false,if_true];refine⟨by rw[E3];exact F6 (by lia:L.length<1000) (sz3 1000),?_⟩;have U:L.map D.str++[D.str c]=(L++[c]).map D.str:=by simp
    rw[U];refine iz O ps a ord g i j hi e (done++[(b,c)]) _ _ (L++[c]) n ⟨t++[c],by rw[m];simp⟩ ?_ (λx P=>?_) (λx P=>?_) (λy A f=>?_) k
    ·rw[List.nodup_append];refine⟨p,by simp,λu X v S=>?_⟩;have:v=c:=by simpa using S
     subst this;rintro rfl;exact H X
    ·rcases K0.mp P with h|h
     ·exact o x h
     ·have:x=c:=by simpa using h
      subst this;exact cz.step (o b (by rw[R,<-Q];exact P0 z)) l
    ·rcases K0.mp P with h|h
     ·exact s x h
     ·have:x=c:=by simpa using h
      subst this;exact K2 _ (O0.mpr ⟨_,l,rfl⟩)
    ·rcases K0.mp A with h|h
     ·exact N7 _ (B y h f)
     ·have:y=(b,c):=by simpa using h
      subst this;simp
  ·exact iz O ps a ord g i j hi e (done++[(b,c)]) _ _ L n ⟨t,m⟩ p o s (λy A f=>by
    rcases K0.mp A with N|N
    ·exact B y N f
    ·have:y=(b,c):=by simpa using N
     subst this;exact absurd (by rw[Q];simpa using f) h) k
theorem jC(F:Fun K "reached_from" "reached_from" dG f z)(T:Txt g):aU P w K g base CX0 1 f z ["pairs","mark"] (spD K 2 fH):=by
 have n:=fu.nd;refine F.okR rfl fu (λa0 A J s H E hr=>⟨_,(ai (aF (i:=2) n rfl (L7 rfl) (dI (ae (aa 1) ag)))
   (ai (aF (i:=3) n rfl (L7 rfl) ah)
   (ai (oH O5 (aH gV (aa 3) (av ba rfl T.b_len (by kernel_rfl) (ae (aa 2) ag)) nbh) (ai (fq O5 rfl (bb (aa 0)) (iS rfl (bD (aR (i:=4) n rfl (L7 rfl)) (bD (aR (i:=5) n rfl (L7 rfl)) iV))) (ao (aZ (fE (gO (aH (fb hr.units) (aa 4) (aB aC (aa 2) (aa 3) (λ_ _=>rfl)) nbh) (fU (aH kY (aa 5) (aa 2) rfl)))) (ao (cF (gu (aa 2) (aa 5)))) aN)))
   (ao (CY (i:=3) n rfl (L7 rfl) ah As))))
   (ao (lG (aa 2)))))),λds M R _ hS bk=>?_⟩)
 obtain⟨ord,a,rfl,ho,k⟩:=hS;refine bk ?_;clear bk;walk_at"";refine⟨sz3 1,λq hq=>?_⟩;refine⟨λm Δ Y=>∃(i:Nat) (L:List Str) (p G:Option D),Δ=[some (D.tup (ord.map aS)),some (D.str a),some (D.ref q),some (D.int i),p,G]/\Y=aG M q (.lst (L.map .str))/\i<=L.length/\L.Nodup/\a∈L/\(∀x∈L,cz ord a x)/\(∀x∈L,x∈a::ord.map (·.2))/\(∀y∈ord,∀j,j<i->L[j]?=some y.1->y.2∈L)/\m=ord.length+1-i,
  ⟨_,0,[a],none,none,rfl,rfl,P9 _,by simp,by simp,λx u=>by
   have:x=a:=by simpa using u
   subst this;exact cz.refl,λx u=>by
   have:x=a:=by simpa using u
   subst this;simp,λy _ j o=>absurd o (by lia),rfl⟩,?_⟩
 intro m Δ Y hI;refine shr λ_ bk=>?_;obtain⟨i,L,p,G,rfl,rfl,a1,hn,X,hs,hb,Z,rfl⟩:=hI;refine bk ?_;clear bk;have cG:L.length<=ord.length+1:=by
  have:=eM L (a::ord.map (·.2)) hn hb;simpa using this
 walk_at"";rw[E3];refine aT (λh=>?_) (λh=>?_)
 ·have N:i<L.length:=by lia
  intro hz;refine iz hq _ a ord ho i L N ord [] p G L rfl ⟨[],by simp⟩ hn hs hb (λy l=>absurd l (by simp)) (λy4 y5 L' B O I C U=>?_);obtain⟨t,rfl⟩:=B;walk_at"";refine⟨ord.length+1-(i+1),by lia,i+1,L++t,y4,y5,?_,rfl,by simp;lia,O,N7 _ X,I,C,λy l j o b=>?_,rfl⟩
  ·simp
  ·by_cases S:j=i
   ·subst S;refine U y l ?_;rw[L9 N,E4 N]at b;exact(R1 b).symm
   ·rw[L9 (by lia)]at b;exact N7 _ (Z y l j (by lia) b)
 ·rw[eS hq];refine k L X (λy l Q=>?_) hs cG;obtain⟨j,o,e⟩:=U8.mp Q;exact Z y l j (by lia) (by rw[E4 o,e])
def aI(x:Str×Int):D:=.tup [.str x.1,.int x.2]
theorem dM{e:Type}{f:e->D}(b:∀x y,f x=f y->x=y):∀{xs a:List e},xs.map f=a.map f->xs=a
 |[],[],_=>rfl
 |[],_::_,h=>by simp at h
 |_::_,[],h=>by simp at h
 |x::xs,y::a,h=>by
  simp only[J1,N0]at h;rw[b _ _ h.1,dM b h.2]
theorem j9:∀x y,aS x=aS y->x=y:=λ⟨a,b⟩ ⟨c,d⟩ h=>by simpa[aS]using h
def tT(ord:List (Str×Str))(t:Int)(a b:Str):Prop:=if t % 2=0 then cz ord a b else cz ord b a
open Classical in
def rB(ord:List (Str×Str))(a b:Str):Bool:=decide (cz ord a b)
open Classical in
def lB(ord:List (Str×Str))(t:Int)(a b:Str):Bool:=decide (tT ord t a b)
theorem lJ{ord:List (Str×Str)}{a b:Str}:rB ord a b=true↔cz ord a b:=by simp[rB]
theorem xI{ord:List (Str×Str)}{t:Int}{a b:Str}:lB ord t a b=true↔tT ord t a b:=by simp[lB]
theorem tK{ord:List (Str×Str)}{t:Int}{a b:Str}(h:t % 2=0):lB ord t a b=rB ord a b:=by rw[P6,xI,lJ,tT,if_pos h]
theorem vG{ord:List (Str×Str)}{t:Int}{a b:Str}(h:¬ t % 2=0):lB ord t a b=rB ord b a:=by rw[P6,xI,lJ,tT,if_neg h]
def gM:SpD:=λe M R=>∃(ord:List (Str×Str)) (a b:Str),e=[.tup (ord.map aS),.str a,.str b]/\ord.length<=500/\R (.bl (rB ord a b)) M
def eR:SpD:=λe M R=>∃(ord:List (Str×Str)) (t:Int) (a b:Str),e=[.tup (ord.map aS),.int t,.str a,.str b]/\ord.length<=500/\R (.bl (lB ord t a b)) M
def gh:SpD:=λa M R=>∃(ord:List (Str×Str)) (x y:Str×Int),a=[.tup (ord.map aS),aI x,aI y]/\ord.length<=500/\R (.bl (x.2+1==y.2&&lB ord x.2 x.1 y.1)) M
theorem mJ{ord:List (Str×Str)}{a b:Str}{M:DH}{R:D->DH->Prop}:gM [.tup (ord.map aS),.str a,.str b] M R↔ord.length<=500/\R (.bl (rB ord a b)) M :=
 ⟨λ⟨o,c,d,e,l,i⟩=>by
  simp only[N0,D.tup.injEq,D.str.injEq,and_true]at e;obtain⟨f,j,g⟩:=e;rw[dM j9 f,j,g];exact⟨l,i⟩,λh=>⟨ord,a,b,rfl,h⟩⟩
theorem jN{ord:List (Str×Str)}{t:Int}{a b:Str}{M:DH}{R:D->DH->Prop}:eR [.tup (ord.map aS),.int t,.str a,.str b] M R↔ord.length<=500/\R (.bl (lB ord t a b)) M :=
 ⟨λ⟨o,u,c,d,e,m,j⟩=>by
  simp only[N0,D.tup.injEq,D.str.injEq,D.int.injEq,and_true]at e;obtain⟨g,f,l,i⟩:=e;rw[dM j9 g,f,l,i];exact⟨m,j⟩,λh=>⟨ord,t,a,b,rfl,h⟩⟩
theorem oY{ord:List (Str×Str)}{a b:Str}{t u:Int}{M:DH}{R:D->DH->Prop}:gh [.tup (ord.map aS),.tup [.str a,.int t],.tup [.str b,.int u]] M R↔ord.length<=500/\R (.bl (t+1==u&&lB ord t a b)) M :=
 ⟨λ⟨o,⟨c,v⟩,⟨d,w⟩,e,n,l⟩=>by
  simp only[aI,N0,D.tup.injEq,D.str.injEq,D.int.injEq,and_true]at e;obtain⟨g,⟨m,i⟩,f,j⟩:=e;rw[dM j9 g,m,i,f,j];exact⟨n,l⟩,λh=>⟨ord,(a,t),(b,u),rfl,h⟩⟩
theorem o6(F:Fun K "at_most" "at_most" gR f z)(T:Txt g)(j:FnD P w K g base "reached_from" 1 2 fH):aU P w K g base CX0 2 f z ["order","one","other"] (spD K 3 gM):=by
 have x:=jr.nd;refine F.okR rfl jr (λo A i s H E l=>⟨_,(ao (aX (ky tv (aa 2) (qd j l (ae (aa 0) (ae (aa 1) ag))) rfl))),λu M R _ t bk=>?_⟩);obtain⟨ord,a,b,rfl,m,k⟩:=t;refine bk ?_;clear bk;walk_at"";refine⟨ord,a,rfl,m,λL q p n B=>?_⟩;refine⟨_,if_pos ⟨rfl,jB⟩,?_⟩;rw[gK];have e:(false ^^ decide (b∈L))=rB ord a b:=by
  rw[ak7,P6,lJ,decide_eq_true_eq];exact⟨λh=>n b h,λh=>pI q p h⟩
 rw[e];exact k
theorem kH(F:Fun K "mark_leads" "mark_leads" eW f z)(T:Txt g)(e:FnD P w K g base "at_most" 2 3 gM):aU P w K g base CX0 3 f z ["order","turn","one","other"] (spD K 4 eR):=by
 have q:=gq.nd;refine F.okR rfl gq (λn A l s H E i=>⟨_,(ai (aZ (aH (fb i.units) (az bc (aa 1) ah) ah nbh) (ao (aX (qd e i (ae (aa 0) (ae (aa 2) (ae (aa 3) ag)))))) aN)
   (ao (aX (qd e i (ae (aa 0) (ae (aa 3) (ae (aa 2) ag))))))),λp M R _ o bk=>?_⟩)
 obtain⟨ord,t,a,b,rfl,m,k⟩:=o;refine bk ?_;clear bk;walk_at"";simp only[mJ];refine aT (λh=>?_) (λh=>?_)
 ·have j:t % 2=0:=by simpa using h
  rw[tK j]at k;exact⟨m,k⟩
 ·have j:¬ t % 2=0:=by simpa using h
  rw[vG j]at k;exact⟨m,k⟩
theorem pA(F:Fun K "cancel" "cancel" ji f z)(T:Txt g)(j:FnD P w K g base "mark_leads" 3 4 eR):aU P w K g base CX0 4 f z ["order","one","other"] (spD K 3 gh):=by
 have p:=kA.nd;refine F.okR rfl kA (λm A e s H E i=>⟨_,(ao (aX (eP (ky (fb i.units) (az bv (aB aC (aa 1) ah (λ_ _=>rfl)) ah) (aB aC (aa 2) ah (λ_ _=>rfl)) nbh) (iO (qd j i (ae (aa 0) (ae (aB aC (aa 1) ah (λ_ _=>rfl)) (ae (aB aC (aa 1) ah (λ_ _=>rfl)) (ae (aB aC (aa 2) ah (λ_ _=>rfl)) ag))))))))),λo M R _ n bk=>?_⟩);obtain⟨ord,⟨a,t⟩,⟨b,u⟩,rfl,l,k⟩:=n;refine bk ?_;clear bk;simp only[aI];walk_at"";simp only[jN];refine aT (λh=>?_) (λh=>?_)
 ·simp only[h,ad9]at k;exact⟨l,k⟩
 ·simp only[h,U4]at k;exact k
mutual
def aw:D->Bool
 |.tup a=>fB a
 |.lst a=>fB a
 |.str x=>decide (x.length<=1000000)
 |.scr _=>false
 |.ref _=>false
 |.box _ _=>false
 |_=>true
def fB:List D->Bool
 |[]=>true
 |d::a=>aw d&&fB a
end
theorem cj:∀{ds:List D},fB ds=true↔∀d∈ds,aw d=true
 |[]=>by simp[fB]
 |d::ds=>by simp[fB,cj (ds:=ds)]
theorem df{M:DH}{d:D}(h:aw d=true):rdM M d=d:=by
 cases d<;>first|rfl|(simp[aw]at h)
def hJ:D->Int->Bool
 |.tup a,n=>(a.length:Int)==n
 |_,_=>false
def bp(x:Str):Bool:=decide (1<=x.length)&&decide (x.length<=8)&&x.cps.toList.all λc=>decide (c∈fO)
def kf:D->Bool
 |.str x=>bp x
 |_=>false
def bQ:SpD:=λa M R=>∃d n,a=[d,.int n]/\aw d=true/\R (.bl (hJ d n)) M
theorem fk{d:D}{n:Int}{M:DH}{R:D->DH->Prop}:bQ [d,.int n] M R↔aw d=true/\R (.bl (hJ d n)) M :=
 ⟨λ⟨a,b,e,h⟩=>by simp only[N0,D.int.injEq,and_true]at e;rw[e.1,e.2];exact h,λh=>⟨d,n,rfl,h⟩⟩
theorem j0(F:Fun K "is_tuple_of" "is_tuple_of" dZ f z)(T:Txt g):aU P w K g base CX0 1 f z ["thing","many"] (spD K 2 bQ):=by
 have l:=fK.nd;refine F.okR rfl fK (λi A b s H E e=>⟨_,(ao (aX (eP (dB (Tn:="tuple") (by decide) rfl T.b_isinstance rfl T.b_tuple (by kernel_rfl) (aa 0)) (iO (ky (fb e.units) (av ba rfl T.b_len (by kernel_rfl) (ae (aa 0) ag)) (aa 1) nbh))))),λh M R _ j bk=>?_⟩);obtain⟨d,n,rfl,a,k⟩:=j;refine bk ?_;clear bk;walk_at"";simp only[df a];cases d with
 |tup h =>
  refine⟨true,rfl,?_⟩;walk_at"";exact k
 |scr _=>simp[aw]at a
 |ref _=>simp[aw]at a
 |box _ _=>simp[aw]at a
 |_=>exact⟨false,rfl,by simp only[F1,if_false];exact k⟩
def c8:SpD:=λa M R=>∃d,a=[d]/\aw d=true/\R (.bl (kf d)) M
theorem iF{d:D}{M:DH}{R:D->DH->Prop}:c8 [d] M R↔aw d=true/\R (.bl (kf d)) M :=
 ⟨λ⟨a,e,h⟩=>by simp only[N0,and_true]at e;rw[e];exact h,λh=>⟨d,rfl,h⟩⟩
theorem yP:abc.cps.toList=fO:=by rw[qU,ip]
theorem lV{bs:List Bool}:pC (.lst (bs.map D.bl))=some (.bl (bs.all id)):=by
 have b:(bs.map D.bl).all kR=true:=by rw[V1,N3];intro _ _;rfl
 have a:(bs.map D.bl).all iH=bs.all id:=by rw[V1];rfl
 simp only[pC,b,a,if_true]
theorem jg(F:Fun K "is_short_word" "is_short_word" bX f z)(T:Txt g):aU P w K g base CX0 1 f z ["thing"] (spD K 1 c8):=by
 have J:=eY.nd;refine F.okR rfl eY (λn A j s H E B=>⟨_,(ao (aX (eP (dB (Tn:="str") (by decide) rfl T.b_isinstance rfl T.b_str (by kernel_rfl) (aa 0)) (eP (sQ uP uP ah (av ba rfl T.b_len (by kernel_rfl) (ae (aa 0) ag)) (xf rfl T.g_MOST_LETTERS)) (iO (av (pB rfl) rfl T.b_all (by kernel_rfl) (ae (m4 (ms:=[false]) (ar:=["letter"]) (aP (n0:=0) rfl (show bo (ak bX) c9 _ _=true from by decide +kernel)) rfl (bb (aa 0)) (aL (i:=1) (show(c9++_).Nodup from by decide +kernel) rfl rfl) (λ_ _ _ _=>bS) (λ_ _ _ _=>(ky tv (aa 1) (xB rfl T.g_SMALL_LETTERS) rfl))) ag))))))),λG M R _ u bk=>?_⟩);obtain⟨d,rfl,a,k⟩:=u;refine bk ?_;clear bk;walk_at"";simp only[df a];cases d with
 |str x =>
  have C:x.length<=1000000:=by simpa[aw]using a
  refine⟨true,rfl,?_⟩;walk_at"";refine⟨_,if_pos (szB _ (by lia)),?_⟩;walk_at"";have m:x.length=x.cps.toList.length:=by show x.cps.size=_;simp
  refine aT (λt=>aT (λp=>?_) (λp=>?_)) (λt=>?_)
  ·refine⟨_,if_pos (szB _ (by lia)),λo=>⟨o,?_⟩⟩;refine fh (λ_=>true) (λd=>match d with|.str y=>.bl (y.cps.toList.all λc=>decide (c∈fO))|_=>.non) (λl=>∃x,l=[none,x]) _ _ _ (λd a l h=>?_) ⟨none,rfl⟩ ?_
   ·obtain⟨I,rfl⟩:=h;obtain⟨c,_,rfl⟩:=O0.mp (show d∈x.cps.toList.map λc=>D.str (tx [c])from a);refine⟨_,rfl,⟨_,rfl⟩,λN q=>q,λ_ L q=>?_⟩;walk_at"";simp only[zM,T5.injEq,exists_eq_left',ak7];rw[show(R7 "abcdefghijklmnopqrstuvwxyz").cps.toList=fO from yP];simpa[ip]using q
   ·rw[L6,Q0.mpr (λ_ _=>rfl)];have e:(L2.fT x).map (λd=>match d with|.str y=>D.bl (y.cps.toList.all λc=>decide (c∈fO))|_=>.non)=(x.cps.toList.map λc=>decide (c∈fO)).map D.bl:=by
     unfold L2.fT;rw[S5,S5];apply List.map_congr_left;intro c _;simp
    rw[e];refine⟨_,lV,?_⟩;have b:(x.cps.toList.map λc=>decide (c∈fO)).all id=bp x:=by
     unfold bp;rw[V1,decide_eq_true (by lia:1<=x.length),decide_eq_true (by lia:x.length<=8)];rfl
    rw[b];exact k
  ·have b:kf (.str x)=false:=by simp only[kf,bp,decide_eq_false (by lia:¬ x.length<=8),ae3,U4]
   rw[b]at k;exact k
  ·have b:kf (.str x)=false:=by simp only[kf,bp,decide_eq_false (by lia:¬ 1<=x.length),U4]
   rw[b]at k;exact k
 |scr _=>simp[aw]at a
 |ref _=>simp[aw]at a
 |box _ _=>simp[aw]at a
 |_=>exact⟨false,rfl,by simp only[F1,if_false];exact k⟩
end
section
variable{P:K3}{w:Q5}{K:E2}{G:Str->Option E1}{base:J6}{f:F0}{fd:J7}
def b7:D->Bool
 |.int _=>true
 |_=>false
def vC(f:D->Bool):SpD:=λa M R=>∃d,a=[d]/\aw d=true/\R (.bl (f d)) M
theorem iD{f:D->Bool}{d:D}{M:DH}{R:D->DH->Prop}:vC f [d] M R↔aw d=true/\R (.bl (f d)) M :=
 ⟨λ⟨a,e,h⟩=>by simp only[N0,and_true]at e;rw[e];exact h,λh=>⟨d,rfl,h⟩⟩
def fV:SpD:=vC b7
theorem mU(F:Fun K "is_whole" "is_whole" fX f fd)(T:Txt G):aU P w K G base CX0 1 f fd ["thing"] (spD K 1 fV):=by
 have m:=iT.nd;refine F.okR rfl iT (λg A e s H E j=>⟨_,(ao (aX (eP (dB (Tn:="int") (by decide) rfl T.b_isinstance rfl T.b_int (by kernel_rfl) (aa 0)) (iO (xG (dB (Tn:="bool") (by decide) rfl T.b_isinstance rfl T.b_bool (by kernel_rfl) (aa 0))))))),λl M R _ h bk=>?_⟩);obtain⟨d,rfl,a,k⟩:=h;refine bk ?_;clear bk;walk_at"";simp only[df a];cases d with
 |int i=>exact⟨true,rfl,by simp only[if_true];exact⟨false,rfl,k⟩⟩
 |bl b=>exact⟨true,rfl,by simp only[if_true];exact⟨true,rfl,k⟩⟩
 |scr _=>simp[aw]at a
 |ref _=>simp[aw]at a
 |box _ _=>simp[aw]at a
 |_=>exact⟨false,rfl,by simp only[F1,if_false];exact k⟩
theorem Bl{f:D->Bool}{M:DH}{Q:List D->DH->Prop}{ds:List D}{te:TEd}{Δ0:DE}{n:Nat}(b:∀d∈ds,∀x,∀a:D->DH->Prop,a (.bl (f d)) M->te ((Δ0++[x]).set Δ0.length (some d)) M a)
  (h:Q ((ds.map f).map D.bl) M):dA (ck Δ0.length) xv te ds (Δ0++[none]) M [] Q:=by
 refine fh (λ_=>true) (λd=>.bl (f d)) (λg=>∃x,g=Δ0++[x]) _ _ _ (λd i g e=>?_) ⟨none,rfl⟩ ?_
 ·obtain⟨x,rfl⟩:=e;refine⟨_,rfl,⟨some d,by simp⟩,λj q=>q,λ_ a q=>b d i x a q⟩
 ·rw[L6,Q0.mpr (λ_ _=>rfl)];rw[S5]at h;exact h
theorem bx{n:Type}{g:GD}{tc:TTd}{te:TEd}{M:DH}{Q:List D->DH->Prop}(j:n->D)(b:n->Bool)(y:n->D)(Ok:DE->Prop):∀(xs:List n) (i:DE) (f:List D),
  (∀x∈xs,∀ i,Ok i->∃ a,g (j x) i=some a/\Ok a/\(∀t:Bool->DH->Prop,t (b x) M->tc a M t)/\(b x=true->∀s:D->DH->Prop,s (y x) M->te a M s))->Ok i ->
  Q (f++(xs.filter b).map y) M->dA g tc te (xs.map j) i M f Q
 |[],i,f,_,_,q=>by simpa[dA]using q
 |x::xs,i,f,h,o,q=>by
  rw[J1];simp only[dA];obtain⟨a,e,m,B,A⟩:=h x (.head _) i o;refine⟨a,e,B _ ?_⟩;have ih:=λl u=>bx (Q:=Q) j b y Ok xs a l (λz w=>h z (.tail _ w)) m u;cases p:b x with
  |true =>
   simp only[if_true];refine A p _ (ih _ ?_);rw[ab9 p]at q;simpa using q
  |false =>
   simp only[F1,if_false];refine ih _ ?_;rw[ab8 (by simp[p])]at q;exact q
theorem jm{e:Type}[DecidableEq e](f:e->D)(g:∀x y,eqD (f x) (f y)=decide (x=y)):∀{a b:List e},dn (a.map f) (b.map f)=decide (a=b)
 |[],[]=>by simp[dn]
 |[],_::_=>by simp[dn]
 |_::_,[]=>by simp[dn]
 |x::a,y::b=>by
  rw[J1,J1,dn,jm f g (a:=a) (b:=b),g];simp
theorem de{b:Type}(f:b->D)(g:∀x,dLe (f x) 59=true){a:List b}:dm (a.map f) 59=true:=by
 rw[cb];intro d e;obtain⟨x,_,rfl⟩:=O0.mp e;exact g x
theorem dR{a:Type}{p:a->Prop}{xs:List a}{y:a}(h:∀x∈xs,p x)(b:p y):∀x∈xs++[y],p x:=λx e=>by
 rcases K0.mp e with z|z
 ·exact h x z
 ·obtain rfl:=O9.mp z;exact b
theorem rV{e:Type}[DecidableEq e](f:e->D)(h:∀x y,eqD (f x) (f y)=decide (x=y))(g:∀x,dLe (f x) 59=true){a b:List e}:eqF (.lst (a.map f)) (.lst (b.map f))=some (.bl (decide (a=b))):=by
 have j:dLe (.lst (a.map f)) 60=true:=de f g;have i:dLe (.lst (b.map f)) 60=true:=de f g;simp only[eqF,j,i,and_self,if_true,eqD,jm f h]
theorem ou{e:Type}[DecidableEq e](f:e->D)(h:∀x y,eqD (f x) (f y)=decide (x=y))(g:∀x,dLe (f x) 59=true){a b:List e}:neF (.lst (a.map f)) (.lst (b.map f))=some (.bl (!decide (a=b))):=by
 have j:dLe (.lst (a.map f)) 60=true:=de f g;have i:dLe (.lst (b.map f)) 60=true:=de f g;simp only[neF,j,i,and_self,if_true,eqD,jm f h]
theorem dH{n:Type}{g:GD}{B:BKd}{M:DH}(l:n->D)(i:n->List D)(Ok:DE->Prop):∀(xs:List n) (j:DE) (a:List D) (Q:List D->DE->DH->Prop),
  (∀x∈xs,∀ j,Ok j->∃ b,g (l x) j=some b/\∀(a:List D) (t:List D->DE->DH->Prop),a.length+(i x).length<=F2->(∀ f,Ok f->t (a++i x) f M)->B b M a t)->Ok j ->
  a.length+(xs.flatMap i).length<=F2->(∀ b,Ok b->Q (a++xs.flatMap i) b M)->gL g xv B (xs.map l) j M a Q
 |[],j,a,Q,_,ok,_,q=>by
  simp only[ak2,gL];have:=q j ok
  rwa [List.flatMap_nil,S3]at this
 |x::xs,j,a,Q,h,ok,p,q=>by
  rw[R6,E7]at p;rw[J1];simp only[gL,xv,if_true];obtain⟨b,e,u⟩:=h x (.head _) j ok;refine⟨b,e,u a _ (by lia) λf o=>⟨by rw[E7];lia,?_⟩⟩;refine dH l i Ok xs f _ Q (λz p=>h z (.tail _ p)) o (by rw[E7];lia) λm s=>?_;have:=q m s
  rwa [R6,<-ad4]at this
theorem gY{b e:Type}{f:b->e}:∀l:List b,(l.flatMap λa=>[f a])=l.map f
 |[]=>rfl
 |a::l=>by rw[R6,gY l];rfl
theorem oB{r:List D}(h:r.length=2):∃a b,r=[a,b]:=by
 match r,h with
 |[a,b],_=>exact⟨a,b,rfl⟩
theorem iZ{a b:TSd}{E:dP}{g:DE}{M:DH}(C:DE->DH->Prop)(i:∀nx,(∀ e f,C e f->nx e f)->a { E with nx:=nx } g M)(h:∀ e f,C e f->b E e f):zF a b E g M:=i _ h
theorem gc{b:Type}{l:List b}(h:0<l.length)(x:Int):∃v:Nat,v<l.length/\x % (l.length:Int)=(v:Int):=by
 have a:0<=x % (l.length:Int):=ag6 _ (by lia);have e:x % (l.length:Int)<(l.length:Int):=ag7 _ (by lia);exact⟨(x % (l.length:Int)).toNat,by lia,(V6 a).symm⟩
abbrev Row:=List (Str×Int)
def cn(r:Row):D:=.tup (r.map aI)
def bT(ks:List Row):D:=.tup (ks.map cn)
def kF(e:Str×List Row):D:=.tup [.str e.1,bT e.2]
def c7(ord:List (Str×Str))(au:Str)(aj:List (Str×List Row)):D:=.tup [.tup (ord.map aS),.str au,.tup (aj.map kF)]
def uI(s:Str×Int):Prop:=bp s.1=true/\-2<=s.2/\s.2<=3
def rO(r:Row):Prop:=∀s∈r,uI s
def DD(ks:List Row):Prop:=1<=ks.length/\ks.length<=2/\ks.Nodup/\∀r∈ks,r.length<=5/\rO r
structure LxP(ord:List (Str×Str)) (au:Str) (aj:List (Str×List Row)):Prop where
 o:ord.length<=8
 n:aj.length<=8
 nd:(aj.map (·.1)).Nodup
 sh:∀e∈aj,bp e.1=true/\DD e.2
noncomputable def kin(aj:List (Str×List Row))(w:Str):List Row:=(aj.lookup w).getD []
def plB:D->Int->Bool
 |.int i,n=>decide (0<=i)&&decide (i<n)
 |_,_=>false
theorem yi{d:D}{n:Int}:plB d n=true↔∃i:Nat,d=.int i/\(i:Int)<n:=by
 constructor
 ·intro h;cases d with
  |int i =>
   simp only[plB,J9,decide_eq_true_eq]at h;exact⟨i.toNat,by rw[V6 h.1],by lia⟩
  |_=>simp[plB]at h
 ·rintro⟨i,rfl,h⟩;simp only[plB,J9,decide_eq_true_eq]
  lia
def kit(aj:List (Str×List Row))(ws:List Str):List (List Row):=ws.map (kin aj)
def rn(ks:List (List Row)):D->Bool
 |.tup a=>decide (a.length=ks.length)&&(a.zip ks).all λp=>plB p.1 (p.2.length:Int)
 |_=>false
def bO(ks:List (List Row))(cs:List Nat):Row:=(cs.zip ks).flatMap λp=>p.2.getD p.1 []
def fv(k:Nat):D:=.int (k:Int)
def Cho(ks:List (List Row))(cs:List Nat):Prop:=cs.length=ks.length/\∀p∈cs.zip ks,p.1<p.2.length
theorem pZ:∀{ds:List D}{ks:List (List Row)},(ds.length=ks.length/\((ds.zip ks).all λp=>plB p.1 (p.2.length:Int))=true)↔∃cs:List Nat,ds=cs.map fv/\Cho ks cs
 |[],[]=>⟨λ_=>⟨[],rfl,rfl,λp h=>by cases h⟩,λ_=>⟨rfl,rfl⟩⟩
 | [],k :: ks => ⟨λh => by simp at h,λ⟨cs,h,a⟩ => by
   obtain rfl:cs=[]:=by simpa using h.symm
   have:=a.1;simp at this⟩
 | d :: ds,[] => ⟨λh => by simp at h,λ⟨cs,h,a⟩ => by
   have e:=a.1;obtain rfl:cs=[]:=List.eq_nil_of_length_eq_zero e;simp at h⟩
 |d::ds,k::ks=>by
  have ih:=pZ (ds:=ds) (ks:=ks);rw[S0,V7,J9,yi,Q6,Q6];constructor
  ·rintro⟨e,⟨i,rfl,g⟩,f⟩;obtain⟨cs,rfl,a⟩:=ih.mp ⟨by lia,f⟩;refine⟨i::cs,rfl,by simp[a.1],λp b=>?_⟩;rw[S0]at b;rcases I0.mp b with rfl|b
   ·have j:(i:Int)<(k.length:Int):=g;show i<k.length
    lia
   ·exact a.2 p b
  ·rintro⟨cs,h,a⟩;cases cs with
   |nil=>simp at h
   |cons c cs =>
    simp only[J1,N0]at h;obtain⟨rfl,rfl⟩:=h;have e:=a.1;simp only[Q6,E3]at e ⊢;refine⟨by lia,⟨c,rfl,?_⟩,(ih.mpr ⟨cs,rfl,by lia,λp b=>a.2 p (by rw[S0];exact .tail _ b)⟩).2⟩;have:=a.2 (c,k) (by rw[S0];exact .head _);simp only at this;lia
theorem lR{d:D}{ks:List (List Row)}:rn ks d=true↔∃cs:List Nat,d=.tup (cs.map fv)/\Cho ks cs:=by
 cases d with
 |tup a =>
  simp only[rn,J9,decide_eq_true_eq];rw[pZ];simp
 |_=>simp[rn]
theorem nS{ks:List (List Row)}:∀{cs:List Nat},(∀k∈ks,∀r∈k,r.length<=5)->(bO ks cs).length<=5*ks.length:=by
 induction ks with
 |nil=>intro cs h;simp[bO]
 |cons k ks ih =>
  intro cs h;cases cs with
  |nil=>simp[bO]
  |cons c cs =>
   have:=ih (cs:=cs) (λb a=>h b (.tail _ a));have e:(k.getD c []).length<=5:=by
    rw[K6];cases q:k[c]? with
    |none=>simp
    |some r=>exact h k (.head _) r (F7 q)
   simp only[bO,S0,R6,E7,Q6]at this ⊢
   lia
theorem zc{aj:List (Str×List Row)}{w:Str}(h:w∈aj.map (·.1)):∃e∈aj,kin aj w=e.2:=by
 induction aj with
 |nil=>cases h
 |cons a l ih =>
  unfold kin;rw[M0]
  by_cases c:a.1=w
  ·exact⟨a,.head _,by rw[show(w==a.1)=true by simp[c]];rfl⟩
  ·rw[J1]at h;obtain⟨e,b,q⟩:=ih ((I0.mp h).resolve_left λz=>c z.symm);refine⟨e,.tail _ b,?_⟩;rw[show(w==a.1)=false by simpa using λq:w=a.1=>c q.symm];exact q
def stD(s:Nat×Nat):D:=.tup [.int (s.1:Int),.int (s.2:Int)]
def gG(n:Int):D->Bool
 |.tup [.int a,.int b]=>decide (0<=a)&&(decide (a<b)&&decide (b<n))
 |_=>false
def mq:SpD:=λa M R=>∃d n,a=[d,.int n]/\aw d=true/\R (.bl (gG n d)) M
theorem pW(F:Fun K "is_arc" "is_arc" jf f fd)(T:Txt G)(u:FnD P w K G base "is_tuple_of" 1 2 bQ)(o:FnD P w K G base "is_whole" 1 1 fV):aU P w K G base CX0 2 f fd ["thing","many"] (spD K 2 mq):=by
 have C:=ko.nd;refine F.okR rfl ko (λz A l s H E i=>⟨_,(ao (aX (eP (qd u i (ae (aa 0) (ae ah ag))) (eP (qd o i (ae (aB aC (aa 0) ah (λ_ _=>rfl)) ag)) (eP (qd o i (ae (aB aC (aa 0) ah (λ_ _=>rfl)) ag)) (iO (mB uP gV gV ah (aB aC (aa 0) ah (λ_ _=>rfl)) (aB aC (aa 0) ah (λ_ _=>rfl)) (aa 1)))))))),λp M R _ B bk=>?_⟩);obtain⟨d,n,rfl,q,k⟩:=B;refine bk ?_;clear bk;walk_at"";refine⟨d,2,rfl,q,_,rfl,?_⟩;obtain⟨x,y,rfl⟩|h:(∃x y,d=.tup [x,y])∨hJ d 2=false:=by
  cases d with
  |tup p =>
   match p with
   |[x,y]=>exact .inl ⟨x,y,rfl⟩
   |[]=>exact .inr rfl
   |[_]=>exact .inr rfl
   |_::_::_::r=>exact .inr (by simp[hJ];lia)
  |_=>exact .inr rfl
 ·have t:aw x=true/\aw y=true:=by simpa[aw,fB]using q
  rw[if_pos (show hJ (D.tup [x,y]) 2=true from rfl)];refine⟨x,rfl,x,rfl,t.1,_,rfl,aT (λj=>?_) (λj=>?_)⟩
  ·obtain⟨a,rfl⟩:∃a,x=.int a:=by cases x<;>first|exact⟨_,rfl⟩|(simp[b7]at j)
   refine⟨y,rfl,y,rfl,t.2,_,rfl,aT (λg=>?_) (λg=>?_)⟩
   ·obtain⟨b,rfl⟩:∃b,y=.int b:=by cases y<;>first|exact⟨_,rfl⟩|(simp[b7]at g)
    refine⟨_,rfl,_,rfl,aT (λe=>⟨_,rfl,_,rfl,aT (λm=>⟨_,rfl,?_⟩) (λm=>?_)⟩) (λe=>?_)⟩
    ·simp only[gG,e,m,ad9]at k;exact k
    ·simp only[gG,e,eq_false_of_ne_true m,U4,ae3]at k;exact k
    ·simp only[gG,eq_false_of_ne_true e,U4]at k;exact k
   ·have:gG n (.tup [.int a,y])=false:=by cases y<;>first|rfl|(simp[b7]at g)
    rw[this]at k;exact k
  ·have:gG n (.tup [x,y])=false:=by cases x<;>first|rfl|(simp[b7]at j)
   rw[this]at k;exact k
 ·have:gG n d=false:=by
   unfold gG
   split
   ·cases h
   ·rfl
  rw[this]at k;rw[if_neg (by simp[h])];exact k
def bw(a b:Nat×Nat):Bool:=decide (a.1<b.1/\b.1<a.2/\a.2<b.2)
def ig:SpD:=λf M R=>∃e:List (Nat×Nat),f=[.tup (e.map stD)]/\e.length<=30/\R (.bl (e.any λa=>e.any λb=>bw a b)) M
theorem kI(F:Fun K "some_cross" "some_cross" cR f fd)(T:Txt G):aU P w K G base CX0 1 f fd ["arcs"] (spD K 1 ig):=by
 have nd:=gy.nd;refine F.okR rfl gy (λS A z s H E hr=>⟨_,(ao (aX (av (z9 rfl) rfl T.b_any (by kernel_rfl) (ae (De (ms:=[true]) (ar:=["left","right","first","last"]) (aP rfl (show bo (ak cR) bH _ _=true from by decide +kernel)) rfl (bb (aa 0)) (i7 (n:=2) rfl (bV (aL (i:=1) (show(bH++_).Nodup from by decide +kernel) rfl rfl) (bV (aL (i:=2) (show(bH++_).Nodup from by decide +kernel) rfl rfl) ja))) (λ_ _ _ _=>bS) (λ_ _ _ _=>(bb (aa 0))) (i7 (n:=2) rfl (bV (aL (i:=3) (show(bH++_).Nodup from by decide +kernel) rfl rfl) (bV (aL (i:=4) (show(bH++_).Nodup from by decide +kernel) rfl rfl) ja))) (λ_ _ _ _=>bS) (λ_ _ _ _=>(mB gV gV gV (aa 1) (aa 3) (aa 2) (aa 4)))) ag)))),λds M R _ Z bk=>?_⟩);obtain⟨e,rfl,B,k⟩:=Z;refine bk ?_;clear bk;walk_at"";intro L;have t:∀l:List (Nat×Nat),(l.flatMap λ_=>e).length=l.length*e.length:=λl=>by
  induction l with
  |nil=>simp
  |cons x l ih=>rw[R6,E7,ih,Q6,Nat.succ_mul];lia
 refine dH stD (λa=>e.map λb=>D.bl (bw a b)) (λm=>∃C I g j,m=[some (D.tup (e.map stD)),C,I,g,j]) e _ _ _ ?_ ⟨_,_,_,_,rfl⟩ ?_ ?_
 ·rintro a ha m ⟨C,I,g,j,rfl⟩;refine⟨_,rfl,λU Q2 L O=>?_⟩;simp only[lK,pL,fA];refine⟨_,rfl,_,rfl,λ_=>?_⟩;refine dH stD (λb=>[D.bl (bw a b)]) (λm=>∃g j,m=[some (D.tup (e.map stD)),some (D.int a.1),some (D.int a.2),g,j]) e _ _ _ ?_ ⟨_,_,rfl⟩ (by rw[gY];exact L) (by rintro u ⟨g,j,rfl⟩;rw[gY];exact O _ ⟨_,_,_,_,rfl⟩);rintro b hb m ⟨g,j,rfl⟩;refine⟨_,rfl,λJ Q3 N Y=>?_⟩;have q:=Y [some (D.tup (e.map stD)),some (D.int a.1),some (D.int a.2),some (D.int b.1),some (D.int b.2)] ⟨_,_,rfl⟩;simp only[mh];walk_at"";refine aT (λo=>aT (λp=>?_) (λp=>?_)) (λo=>?_)
  ·have:bw a b=decide ((a.2:Int)<(b.2:Int)):=decide_eq_decide.mpr ⟨λh=>by lia,λh=>by lia⟩;rw[this]at q;exact q
  ·have:bw a b=false:=decide_eq_false λh=>p (by lia);rw[this]at q;exact q
  ·have:bw a b=false:=decide_eq_false λh=>o (by lia);rw[this]at q;exact q
 ·have X:(e.flatMap λa=>e.map λb=>D.bl (bw a b)).length=(e.flatMap λ_=>e).length:=by
   rw[af1,af1];simp
  rw[X,t];have:e.length*e.length<=30*30:=Nat.mul_le_mul B B;exact sz3 _ (by simp only[Z1];lia)
 rintro u -
 ·rw[L6];refine⟨_,?_,k⟩;have o:(e.flatMap λx=>e.map λb=>D.bl (bw x b)).all kR=true:=by
   rw[N3];intro d Q;obtain⟨x,_,h⟩:=List.mem_flatMap.mp Q;obtain⟨b,_,rfl⟩:=O0.mp h;rfl
  have p:∀l:List (Nat×Nat),(l.flatMap λx=>e.map λb=>D.bl (bw x b)).any iH=l.any λa=>e.any λb=>bw a b:=λl=>by
   induction l with
   |nil=>rfl
   |cons x l ih=>rw[R6,List.any_append,ih,X0,am7];rfl
  simp only[wR,o,p,if_true]
theorem BU{a b:List Int}:eqF (.lst (a.map D.int)) (.lst (b.map D.int))=some (.bl (decide (a=b))):=rV D.int (λx y=>by rw[P6];simp[eqD]) (λ_=>rfl)
theorem yd{a b:List (Int×Int)}:eqF (.lst (a.map pD)) (.lst (b.map pD))=some (.bl (decide (a=b))):=rV pD (λx y=>by rw[P6];obtain⟨a,b⟩:=x;obtain⟨c,d⟩:=y;simp[pD,eqD,dn]) (λ_=>rfl)
def stI(s:Nat×Nat):Int×Int:=((s.1:Int),(s.2:Int))
theorem eG{l:List (Nat×Nat)}:l.map stD=(l.map stI).map pD:=by rw[S5];rfl
theorem sI{n:Nat}:∀{ds:List D},ds.all (gG n)=true->∃f:List (Nat×Nat),ds=f.map stD/\∀a∈f,a.1<a.2/\a.2<n
 |[],_=>⟨[],rfl,λa j=>by simp at j⟩
 |d::ds,h=>by
  rw[V7,J9]at h;obtain⟨f,e,l⟩:=sI (ds:=ds) h.2;have g:=h.1;unfold gG at g
  split at g
  ·rename_i a b;simp only[J9,decide_eq_true_eq]at g;refine⟨(a.toNat,b.toNat)::f,?_,λx i=>?_⟩
   ·rw[J1,e];congr 1;simp only[stD];rw[show((a.toNat:Nat):Int)=a by lia,show((b.toNat:Nat):Int)=b by lia]
   ·rcases I0.mp i with rfl|i
    ·simp only;lia
    ·exact l x i
  ·cases g
theorem wK{n:Nat}{b:List (Nat×Nat)}(h:∀a∈b,a.1<a.2/\a.2<n):(b.map stD).all (gG n)=true:=by
 rw[N3];intro d e;obtain⟨a,f,rfl⟩:=O0.mp e;have:=h a f;simp only[gG,stD,J9,decide_eq_true_eq];lia
def jD:SpD:=λe M R=>∃(d:D) (n:Nat),e=[d,.int n]/\aw d=true/\n<=60/\(∀e,d=.tup e->e.length<=30) /\
 (∀b:List (Nat×Nat),d=.tup (b.map stD)->(∀a∈b,a.1<a.2/\a.2<n)->R (.bl (decide (gA (b.flatMap λa=>[(a.1:Int),(a.2:Int)])=(Q4 n).map (λ(k:Nat)=>(0:Int)+(k:Int)))&&decide (cS (b.map stI)=b.map stI))) M) /\
 ((¬ ∃b:List (Nat×Nat),d=.tup (b.map stD)/\∀a∈b,a.1<a.2/\a.2<n)->R (.bl false) M)
theorem m7(F:Fun K "are_arcs" "are_arcs" cM f fd)(T:Txt G)(Q:FnD P w K G base "is_arc" 2 2 mq):aU P w K G base CX0 3 f fd ["thing","many"] (spD K 2 jD):=by
 have nd:=iK.nd;refine F.okR rfl iK (λa1 A O s H E I=>⟨_,(ai (aZ (fE (et (bG (bg (dB (Tn:="tuple") (by decide) rfl T.b_isinstance rfl T.b_tuple (by kernel_rfl) (aa 0)))) (dJ (bG (bg (av (pB rfl) rfl T.b_all (by kernel_rfl) (ae (m4 (ms:=[false,true,false]) (ar:=["arc"]) (aP rfl (show bo (ak cM) cv _ _=true from by decide +kernel)) rfl (bb (aa 0)) (aL (i:=3) (show(cv++_).Nodup from by decide +kernel) rfl rfl) (λ_ _ _ _=>bS) (λ_ _ _ _=>(qd Q I (ae (aa 3) (ae (aa 1) ag))))) ag))))))) (ao (aX iJ)) aN)
   (ai (qy (i:=2) nd rfl rfl rfl (ms:=[false,false,false]) (ar:=["arc","end"]) (aP rfl (show bo (ak cM) cv _ _=true from by decide +kernel)) rfl (bb (aa 0)) (aL (i:=3) (show(cv++_).Nodup from by decide +kernel) rfl rfl) (λ_ _ _ _=>bS) (λ_ _ _ _=>(bb (aa 3))) (aL (i:=4) (show(cv++_).Nodup from by decide +kernel) rfl rfl) (λ_ _ _ _=>bS) (λ_ _ _ _=>(aa 4)))
   (ao (aX (eP (ky (fb I.units) (av gi rfl T.b_sorted (by kernel_rfl) (ae (aa 2) ag)) (kj rfl rfl T.b_list rfl T.b_range (ae (aa 1) ag)) nbh) (iO (ky (fb I.units) (av gi rfl T.b_sorted (by kernel_rfl) (ae (aa 0) ag)) (aQ i8 rfl T.b_list (by kernel_rfl) (ae (aa 0) ag)) nbh))))))),λg M R _ hS bk=>?_⟩)
 obtain⟨d,n,rfl,m,hn,t,k1,Y⟩:=hS;refine bk ?_;clear bk;walk_at"";cases d with
 |tup g =>
  have J:=t g rfl;have S:∀d∈g,aw d=true:=cj.mp (by simpa[aw]using m);refine⟨true,rfl,?_⟩;rw[if_neg (by simp)];refine⟨g,rfl,λU=>⟨U,?_⟩⟩;refine fh (λ_=>true) (λd=>D.bl (gG n d)) (λj=>∃x,j=[none,some (D.int n),none,x]) _ _ _ (λd m j L=>?_) ⟨none,rfl⟩ ?_
  ·obtain⟨x,rfl⟩:=L;refine⟨_,rfl,⟨_,rfl⟩,λQ1 q=>q,λ_ Q2 q=>?_⟩;walk_at"";exact⟨d,n,rfl,S d m,q⟩
  rw[Q0.mpr (λ_ _=>rfl),L6];have u:pC (.lst (g.map λd=>D.bl (gG n d)))=some (.bl (g.all (gG n))):=by
   have z:(g.map λd=>D.bl (gG n d)).all kR=true:=by rw[V1,N3];intro _ _;rfl
   have h2:(g.map λd=>D.bl (gG n d)).all iH=g.all (gG n):=by rw[V1];rfl
   simp only[pC,z,h2,if_true]
  refine⟨_,u,_,rfl,aT (λh=>?_) (λh=>?_)⟩
  ·refine Y ?_;rintro⟨b,e,B⟩;have e':g=b.map stD:=by simpa using e
   rw[e',wK B]at h;simp at h
  ·obtain⟨b,rfl,B⟩:=sI (by simpa using h);rw[E3]at J;have C:=k1 b rfl B;refine⟨_,rfl,λa2=>?_⟩;have p:∀l:List (Nat×Nat),(l.flatMap λa=>[(a.1:Int),(a.2:Int)]).length=2*l.length:=λl=>by
    induction l with
    |nil=>rfl
    |cons x l ih=>rw[R6,E7,ih];simp;lia
   refine dH stD (λa=>[D.int (a.1:Int),D.int (a.2:Int)]) (λj=>∃X o,j=[none,none,none,X,o]) b _ _ _ ?_ ⟨_,_,rfl⟩ ?_ ?_
   ·rintro a B j ⟨X,o,rfl⟩;refine⟨_,rfl,λa3 Q2 U q2=>?_⟩;simp only[lK,pL,fA];refine⟨_,rfl,_,rfl,λ_=>?_⟩;refine dH D.int (λi=>[D.int i]) (λj=>∃o,j=[none,none,none,some (stD a),o]) [(a.1:Int),(a.2:Int)] _ _ _ ?_ ⟨_,rfl⟩ U (by rintro N ⟨o,rfl⟩;exact q2 _ ⟨_,_,rfl⟩);rintro i hi j ⟨o,rfl⟩;refine⟨_,rfl,λZ Q3 a0 q3=>?_⟩;simp only[mh,fA];exact⟨_,rfl,q3 _ ⟨_,rfl⟩⟩
   ·have e2:(b.flatMap λa=>[D.int (a.1:Int),D.int (a.2:Int)]).length=(b.flatMap λa=>[(a.1:Int),(a.2:Int)]).length:=by
     rw[af1,af1];simp
    rw[e2,p];exact sz3 _ (by simp only[Z1];lia)
   ·rintro N -
    rw[L6];have ef:(b.flatMap λa=>[D.int (a.1:Int),D.int (a.2:Int)])=(b.flatMap λa=>[(a.1:Int),(a.2:Int)]).map D.int:=by rw[List.map_flatMap];rfl
    have er:mY 0 ((n:Int)).toNat=((Q4 n).map λ(k:Nat)=>(0:Int)+(k:Int)).map D.int:=by rw[P4,S5];rfl
    rw[ef,er];refine⟨_,sD (by rw[p];lia),by lia,by lia,_,BU,_,rfl,aT (λz=>?_) (λz=>?_)⟩
    ·rw[z,ad9]at C;rw[eG];refine⟨_,tD (by rw[E3];lia),_,rfl,_,yd,C⟩
    ·rw[eq_false_of_ne_true z,U4]at C;exact C
 |scr _=>simp[aw]at m
 |ref _=>simp[aw]at m
 |box _ _=>simp[aw]at m
 |_ =>
  refine⟨false,rfl,?_⟩;rw[if_pos (show(!false)=true from rfl)];exact Y (by rintro⟨b,e,_⟩;cases e)
def cB(ord:List (Str×Str))(x y:Str×Int):Bool:=x.2+1==y.2&&lB ord x.2 x.1 y.1
theorem qi{ord:List (Str×Str)}{x y:Str×Int}{M:DH}{R:D->DH->Prop}:gh [.tup (ord.map aS),aI x,aI y] M R↔ord.length<=500/\R (.bl (cB ord x y)) M:=oY (a:=x.1) (b:=y.1) (t:=x.2) (u:=y.2)
def sg(a:List (Str×Int))(i:Nat):Str×Int:=a.getD i ("",0)
theorem tM{a:List (Str×Int)}{i:Nat}(h:i<a.length):atI (a.map aI) (i:Int)=some (aI (sg a i)):=by
 refine aE ?_;rw[F4,E4 h];simp[sg,h]
def jK(b:List (Nat×Nat)):List Int:=b.flatMap λa=>[(a.1:Int),(a.2:Int)]
def tV(n:Nat):List Int:=(Q4 n).map λ(k:Nat)=>(0:Int)+(k:Int)
def Drw(o:List (Str×Str))(f:List (Str×Int))(e:List (Nat×Nat)):Prop :=
 (∀a∈e,a.1<a.2/\a.2<f.length)/\(gA (jK e)=tV f.length/\cS (e.map stI)=e.map stI)/\(∀a∈e,cB o (sg f a.1) (sg f a.2)=true)/\¬ (e.any λa=>e.any λb=>bw a b)=true
theorem oM:∀x y,stD x=stD y->x=y:=λ⟨a,b⟩ ⟨c,d⟩ h=>by
 simp only[stD,D.tup.injEq,N0,D.int.injEq,and_true]at h;exact Prod.ext (by simp only;lia) (by simp only;lia)
def ie:SpD:=λe M R=>∃(ord:List (Str×Str)) (b:List (Str×Int)) (d:D),e=[.tup (ord.map aS),.tup (b.map aI),d]/\ord.length<=500/\b.length<=60/\aw d=true/\(∀e,d=.tup e->e.length<=30) /\
 (∀a:List (Nat×Nat),d=.tup (a.map stD)->Drw ord b a->R (.bl true) M)/\((¬ ∃a:List (Nat×Nat),d=.tup (a.map stD)/\Drw ord b a)->R (.bl false) M)
theorem kM(F:Fun K "is_drawing" "is_drawing" cO f fd)(T:Txt G)(Q:FnD P w K G base "are_arcs" 3 2 jD)(Z:FnD P w K G base "some_cross" 1 1 ig)(O:FnD P w K G base "cancel" 4 3 gh):aU P w K G base CX0 5 f fd ["order","row","arcs"] (spD K 3 ie):=by
 have nd:=gx.nd;refine F.okR rfl gx (λa0 A N s H E I=>⟨_,(ao (aX (eP (qd Q I (ae (aa 2) (ae (av ba rfl T.b_len (by kernel_rfl) (ae (aa 1) ag)) ag))) (eP (av (pB rfl) rfl T.b_all (by kernel_rfl) (ae (m4 (ms:=[true,true,false]) (ar:=["left","right"]) (aP rfl (show bo (ak cO) cU _ _=true from by decide +kernel)) rfl (bb (aa 2)) (i7 (n:=2) rfl (bV (aL (i:=3) (show(cU++_).Nodup from by decide +kernel) rfl rfl) (bV (aL (i:=4) (show(cU++_).Nodup from by decide +kernel) rfl rfl) ja))) (λ_ _ _ _=>bS) (λ_ _ _ _=>(qd O I (ae (aa 0) (ae (aB aC (aa 1) (aa 3) (λ_ _=>rfl)) (ae (aB aC (aa 1) (aa 4) (λ_ _=>rfl)) ag)))))) ag)) (iO (xG (qd Z I (ae (aa 2) ag)))))))),λds M R _ hS bk=>?_⟩);obtain⟨ord,j,d,rfl,ho,hl,hd,u,k1,X⟩:=hS;refine bk ?_;clear bk;walk_at"";rw[E3];refine⟨d,j.length,rfl,hd,by lia,u,λg e Y=>?_,λL=>?_⟩
 ·subst e;have l:Drw ord j g↔(gA (jK g)=tV j.length/\cS (g.map stI)=g.map stI)/\(∀a∈g,cB ord (sg j a.1) (sg j a.2)=true)/\¬ (g.any λa=>g.any λb=>bw a b)=true:=⟨λh=>h.2,λh=>⟨Y,h⟩⟩;have t:g.length<=30:=by simpa using u _ rfl
  have o:∀b:Bool,(b=true↔Drw ord j g)->R (.bl b) M:=λb h=>by
   cases b with
   |true=>exact k1 g rfl (h.mp rfl)
   |false =>
    refine X λ⟨p,e,S⟩=>?_;have e':g.map stD=p.map stD:=by simpa using e
    rw[<-dM oM e']at S;exact absurd (h.mpr S) (by simp)
  refine⟨_,rfl,aT (λC=>?_) (λC=>?_)⟩
  ·rw[J9,decide_eq_true_eq,decide_eq_true_eq]at C;refine⟨_,rfl,λhz=>⟨hz,?_⟩⟩;refine bx stD (λ_=>true) (λa=>D.bl (cB ord (sg j a.1) (sg j a.2))) (λU=>∃x y,U=[some (D.tup (List.map aS ord)),some (D.tup (List.map aI j)),none,x,y]) g _ _ (λa m U J=>?_) ⟨none,none,rfl⟩ ?_
   ·obtain⟨x,y,rfl⟩:=J;have:=Y a m;refine⟨_,rfl,⟨_,_,rfl⟩,λQ1 q=>q,λ_ Q2 q=>?_⟩;walk_at"";refine⟨_,tM (by lia),_,tM (by lia),?_⟩;exact qi.mpr ⟨ho,q⟩
   ·rw[L6,Q0.mpr (λ_ _=>rfl)];have z:pC (.lst (g.map λa=>D.bl (cB ord (sg j a.1) (sg j a.2))))=some (.bl (g.all λa=>cB ord (sg j a.1) (sg j a.2))):=by
     have g1:(g.map λa=>D.bl (cB ord (sg j a.1) (sg j a.2))).all kR=true:=by rw[V1,N3];intro _ _;rfl
     have g2:(g.map λa=>D.bl (cB ord (sg j a.1) (sg j a.2))).all iH=g.all λa=>cB ord (sg j a.1) (sg j a.2):=by rw[V1];rfl
     simp only[pC,g1,g2,if_true]
    refine⟨_,z,_,rfl,aT (λB=>?_) (λB=>?_)⟩
    ·refine⟨g,rfl,t,_,rfl,o _ ?_⟩;rw[l];rw[N3]at B;refine⟨λh=>⟨C,B,?_⟩,λh=>?_⟩
     ·rw[ad7]at h;rw[h];simp
     ·rw[ad7];exact eq_false_of_ne_true h.2.2
    ·refine o false ⟨λh=>(nomatch h),λh=>absurd (N3.mpr (l.mp h).2.1) B⟩
  ·refine o false ⟨λh=>(nomatch h),λh=>absurd ?_ C⟩;rw[J9,decide_eq_true_eq,decide_eq_true_eq];exact(l.mp h).1
 ·refine⟨_,rfl,?_⟩;rw[if_neg (by simp)];exact X λ⟨g,e,h⟩=>L ⟨g,e,h.1⟩
def eF:SpD:=λf M R=>∃(ord:List (Str×Str)) (b:Str) (a:List (Str×List Row)),f=[c7 ord b a]/\a.length<=8/\R (.lst (a.map λe=>D.str e.1)) M
theorem mT(F:Fun K "words_of" "words_of" eD f fd)(T:Txt G):aU P w K G base CX0 1 f fd ["lexicon"] (spD K 1 eF):=by
 have B:=iN.nd;refine F.okR rfl iN (λj A b s H E p=>⟨_,(ao (aX (m4 (ms:=[false]) (ar:=["word","kinds"]) (aP (n0:=0) rfl (show bo (ak eD) eB _ _=true from by decide +kernel)) rfl (bb (aB aC (aa 0) ah (λ_ _=>rfl))) (i7 (n:=2) rfl (bV (aL (i:=1) (show(eB++_).Nodup from by decide +kernel) rfl rfl) (bV (aL (i:=2) (show(eB++_).Nodup from by decide +kernel) rfl rfl) ja))) (λ_ _ _ _=>bS) (λ_ _ _ _=>(aa 1))))),λz M R _ m bk=>?_⟩);obtain⟨ord,o,h,rfl,u,k⟩:=m;refine bk ?_;clear bk;simp only[c7];walk_at"";refine λl=>⟨l,?_⟩;refine bx kF (λ_=>true) (λe=>D.str e.1) (λg=>∃x y,g=[none,x,y]) h _ _ (λe t g a=>?_) ⟨none,none,rfl⟩ ?_
 ·obtain⟨x,y,rfl⟩:=a;refine⟨_,rfl,⟨_,_,rfl⟩,λI q=>q,λ_ C q=>?_⟩;walk_at"";exact q
 ·rw[L6,Q0.mpr (λ_ _=>rfl)];exact k
theorem yk{w:Str}{aj:List (Str×List Row)}:((aj.map λe=>D.str e.1).any λd=>eqD d (.str w))=decide (w∈aj.map (·.1)):=by
 rw[P6,am7,ac1,decide_eq_true_eq,O0];constructor
 ·rintro⟨e,a,h⟩;exact⟨e,a,by simpa[eqD]using h⟩
 ·rintro⟨e,a,h⟩;exact⟨e,a,by simp[eqD,h]⟩
theorem uQ{aj:List (Str×List Row)}:(aj.map λe=>D.str e.1).all br=true:=by rw[V1,N3];intro _ _;rfl
def gf:SpD:=λe M R=>∃(ord:List (Str×Str)) (b:Str) (a:List (Str×List Row)) (w:Str),e=[c7 ord b a,.str w]/\LxP ord b a/\aw (.str w)=true/\R (.bl (decide (w∈a.map (·.1)))) M
theorem mZ(F:Fun K "has_word" "has_word" fZ f fd)(T:Txt G)(o:FnD P w K G base "is_short_word" 1 1 c8)(l:FnD P w K G base "words_of" 1 1 eF):aU P w K G base CX0 2 f fd ["lexicon","thing"] (spD K 2 gf):=by
 have u:=iL.nd;refine F.okR rfl iL (λn A a s H E b=>⟨_,(ao (aX (eP (qd o b (ae (aa 1) ag)) (iO (ky tv (aa 1) (qd l b (ae (aa 0) ag)) rfl))))),λt M R _ q bk=>?_⟩);obtain⟨ord,j,g,w,rfl,i,p,k⟩:=q;refine bk ?_;clear bk;walk_at"";refine iF.mpr ⟨p,_,rfl,?_⟩;refine aT (λh=>?_) (λh=>?_)
 ·refine⟨ord,j,g,rfl,i.n,?_⟩;walk_at"";refine⟨_,if_pos ⟨rfl,uQ⟩,?_⟩;rw[yk,ak7];exact k
 ·have:decide (w∈g.map (·.1))=false:=decide_eq_false λz=>by
   obtain⟨e,m,rfl⟩:=O0.mp z;exact h (i.sh e m).1
  rw[this]at k;exact k
theorem wc{w:Str}:∀{aj:List (Str×List Row)},aj.length<2 ^ 62->w∈aj.map (·.1)->∃j e,kK (aj.map λe=>D.str e.1) (.str w)=some j/\aj[j]?=some e/\e.2=kin aj w:=by
 intro aj i g;have m:dm (aj.map λe=>D.str e.1) 59=true:=de _ λ_=>rfl;have n:dLe (.str w) 59=true:=rfl;unfold kK;rw[if_pos ⟨n,m,by rw[E3];exact i⟩];clear m n i
 induction aj with
 |nil=>cases g
 |cons e l ih =>
  obtain⟨a,t⟩:=e;rw[J1,List.findIdx?_cons]
  by_cases h:a=w
  ·subst h;exact⟨0,_,by simp[eqD],rfl,by simp[kin]⟩
  ·have b:eqD (.str a) (.str w)=false:=by simp[eqD,h]
   have f:w∈l.map (·.1):=by
    rw[J1]at g;rcases I0.mp g with q|q
    ·exact absurd q.symm h
    ·exact q
   obtain⟨j,e,s,p,o⟩:=ih f;refine⟨j+1,e,?_,by rw[X1];exact p,?_⟩
   ·simp only[b,F1,if_false];rw[s];rfl
   ·rw[o];unfold kin;rw[M0];have:(w==a)=false:=by simpa using λq:w=a=>h q.symm
    rw[this]
theorem nt{w:Str}{aj:List (Str×List Row)}(h:w∈aj.map (·.1))(a:aj.length<=8):∃j e,kK (aj.map λe=>D.str e.1) (.str w)=some j/\atI (aj.map kF) (j:Int)=some (kF e)/\e.2=kin aj w:=by
 obtain⟨j,e,g,b,f⟩:=wc (Nat.lt_of_le_of_lt a (by decide)) h;exact⟨j,e,g,aE (by rw[F4,b];rfl),f⟩
def jH:SpD:=λf M R=>∃(ord:List (Str×Str)) (e:Str) (a:List (Str×List Row)) (w:Str),f=[c7 ord e a,.str w]/\LxP ord e a/\aw (.str w)=true/\(w∈a.map (·.1)->R (bT (kin a w)) M)/\(w∉a.map (·.1)->∀b,M b=none->R (xA 0 (some b)) (aG M b (qS "word" b (.str w))))
theorem mV(F:Fun K "kinds_of" "kinds_of" eE f fd)(T:Txt G){o t W g:F0}(Y:uy K G o t W g){b:J7}(B:aU P w K G base CX0 1 g b ["self","word"] (spF "word" o))(m:cQ K b ["self","word"] [])(l:∃J,K.lookup g=some J/\J.cls=N9 "function")(G7:FnD P w K G base "has_word" 2 2 gf)(N:FnD P w K G base "words_of" 1 1 eF):aU P w K G base (CX2 P w [o,t]) 3 f fd ["lexicon","word"] (spY K 2 jH [o,t]):=by
 have nd:=dO.nd;refine F.okY rfl dO (λa0 A z s H E n=>⟨_,(js (DO (bG (bg (qd G7 n (ae (aa 0) (ae (aa 1) ag))))) (jb (Er 0 rfl Y.p0 B m l (n.mono (by decide)) rfl rfl (aa 1) λaf σ H s a x I q h1 h2 O=>xi (i:=0) I rfl q h1 h2 O)) vY)
   (jb (ya (aX (aB aC (aB aC (aB aC (aa 0) ah (λ_ _=>rfl)) (vw n.units (qd N n (ae (aa 0) ag)) (aa 1)) (λ_ _=>rfl)) ah (λ_ _=>rfl)))))),λds M R hl hS=>?_⟩)
 obtain⟨ord,C,p,w,rfl,u,hw,S,Z⟩:=hS;walk_at"";refine⟨ord,C,p,w,rfl,u,hw,_,rfl,?_⟩;refine aT (λh dd X=>⟨_,λ_ _ e=>e,Z (by simpa using h) dd X⟩) (λh=>?_);have L:w∈p.map (·.1):=by simpa using h
 simp only[c7];walk_at"";refine⟨ord,C,p,rfl,u.n,⟨_,rfl⟩,_,rfl,?_⟩;obtain⟨j,e,q1,U,Q⟩:=nt L u.n;refine⟨j,q1,_,U,?_⟩;simp only[kF];refine⟨_,rfl,?_⟩;rw[Q];exact S L
def fY:SpD:=λe M R=>∃(ord:List (Str×Str)) (b:Str) (a:List (Str×List Row)) (w:Str),e=[c7 ord b a,.str w]/\LxP ord b a/\w∈a.map (·.1)/\R (bT (kin a w)) M
theorem LxP.good{ord:List (Str×Str)}{au:Str}{aj:List (Str×List Row)}{w:Str}(a:LxP ord au aj)(f:w∈aj.map (·.1)):aw (.str w)=true/\bp w=true:=by
 obtain⟨e,b,rfl⟩:=O0.mp f;have h:=(a.sh e b).1;have g:=h;simp only[bp,J9,decide_eq_true_eq]at g;exact⟨by simp only[aw,decide_eq_true_eq];lia,h⟩
theorem mW(F:Fun K "kinds_of" "kinds_of" eE f fd)(T:Txt G)(p:FnD P w K G base "has_word" 2 2 gf)(m:FnD P w K G base "words_of" 1 1 eF):aU P w K G base CX0 3 f fd ["lexicon","word"] (spD K 2 fY):=by
 have z:=dO.nd;refine F.okR rfl dO (λo A h s H E b=>⟨_,(ai (aZ (bG (bg (qd p b (ae (aa 0) (ae (aa 1) ag))))) (ao yb) aN)
   (ao (aX (aB aC (aB aC (aB aC (aa 0) ah (λ_ _=>rfl)) (vw b.units (qd m b (ae (aa 0) ag)) (aa 1)) (λ_ _=>rfl)) ah (λ_ _=>rfl))))),λx M R _ t bk=>?_⟩)
 obtain⟨ord,i,l,w,rfl,a,g,k⟩:=t;refine bk ?_;clear bk;walk_at"";refine⟨ord,i,l,w,rfl,a,(a.good g).1,_,rfl,?_⟩;rw[if_neg (by simp[g])];simp only[c7];walk_at"";refine⟨ord,i,l,rfl,a.n,⟨_,rfl⟩,_,rfl,?_⟩;obtain⟨j,e,u,n,q⟩:=nt g a.n;refine⟨j,u,_,n,?_⟩;simp only[kF];walk_at"";rw[q];exact k
def di:SpD:=λg M R=>∃(ord:List (Str×Str)) (f:Str) (a:List (Str×List Row)) (b:List Str),g=[c7 ord f a,.tup (b.map .str)]/\LxP ord f a/\(∀w∈b,aw (.str w)=true)/\((∀w∈b,w∈a.map (·.1))->R .non M)/\(∀(i:Nat) (w:Str),b[i]?=some w->w∉a.map (·.1)->(∀v∈b.take i,v∈a.map (·.1))->∀e,M e=none->R (xA 0 (some e)) (aG M e (qS "word" e (.str w))))
theorem fM(F:Fun K "refuse_other_words" "refuse_other_words" bK f fd)(T:Txt G){g j W l:F0}(Y:uy K G g j W l)(u:FnY P w K G base "kinds_of" 3 2 jH [g,j]):aU P w K G base (CX2 P w [g,j]) 4 f fd ["lexicon","words"] (spY K 2 di [g,j]):=by
 have nd:=cJ.nd;refine F.okY rfl cJ (λa0 A t s H E J=>⟨_,(jb (Co T0.leaving rfl (bb (aa 1)) (aR (i:=2) nd rfl (L7 rfl)) (jb (rk u (J.mono (by decide)) rfl vy (ae (aa 0) (ae (aa 2) ag)))))),λds M R hl S=>?_⟩);obtain⟨ord,C,q,I,rfl,L,Q,U,N⟩:=S;walk_at"";intro hz;refine bt (λi n p=>∃x,n=[some (c7 ord C q),some (D.tup (I.map D.str)),x]/\p=M/\∀v∈I.take i,v∈q.map (·.1)) ⟨_,rfl,rfl,λ_ h=>by simp at h⟩ ?_ ?_
 ·rintro i d n p X Z ⟨x,rfl,rfl,a⟩ k';obtain⟨w,b,rfl⟩:=ft Z;refine⟨_,rfl,?_⟩;walk_at"";refine⟨ord,C,q,w,rfl,L,Q w (F7 b),λm=>⟨λ_=>k' _ _ ⟨_,rfl,rfl,λv B=>?_⟩,λi x e=>by cases e⟩,λm O o=>⟨λe=>(by rw[dX]at e;cases e),λi' x e=>(by rw[dX]at e;cases e;exact N i w b m a O o)⟩⟩;rw[R5,b]at B;rcases K0.mp B with z|z
  ·exact a v z
  ·obtain rfl:v=w:=by simpa using z
   exact m
 ·rintro n p ⟨x,rfl,rfl,a⟩;rw[E3,ae6]at a;exact U a
def gN:SpD:=λe M R=>∃(ord:List (Str×Str)) (a:Str) (b:List (Str×List Row)),e=[c7 ord a b]/\R (cn [(a,1)]) M
theorem kL(F:Fun K "goals_wish" "goals_wish" eQ f fd)(T:Txt G):aU P w K G base CX0 1 f fd ["lexicon"] (spD K 1 gN):=by
 have l:=gr.nd;refine F.okR rfl gr (λb A a s H E h=>⟨_,(ao (aX (bf (ae (bf (ae (aB aC (aa 0) ah (λ_ _=>rfl)) (ae ah ag))) ag)))),λj M R _ e bk=>?_⟩);obtain⟨ord,g,i,rfl,k⟩:=e;refine bk ?_;clear bk;simp only[c7];walk_at"";exact⟨sz3 2,sz3 1,k⟩
theorem ml{h e:Type}(f:h->D)(g:e->D):∀(l:List h) (m:List e),iG (l.map f) (m.map g)=(l.zip m).map λp=>D.tup [f p.1,g p.2]
 |[],_=>by simp[iG]
 |_::_,[]=>by simp[iG]
 |a::l,b::m=>by simp only[J1,iG,S0,ml f g l m]
theorem nk:∀{ks:List (List Row)}{cs:List Nat},bO ks cs=(ks.zip cs).flatMap λp=>p.1.getD p.2 []
 |[],cs=>by simp[bO]
 |_::_,[]=>by simp[bO]
 |k::ks,c::cs=>by
  have ih:=nk (ks:=ks) (cs:=cs);unfold bO at ih ⊢;rw[S0,R6,S0,R6,ih]
theorem xO{ks:List (List Row)}{cs:List Nat}(h:Cho ks cs):∀p∈ks.zip cs,p.2<p.1.length:=λp b=>by
 refine h.2 (p.2,p.1) ?_;obtain⟨i,a⟩:=List.mem_iff_getElem?.mp b;rw[aa6]at a;exact F7 (i:=i) (by rw[aa6];exact⟨a.2,a.1⟩)
def gb:SpD:=λg M R=>∃(ord:List (Str×Str)) (f:Str) (a:List (Str×List Row)) (b:List Str) (e:List Nat),g=[c7 ord f a,.tup (b.map .str),.tup (e.map fv)]/\LxP ord f a/\(∀w∈b,w∈a.map (·.1))/\Cho (kit a b) e/\(bO (kit a b) e).length<=59/\R (.tup ((bO (kit a b) e++[(f,1)]).map aI)) M
theorem m8(F:Fun K "signs_of" "signs_of" dj f fd)(T:Txt G)(e:FnD P w K G base "kinds_of" 3 2 fY)(B:FnD P w K G base "goals_wish" 1 1 gN):aU P w K G base CX0 4 f fd ["lexicon","words","choice"] (spD K 3 gb):=by
 have O:=iM.nd;refine F.okR rfl iM (λa0 A z s H E I=>⟨_,(ai (iB (i:=3) O rfl rfl rfl (ms:=[true,false,false,false,false]) (ar:=["word"]) (aP rfl (show bo (ak dj) bM _ _=true from by decide +kernel)) rfl (bb (aa 1)) (aL (i:=5) (show(bM++_).Nodup from by decide +kernel) rfl rfl) (λ_ _ _ _=>bS) (λ_ _ _ _=>(qd e I (ae (aa 0) (ae (aa 5) ag)))))
   (ai (qy (i:=4) O rfl rfl rfl (ms:=[false,false,false,false,false]) (ar:=["rows","number","sign"]) (aP rfl (show bo (ak dj) bM _ _=true from by decide +kernel)) rfl (va rfl T.b_zip (ae (aa 3) (ae (aa 2) ag))) (i7 (n:=2) rfl (bV (aL (i:=5) (show(bM++_).Nodup from by decide +kernel) rfl rfl) (bV (aL (i:=6) (show(bM++_).Nodup from by decide +kernel) rfl rfl) ja))) (λ_ _ _ _=>bS) (λ_ _ _ _=>(bb (aB aC (aa 5) (aa 6) (λ_ _=>rfl)))) (aL (i:=7) (show(bM++_).Nodup from by decide +kernel) rfl rfl) (λ_ _ _ _=>bS) (λ_ _ _ _=>(aa 7)))
   (ao (aX (az bv (aQ bW rfl T.b_tuple (by kernel_rfl) (ae (aa 4) ag)) (qd B I (ae (aa 0) ag))))))),λds M R _ hS bk=>?_⟩)
 obtain⟨ord,m,g,l,Q,rfl,hL,hw,hc,hs,k⟩:=hS;refine bk ?_;clear bk;walk_at"";refine λC=>⟨C,?_⟩;refine bx D.str (λ_=>true) (λw=>bT (kin g w)) (λh=>∃x,h=[some (c7 ord m g),none,none,none,none,x]) l _ _ (λJ o h t=>?_) ⟨none,rfl⟩ ?_
 ·obtain⟨x,rfl⟩:=t;refine⟨_,rfl,⟨_,rfl⟩,λQ1 q=>q,λ_ Q2 q=>?_⟩;walk_at"";exact⟨ord,m,g,J,rfl,hL,hw J o,q⟩
 rw[L6,Q0.mpr (λ_ _=>rfl)];have U:(l.map λw=>bT (kin g w))=(kit g l).map bT:=by unfold kit;rw[S5];rfl
 rw[U];refine⟨_,_,⟨rfl,rfl⟩,_,_,_,rfl,_,rfl,?_⟩;rw[ml];have L:((kit g l).zip Q).flatMap (λp=>(p.1.getD p.2 []).map aI)=(bO (kit g l) Q).map aI:=by rw[nk,List.map_flatMap]
 refine dH (λp:List Row×Nat=>D.tup [bT p.1,fv p.2]) (λp=>(p.1.getD p.2 []).map aI) (λh=>∃a b c,h=[none,none,none,none,none,a,b,c]) _ _ _ _ ?_ ⟨_,_,_,rfl⟩ (by rw[L,E3];exact sz3 _ (by simp only[Z1];lia)) ?_
 ·rintro p Y h ⟨a,b,c,rfl⟩;have j:=xO hc p Y;have S:p.1[p.2]?=some (p.1.getD p.2 []):=by rw[E4 j,K6,E4 j];rfl
  refine⟨_,rfl,λa1 Q2 C Z=>?_⟩;simp only[lK,pL,fA,dOp];refine⟨_,rfl,_,rfl,cn (p.1.getD p.2 []),aE (xs:=p.1.map cn) (by rw[F4,S];rfl),_,rfl,λ_=>?_⟩;refine dH aI (λs=>[aI s]) (λh=>∃c,h=[none,none,none,none,none,some (bT p.1),some (fv p.2),c]) (p.1.getD p.2 []) _ _ _ ?_ ⟨_,rfl⟩ (by rw[gY];exact C) (by rintro u ⟨c,rfl⟩;rw[gY];exact Z _ ⟨_,_,_,rfl⟩);rintro s hs h ⟨c,rfl⟩;refine⟨_,rfl,λN Q3 X q3=>?_⟩;simp only[mh,fA];exact⟨_,rfl,q3 _ ⟨_,rfl⟩⟩
 ·rintro u -
  rw[L,L6];refine⟨ord,m,g,rfl,?_⟩;simp only[cn];walk_at"";refine⟨_,if_pos (by rw[E3];exact sz3 _ (by lia)),?_⟩;rw[N1]at k;exact k
theorem kZ:∀{ds:List D},ds.all b7=true->∃is:List Int,ds=is.map D.int
 |[],_=>⟨[],rfl⟩
 |d::ds,h=>by
  rw[V7,J9]at h;obtain⟨is,rfl⟩:=kZ h.2;cases d with
  |int i=>exact⟨i::is,rfl⟩
  |_=>cases h.1
theorem tQ{aj:List (Str×List Row)}:∀{ws:List Str}{is:List Int},((ws.zip is).map λp=>(decide (0<=p.2)&&decide (p.2<((kin aj p.1).length:Int)))).all id=((is.map D.int).zip (kit aj ws)).all λp=>plB p.1 (p.2.length:Int)
 |[],is=>by simp[kit]
 |_::_,[]=>by simp[kit]
 |w::ws,i::is=>by
  have ih:=tQ (aj:=aj) (ws:=ws) (is:=is);unfold kit at ih ⊢;rw[S0,J1,V7,ih,J1,J1,S0,V7];rfl
def iW:SpD:=λf M R=>∃(ord:List (Str×Str)) (e:Str) (a:List (Str×List Row)) (b:List Str) (d:D),f=[c7 ord e a,.tup (b.map .str),d]/\LxP ord e a/\(∀w∈b,w∈a.map (·.1))/\b.length<=8/\aw d=true/\R (.bl (rn (kit a b) d)) M
theorem lU(F:Fun K "is_choice" "is_choice" cy f fd)(T:Txt G)(G0:FnD P w K G base "is_tuple_of" 1 2 bQ)(G3:FnD P w K G base "is_whole" 1 1 fV)(a:FnD P w K G base "kinds_of" 3 2 fY):aU P w K G base CX0 4 f fd ["lexicon","words","thing"] (spD K 3 iW):=by
 have nd:=g9.nd;refine F.okR rfl g9 (λa1 A C s H E o=>⟨_,(ai (aZ (fE (et (bG (bg (qd G0 o (ae (aa 2) (ae (av ba rfl T.b_len (by kernel_rfl) (ae (aa 1) ag)) ag))))) (dJ (bG (bg (av (pB rfl) rfl T.b_all (by kernel_rfl) (ae (m4 (ms:=[false,false,false]) (ar:=["number"]) (aP rfl (show bo (ak cy) bR _ _=true from by decide +kernel)) rfl (bb (aa 2)) (aL (i:=3) (show(bR++_).Nodup from by decide +kernel) rfl rfl) (λ_ _ _ _=>bS) (λ_ _ _ _=>(qd G3 o (ae (aa 3) ag)))) ag))))))) (ao (aX iJ)) aN)
   (ao (aX (av (pB rfl) rfl T.b_all (by kernel_rfl) (ae (m4 (ms:=[true,false,false]) (ar:=["word","number"]) (aP rfl (show bo (ak cy) bR _ _=true from by decide +kernel)) rfl (va rfl T.b_zip (ae (aa 1) (ae (aa 2) ag))) (i7 (n:=2) rfl (bV (aL (i:=3) (show(bR++_).Nodup from by decide +kernel) rfl rfl) (bV (aL (i:=4) (show(bR++_).Nodup from by decide +kernel) rfl rfl) ja))) (λ_ _ _ _=>bS) (λ_ _ _ _=>(sQ uP gV ah (aa 4) (av ba rfl T.b_len (by kernel_rfl) (ae (qd a o (ae (aa 0) (ae (aa 3) ag))) ag))))) ag))))),λb M R _ hS bk=>?_⟩)
 obtain⟨ord,N,j,g,d,rfl,U,Z,a0,m,k⟩:=hS;refine bk ?_;clear bk;walk_at"";have B:(kit j g).length=g.length:=by unfold kit;rw[E3]
 refine fk.mpr ⟨m,_,rfl,?_⟩;cases d with
 |tup b =>
  have I:∀d∈b,aw d=true:=cj.mp (by simpa[aw]using m);have l:rn (kit j g) (.tup b)=(decide (b.length=(kit j g).length)&&(b.zip (kit j g)).all λp=>plB p.1 (p.2.length:Int)):=rfl
  by_cases Q:b.length=g.length
  ·rw[if_neg (by simp[hJ,Q])];refine⟨_,rfl,λY=>⟨Y,?_⟩⟩;refine Bl (f:=b7) (Δ0:=[none,none,none]) (n:=3) (λd L x X q=>?_) ?_
   ·walk_at"";exact iD.mpr ⟨I d L,q⟩
   refine⟨_,lV,_,rfl,?_⟩;have ew:(b.map b7).all id=b.all b7:=by rw[V1];rfl
   rw[ew];refine aT (λh=>?_) (λh=>?_)
   ·have S:rn (kit j g) (.tup b)=false:=by
     rw[Bool.eq_false_iff];intro z;obtain⟨cs,e,_⟩:=lR.mp z;have e':b=cs.map fv:=by simpa using e
     have:b.all b7=true:=by rw[e',V1,N3];intro _ _;rfl
     rw[this]at h;cases h
    rw[S]at k;exact k
   ·obtain⟨is,rfl⟩:=kZ (ds:=b) (by simpa using h);refine⟨_,_,⟨rfl,rfl⟩,_,_,_,rfl,_,rfl,?_⟩;rw[ml];refine⟨by rw[E3,List.length_zip];exact sz3 _ (by lia),?_⟩;refine bx (λp:Str×Int=>D.tup [D.str p.1,D.int p.2]) (λ_=>true) (λp=>D.bl (decide (0<=p.2)&&decide (p.2<((kin j p.1).length:Int)))) (λO=>∃x y,O=[some (c7 ord N j),none,none,x,y]) (g.zip is) _ _ (λp hp O u=>?_) ⟨none,none,rfl⟩ ?_
    ·obtain⟨x,y,rfl⟩:=u;refine⟨_,rfl,⟨_,_,rfl⟩,λQ1 q=>q,λ_ X q=>?_⟩;have t:p.1∈g:=(ai7 hp).1;walk_at"";refine aT (λJ=>?_) (λJ=>?_)
     ·refine⟨ord,N,j,p.1,rfl,U,Z _ t,?_⟩;simp only[bT];walk_at"";rw[E3];rw[decide_eq_true J,ad9]at q;exact q
     ·rw[decide_eq_false J,U4]at q;exact q
    rw[L6,Q0.mpr (λ_ _=>rfl)];have e3:((g.zip is).map λp=>D.bl (decide (0<=p.2)&&decide (p.2<((kin j p.1).length:Int))))=((g.zip is).map λp=>(decide (0<=p.2)&&decide (p.2<((kin j p.1).length:Int)))).map D.bl:=by rw[S5];rfl
    rw[e3];refine⟨_,lV,?_⟩;rw[l,decide_eq_true (by rw[B];exact Q),ad9,<-tQ]at k;exact k
  ·rw[if_pos (by simp[hJ];lia)];rw[l,decide_eq_false (by lia),U4]at k;exact k
 |scr _=>simp[aw]at m
 |ref _=>simp[aw]at m
 |box _ _=>simp[aw]at m
 |_=>rw[if_pos (by simp[hJ])];exact k
def oq(d:D):Prop:=aw d=true/\∀a b,d=.tup [a,.tup b]->b.length<=30
def qT(o:List (Str×Str))(ks:List (List Row))(au:Str)(d:D):Prop:=∃(b:List Nat) (a:List (Nat×Nat)),d=.tup [.tup (b.map fv),.tup (a.map stD)]/\Cho ks b/\Drw o (bO ks b++[(au,1)]) a
open Classical in
def dwB(o:List (Str×Str))(ks:List (List Row))(au:Str)(d:D):Bool:=decide (qT o ks au d)
theorem xR{o:List (Str×Str)}{ks:List (List Row)}{au:Str}{d:D}(h:qT o ks au d):dwB o ks au d=true:=by simp[dwB,h]
theorem uW{o:List (Str×Str)}{ks:List (List Row)}{au:Str}{d:D}(h:¬ qT o ks au d):dwB o ks au d=false:=by simp[dwB,h]
theorem LxP.kit5{ord:List (Str×Str)}{au:Str}{aj:List (Str×List Row)}{ws:List Str}(f:LxP ord au aj)(i:∀w∈ws,w∈aj.map (·.1)):∀k∈kit aj ws,∀r∈k,r.length<=5:=λk g r b=>by
 obtain⟨w,a,rfl⟩:=O0.mp g;obtain⟨e,h,q⟩:=zc (i w a);rw[q]at b;exact((f.sh e h).2.2.2.2 r b).1
theorem LxP.row40{ord:List (Str×Str)}{au:Str}{aj:List (Str×List Row)}{ws:List Str}(a:LxP ord au aj)(b:∀w∈ws,w∈aj.map (·.1))(f:ws.length<=8){cs:List Nat}:(bO (kit aj ws) cs).length<=40:=by
 have h:=nS (ks:=kit aj ws) (cs:=cs) (a.kit5 b);have e:(kit aj ws).length=ws.length:=by unfold kit;rw[E3]
 lia
def dQ:SpD:=λf M R=>∃(ord:List (Str×Str)) (e:Str) (a:List (Str×List Row)) (b:List Str) (d:D),f=[c7 ord e a,.tup (b.map .str),d]/\LxP ord e a/\(∀w∈b,w∈a.map (·.1))/\b.length<=8/\oq d/\R (.bl (dwB ord (kit a b) e d)) M
theorem gE(F:Fun K "is_words_drawing" "is_words_drawing" cf f fd)(T:Txt G)(G0:FnD P w K G base "is_tuple_of" 1 2 bQ)(C:FnD P w K G base "is_choice" 4 3 iW)(J:FnD P w K G base "is_drawing" 5 3 ie)(X:FnD P w K G base "signs_of" 4 3 gb):aU P w K G base CX0 6 f fd ["lexicon","words","thing"] (spD K 3 dQ):=by
 have nd:=dq.nd;refine F.okR rfl dq (λa1 A Q s H E q=>⟨_,(ao (aX (eP (qd G0 q (ae (aa 2) (ae ah ag))) (eP (qd C q (ae (aa 0) (ae (aa 1) (ae (aB aC (aa 2) ah (λ_ _=>rfl)) ag)))) (iO (qd J q (ae (aB aC (aa 0) ah (λ_ _=>rfl)) (ae (qd X q (ae (aa 0) (ae (aa 1) (ae (aB aC (aa 2) ah (λ_ _=>rfl)) ag)))) (ae (aB aC (aa 2) ah (λ_ _=>rfl)) ag))))))))),λz M R _ Y bk=>?_⟩);obtain⟨ord,S,I,N,d,rfl,t,B,p,O,k⟩:=Y;refine bk ?_;clear bk;walk_at"";refine fk.mpr ⟨O.1,_,rfl,?_⟩
 by_cases o:hJ d 2=true
 ·rw[if_pos o];obtain⟨a,b,rfl⟩:∃a b,d=.tup [a,b]:=by
   cases d with
   |tup z =>
    obtain⟨a,b,rfl⟩:=oB (r:=z) (by simp[hJ]at o;lia);exact⟨a,b,rfl⟩
   |_=>simp[hJ]at o
  have n:aw a=true/\aw b=true:=by simpa[aw,fB]using O.1
  refine⟨a,rfl,ord,S,I,N,a,rfl,t,B,p,n.1,_,rfl,?_⟩
  by_cases u:rn (kit I N) a=true
  ·rw[if_pos u];obtain⟨m,rfl,i⟩:=lR.mp u;have a0:=t.row40 B p (cs:=m);have ho:=t.o;simp only[c7];walk_at"";refine⟨ord,S,I,N,m,rfl,t,B,i,by lia,?_⟩;refine⟨ord,_,b,rfl,by lia,by simp only[E7,Q9];lia,n.2,λz e=>O.2 _ z (by rw[e]),λg e j=>?_,λL=>?_⟩
   ·subst e;rw[xR ⟨m,g,rfl,i,j⟩]at k;exact k
   ·rw[uW (by
     rintro⟨l,g,e,_,j⟩;simp only[D.tup.injEq,N0,and_true]at e;obtain⟨U,e2⟩:=e;have Z:m=l:=dM (λx y h=>by have:=D.int.inj h;lia) U;subst Z;exact L ⟨g,e2,j⟩)]at k
    exact k
  ·rw[if_neg u];rw[uW (by
    rintro⟨l,g,e,i,j⟩;simp only[D.tup.injEq,N0,and_true]at e;exact u (lR.mpr ⟨l,e.1,i⟩))]at k
   exact k
 ·rw[if_neg o];rw[uW (by rintro⟨m,g,rfl,_⟩;exact o rfl)]at k;exact k
def dw:SpD:=λf M R=>∃(ord:List (Str×Str)) (e:Str) (a:List (Str×List Row)) (b:List Str) (d:D),f=[c7 ord e a,.tup (b.map .str),d]/\LxP ord e a/\(∀w∈b,w∈a.map (·.1))/\b.length<=8/\oq d/\(dwB ord (kit a b) e d=true->R .non M)/\(dwB ord (kit a b) e d=false->R (xA 1 none) M)
theorem gm(F:Fun K "refuse_no_drawing" "refuse_no_drawing" bU f fd)(T:Txt G){g j W b:F0}(Y:uy K G g j W b)(L:FnD P w K G base "is_words_drawing" 6 3 dQ):aU P w K G base (CX2 P w [g,j]) 7 f fd ["lexicon","words","thing"] (spY K 3 dw [g,j]):=by
 have nd:=cT.nd;refine F.okY rfl cT (λQ A m s H E o=>⟨_,(jb (DO (bG (bg (qd L o (ae (aa 0) (ae (aa 1) (ae (aa 2) ag)))))) (jb (El 1 rfl Y.p1 rfl rfl cX λX σ H s a x I q U S p=>xi (i:=1) I rfl q U S p)) vY)),λds M R Z B=>?_⟩);obtain⟨ord,n,C,N,d,rfl,t,z,l,O,J,u⟩:=B;walk_at"";refine⟨ord,n,C,N,d,rfl,t,z,l,O,_,rfl,?_⟩;exact aT (λh=>⟨M,λ_ _ e=>e,u (by simpa using h)⟩) (λh=>J (by simpa using h))
def iX(b:Nat)(a:Nat×Nat):Nat×Nat:=if a.2=b then(b-1-a.1,b)else(b-1-a.2,b-1-a.1)
def fR:SpD:=λe M R=>∃(a:Nat×Nat) (b:Nat),e=[stD a,.int b]/\a.1<a.2/\a.2<=b/\R (stD (iX b a)) M
theorem jF(F:Fun K "mirrored_arc" "mirrored_arc" dF f fd)(T:Txt G):aU P w K G base CX0 1 f fd ["arc","last"] (spD K 2 fR):=by
 have j:=fm.nd;refine F.okR rfl fm (λm A g s H E l=>⟨_,(ai (lT (aa 0) (iS rfl (bD (aR (i:=2) j rfl (L7 rfl)) (bD (aR (i:=3) j rfl (L7 rfl)) iV))))
   (ai (aZ (aH (fb l.units) (aa 3) (aa 1) nbh) (ao (aX (bf (ae (az cw (az cw (aa 1) ah) (aa 2)) (ae (aa 1) ag))))) aN)
   (ao (aX (bf (ae (az cw (az cw (aa 1) ah) (aa 3)) (ae (az cw (az cw (aa 1) ah) (aa 2)) ag))))))),λo M R _ n bk=>?_⟩)
 obtain⟨a,b,rfl,t,p,k⟩:=n;refine bk ?_;clear bk;simp only[stD];walk_at"";simp only[eX,cg,ck,fD,V2];refine⟨_,if_pos rfl,?_⟩;walk_at"";refine aT (λh=>?_) (λh=>?_)
 ·have e:a.2=b:=by have:=beq_iff_eq.mp h;lia
  have:stD (iX b a)=.tup [.int ((b:Int)-1-(a.1:Int)),.int (b:Int)]:=by
   rw[iX,if_pos e,stD,show((b-1-a.1:Nat):Int)=(b:Int)-1-(a.1:Int)by lia]
  rw[this]at k;exact⟨sz3 2,k⟩
 ·have e:¬ a.2=b:=λq=>h (by rw[q];exact beq_self_eq_true _);have:stD (iX b a)=.tup [.int ((b:Int)-1-(a.2:Int)),.int ((b:Int)-1-(a.1:Int))]:=by
   rw[iX,if_neg e,stD,show((b-1-a.1:Nat):Int)=(b:Int)-1-(a.1:Int)by lia,show((b-1-a.2:Nat):Int)=(b:Int)-1-(a.2:Int)by lia]
  rw[this]at k;exact⟨sz3 2,k⟩
def srt(l:List (Nat×Nat)):List (Nat×Nat):=(cS (l.map stI)).map λp=>(p.1.toNat,p.2.toNat)
theorem oJ{l:List (Nat×Nat)}:(srt l).map stI=cS (l.map stI):=by
 unfold srt;rw[S5]
 conv=>rhs;rw[<-List.map_id (cS (l.map stI))]
 refine List.map_congr_left λp b=>?_;obtain⟨a,_,rfl⟩:=O0.mp ((je (l.map stI)).mem_iff.mp b);simp[stI]
theorem oZ{o:List (Str×Str)}{b:Row}{a:List (Nat×Nat)}(h:Drw o b a):2*a.length=b.length:=by
 have f:=congrArg aa3 h.2.1.1;rw[(mx _).length_eq]at f;have e:∀l:List (Nat×Nat),(jK l).length=2*l.length:=λl=>by
  induction l with
  |nil=>rfl
  |cons x l ih =>
   unfold jK at ih ⊢;rw[R6,E7,ih];simp;lia
 rw[e]at f;simpa[tV]using f
def rF(cs:List Nat)(a:List (Nat×Nat)):D:=.tup [.tup (cs.reverse.map fv),.tup ((srt (a.map (iX (2*a.length-1)))).map stD)]
def dU:SpD:=λj M R=>∃(ord:List (Str×Str)) (f:Str) (e:List (Str×List Row)) (b:List Str) (d:D),j=[c7 ord f e,.tup (b.map .str),d]/\LxP ord f e/\(∀w∈b,aw (.str w)=true)/\b.length<=8/\oq d /\
 (∀(i:Nat) (w:Str),b[i]?=some w->w∉e.map (·.1)->(∀v∈b.take i,v∈e.map (·.1))->∀g,M g=none->R (xA 0 (some g)) (aG M g (qS "word" g (.str w)))) /\
 ((∀w∈b,w∈e.map (·.1))->dwB ord (kit e b) f d=false->R (xA 1 none) M) /\
 ((∀w∈b,w∈e.map (·.1))->∀h a,d=.tup [.tup (h.map fv),.tup (a.map stD)]->Cho (kit e b) h->Drw ord (bO (kit e b) h++[(f,1)]) a->R (rF h a) M)
theorem gD(F:Fun K "mirrored_drawing" "mirrored_drawing" bA f fd)(T:Txt G){l p W J:F0}(Y:uy K G l p W J)(G4:FnY P w K G base "refuse_other_words" 4 2 di [l,p])(G6:FnY P w K G base "refuse_no_drawing" 7 3 dw [l,p])(G5:FnD P w K G base "signs_of" 4 3 gb)(Y5:FnD P w K G base "mirrored_arc" 1 2 fR):aU P w K G base (CX2 P w [l,p]) 8 f fd ["lexicon","words","drawing"] (spY K 3 dU [l,p]):=by
 have O:=dD.nd;refine F.okY rfl dD (λa1 A N s H E z=>⟨_,(js (rk G4 (z.mono (by decide)) rfl vy (ae (aa 0) (ae (aa 1) ag)))
   (js (rk G6 (z.mono (by decide)) rfl vy (ae (aa 0) (ae (aa 1) (ae (aa 2) ag))))
   (js (ya (lT (aa 2) (iS rfl (bD (aR (i:=3) O rfl (L7 rfl)) (bD (aR (i:=4) O rfl (L7 rfl)) iV)))))
   (js (ya (aF (i:=5) O rfl (ai9 rfl) (az cw (av ba rfl T.b_len (by kernel_rfl) (ae (qd G5 z (ae (aa 0) (ae (aa 1) (ae (aa 3) ag)))) ag)) ah)))
   (jb (ya (aX (bf (ae (pU (aa 3) (xT yT ah)) (ae (aQ bW rfl T.b_tuple (by kernel_rfl) (ae (av gi rfl T.b_sorted (by kernel_rfl) (ae (m4 (ms:=[false,false,false,false,false,true]) (ar:=["arc"]) (aP rfl (show bo (ak bA) cp _ _=true from by decide +kernel)) rfl (bb (aa 4)) (aL (i:=6) (show(cp++_).Nodup from by decide +kernel) rfl rfl) (λ_ _ _ _=>bS) (λ_ _ _ _=>(qd Y5 z (ae (aa 6) (ae (aa 5) ag))))) ag)) ag)) ag)))))))))),λds M R hl hS=>?_⟩)
 obtain⟨ord,h,n,o,d,rfl,B,hg,m,hd,k0,k1,k2⟩:=hS;walk_at"";refine⟨ord,h,n,o,rfl,B,hg,λu=>⟨λ_=>?_,λi x e=>by cases e⟩,λi w C h2 h3 dd S=>⟨λe=>(by rw[dX]at e;cases e),λi' x e=>(by rw[dX]at e;cases e;exact k0 i w C h2 h3 dd S)⟩⟩;refine⟨ord,h,n,o,d,rfl,B,u,m,hd,λht=>⟨λ_=>?_,λi x e=>by cases e⟩,λhf=>⟨λe=>(by rw[dX]at e;cases e),λi x e=>(by rw[dX]at e;cases e;exact k1 u hf)⟩⟩;obtain⟨t,b,rfl,j,g⟩:qT ord (kit n o) h d:=by simpa[dwB]using ht
 have k3:=k2 u t b rfl j g;have a0:=B.row40 u m (cs:=t);have I:=oZ g;rw[E7,Q9]at I;simp only[eX,cg,ck,fD,V2];refine⟨_,if_pos rfl,?_⟩;walk_at"";refine⟨ord,h,n,o,t,rfl,B,u,j,by lia,?_⟩;walk_at"";have Q:((List.map aI (bO (kit n o) t++[(h,1)])).length:Int)-1=((2*b.length-1:Nat):Int):=by rw[E3,E7,Q9];lia
 rw[Q];refine λhz=>⟨hz,?_⟩;refine bx stD (λ_=>true) (λa=>stD (iX (2*b.length-1) a)) (λU=>∃x,U=[none,none,none,none,none,some (D.int ((2*b.length-1:Nat):Int)),x]) b _ _ (λa X U L=>?_) ⟨none,rfl⟩ ?_
 ·obtain⟨x,rfl⟩:=L;refine⟨_,rfl,⟨_,rfl⟩,λQ1 q=>q,λ_ Q2 q=>?_⟩;walk_at"";have C:=g.1 a X;rw[E7,Q9]at C;exact⟨a,_,rfl,C.1,by lia,q⟩
 ·rw[L6,Q0.mpr (λ_ _=>rfl)];have Z:(b.map λa=>stD (iX (2*b.length-1) a))=((b.map (iX (2*b.length-1))).map stI).map pD:=by rw[<-eG,S5];rfl
  rw[Z];refine⟨_,pq (by simp only[E3];lia),?_⟩;rw[<-oJ,<-eG];walk_at"";refine⟨sz3 2,?_⟩;rw[<-List.map_reverse];exact k3
theorem BL{cs:List Nat}{c:Nat}:((cs.map λc=>D.str (tx [c])).any λd=>eqD d (.str (tx [c])))=decide (c∈cs):=by
 rw[P6,am7,ac1,decide_eq_true_eq];constructor
 ·rintro⟨e,b,h⟩;have:tx [e]=tx [c]:=by simpa[eqD]using h
  have a:=congrArg (λz:Str=>z.cps.toList) this;simp only[ip]at a;obtain rfl:e=c:=by simpa using a
  exact b
 ·intro h;exact⟨c,h,by simp[eqD]⟩
theorem wZ{cs:List Nat}(h:cs.length<26):0<(fO.filter λc=>!decide (c∈cs)).length:=by
 rw[af2];intro e;have b:fO.length<=cs.length:=eM fO cs (by decide) λc a=>by
  rw[List.filter_eq_nil_iff]at e;simpa using e c a
 have:fO.length=26:=by decide
 lia
def jV(n:Nat)(a xs:List Int):Prop:=xs.length=n/\∀(i:Nat) (x s:Int),xs[i]?=some x->a[i]?=some s->0<=x/\x<s
theorem jV.snoc{n:Nat}{b xs:List Int}{x s:Int}(h:jV n b xs)(m:b[n]?=some s)(g:0<=x)(o:x<s):jV (n+1) b (xs++[x]):=by
 refine⟨by rw[E7,h.1];rfl,λi y t a e=>?_⟩
 by_cases j:i<xs.length
 ·rw[L9 j]at a;exact h.2 i y t a e
 ·have f:i<(xs++[x]).length:=(J8.mp a).1;have l:=h.1;rw[E7]at f;simp at f;obtain rfl:i=n:=by lia
  rw[V3 (by lia),l,Nat.sub_self]at a;rw[m]at e;cases e;cases a;exact⟨g,o⟩
def A4(a xs:List Int):Prop:=jV a.length a xs
def oX(n:Nat)(xs:List Int):Prop:=xs.length=n/\∀x∈xs,0<=x/\x<720720
theorem vK{n:Nat}{xs:List Int}(h:A4 (F3 n 720720) xs):oX n xs:=by
 have a:=h.1;rw[Z7]at a;refine⟨a,λx e=>?_⟩;obtain⟨i,b,rfl⟩:=U8.mp e;exact h.2 i _ 720720 (E4 b) (by rw[W9,if_pos (by lia)])
theorem tZ{a b:Prop}[Decidable a][Decidable b]{P Q:Prop}(e:P)(f:Q):if a then P else if b then P else Q:=by
 split
 ·exact e
 ·split
  ·exact e
  ·exact f
def kh:SpD:=λe M R=>∃(c:Int) (a:List Int),e=[.int c,.lst (a.map D.int)]/\a.length<=500/\(∀s∈a,0<s/\s<1073741824)/\∀b,A4 a b->R (.lst (b.map D.int)) M
theorem rb(F:Fun K "_law_parts" "_law_parts" jO f fd)(T:Txt G):aU P w K G base CX0 1 f fd ["_law_cell","_law_sizes"] (spD K 2 kh):=by
 have n:=lH.nd;refine F.okR rfl lH (λQ A z s H E Y=>⟨_,(ai (aF (i:=2) n rfl (L7 rfl) (dI ag))
   (aD (ai (aZ (fE (et (aH gV (aa 0) ah nbh) (dJ (aH Ea (aa 0) (az Cn ah ah) nbh)))) (aD (ai (fq O5 rfl (bb (aa 1)) (aR (i:=3) n rfl (L7 rfl)) (ai (cF (gu (aa 2) (az bc (aa 0) (aa 3))))
   (ao (aF (i:=0) n rfl (L7 rfl) (az gS (aa 0) (aa 3))))))
   (aD (ao (lG (aa 2)))))) aN)
   (aD (ai (aF (i:=4) n rfl (L7 rfl) (az bv (az bc (aa 0) ah) ah))
   (aD (ai (fq O5 rfl (bb (aa 1)) (aR (i:=3) n rfl (L7 rfl)) (ai (aF (i:=4) n rfl (L7 rfl) (az bc (az bv (az bZ (aa 4) ah) ah) ah))
   (ao (cF (gu (aa 2) (az bc (az gS (az bc (az bZ (aa 4) ah) ah) ah) (aa 3)))))))
   (aD (ao (lG (aa 2))))))))))),λZ M R _ U bk=>?_⟩)
 obtain⟨c,m,rfl,hn,I,k⟩:=U;refine bk ?_;clear bk;walk_at"";refine⟨sz3 0,λp C=>am ?_⟩;walk_at"";refine tZ (am ?_) (am ?_)
 ·walk_at"";intro S;refine bt (λi l e=>∃(t:Int) (a:List Int) (g:Option D),l=[some (D.int t),some (D.lst (m.map D.int)),some (D.ref p),g,none]/\e=aG M p (.lst (a.map D.int))/\jV i m a) ⟨c,[],none,rfl,rfl,rfl,λ_ _ _ h=>by simp at h⟩ ?_ ?_
  ·rintro i d l e X u ⟨t,a,g,rfl,rfl,b⟩ B;obtain⟨x,j,rfl⟩:=ft u;obtain⟨o,J⟩:=I x (F7 j);have N:i<m.length:=(J8.mp j).1;simp only[ck];walk_at"";refine⟨_,if_pos o,?_⟩;refine⟨by rw[E3,b.1];exact F6 (by lia:i<1000) (sz3 1000),?_⟩;refine⟨_,if_pos (show mI t x from⟨o,J⟩),?_⟩;exact B _ _ ⟨_,a++[t % x],_,rfl,by rw[N1];rfl,b.snoc j (ag6 _ (by lia)) (ag7 _ o)⟩
  ·rintro l e ⟨t,a,g,rfl,rfl,b⟩;refine am ?_;walk_at"";rw[eS C];rw[E3]at b;exact k a b
 ·walk_at"";refine am ?_;walk_at"";intro S;refine bt (λi l e=>∃(q:Int) (a:List Int) (g:Option D),l=[some (D.int c),some (D.lst (m.map D.int)),some (D.ref p),g,some (D.int q)]/\e=aG M p (.lst (a.map D.int))/\jV i m a/\0<=q/\q<2147483700) ⟨_,[],none,rfl,rfl,⟨rfl,λ_ _ _ h=>by simp at h⟩,by lia,by lia⟩ ?_ ?_
  ·rintro i d l e X u ⟨q,a,g,rfl,rfl,b,O,L⟩ B;obtain⟨x,j,rfl⟩:=ft u;obtain⟨o,J⟩:=I x (F7 j);have N:i<m.length:=(J8.mp j).1;refine⟨_,rfl,?_⟩;walk_at"";refine⟨_,if_pos o,?_⟩;refine⟨?_,B _ _ ⟨_,a++[(q*69069+12345) % 2147483587*40503 % 2147483563 / 11 % x],_,rfl,by rw[N1];rfl,b.snoc j (ag6 _ (by lia)) (ag7 _ o),by lia,by lia⟩⟩;rw[E3,b.1];exact F6 (by lia:i<1000) (sz3 1000)
  ·rintro l e ⟨q,a,g,rfl,rfl,b,O,L⟩;refine am ?_;walk_at"";rw[eS C];rw[E3]at b;exact k a b
def kn:SpD:=λe M R=>∃(b:List Int) (n:Nat),e=[.lst (b.map D.int),.int n]/\n<=b.length/\n<=10/\(∀x∈b,0<=x/\x<720720)/\∀a:List Nat,a.length=n->a.Nodup->(∀c∈a,c∈fO)->R (.lst (a.map λc=>D.str (tx [c]))) M
theorem pj(F:Fun K "_law_letters" "_law_letters" fo f fd)(T:Txt G):aU P w K G base CX0 1 f fd ["_law_xs","_law_amount"] (spD K 2 kn):=by
 have o:=jy.nd;refine F.okR rfl jy (λa1 A S s H E I=>⟨_,(ai (aF (i:=2) o rfl (L7 rfl) cX)
   (ai (aF (i:=3) o rfl (ai9 rfl) (dI ag))
   (aD (ai (fq O5 rfl (ix rfl T.b_range (ae (aa 1) ag)) (aR (i:=4) o rfl (L7 rfl)) (ai (iB (i:=5) o rfl rfl rfl (ms:=[false,false,false,true,false,false]) (ar:=["_law_sign"]) (aP rfl (show bo (ak fo) gJ _ _=true from by decide +kernel)) rfl (bb (aa 2)) (aL (i:=6) (show(gJ++_).Nodup from by decide +kernel) rfl rfl) (λ_ _ _ _=>(oE (aH kY (aa 6) (aa 3) rfl))) (λ_ _ _ _=>(aa 6)))
   (aD (ao (cF (gu (aa 3) (aB aC (aa 5) (az bc (aB aC (aa 0) (aa 4) (λ_ _=>rfl)) (av ba rfl T.b_len (by kernel_rfl) (ae (aa 5) ag))) (λ_ _=>rfl))))))))
   (aD (ao (lG (aa 3)))))))),λds M R _ hS bk=>?_⟩)
 obtain⟨Y,n,rfl,hn,U,hx,k⟩:=hS;refine bk ?_;clear bk;walk_at"";refine⟨sz3 0,λp hp=>am ?_⟩;walk_at"";rw[P4];refine⟨by lia,by lia,?_⟩;refine bt (λi g J=>∃(a:List Nat) (L Q:Option D),g=[some (D.lst (Y.map D.int)),some (D.int n),some (D.str abc),some (D.ref p),L,Q]/\J=aG M p (.lst (a.map λc=>D.str (tx [c])))/\a.length=i/\a.Nodup/\∀c∈a,c∈fO) ⟨[],none,none,rfl,rfl,rfl,List.nodup_nil,λ_ h=>by cases h⟩ ?_ ?_
 ·rintro i d g J X hd ⟨a,L,Q,rfl,rfl,m,e,b⟩ k';obtain⟨hi,rfl⟩:=eT hd;refine⟨_,rfl,?_⟩;walk_at"";refine⟨_,if_pos (by rw[qU,oK];exact sz3 _),λhz=>⟨hz,?_⟩⟩;rw[uK];refine bx (λ(c:Nat)=>D.str (tx [c])) (λc=>!decide (c∈a)) (λc=>D.str (tx [c])) (λg=>∃x,g=[none,none,none,some (D.ref p),none,none,x]) fO _ _ (λc t g N=>?_) ⟨none,rfl⟩ ?_
  ·obtain⟨x,rfl⟩:=N;refine⟨_,rfl,⟨_,rfl⟩,λQ1 q=>?_,λ_ Q2 q=>?_⟩
   ·walk_at"";refine⟨_,if_pos ⟨rfl,by rw[V1,N3];intro _ _;rfl⟩,_,rfl,?_⟩;rw[BL,Bool.true_xor];exact q
   ·walk_at"";exact q
  rw[L6];have B:=wZ (by lia:a.length<26);have j:∀c∈fO.filter (λc=>!decide (c∈a)),c∈fO/\c∉a:=λc t=>by
   have:=af7.mp t;exact⟨this.1,by simpa using this.2⟩
  generalize fO.filter (λc=>!decide (c∈a))=rest at B j;refine am ?_;walk_at"";rw[af6];obtain⟨x,l⟩:∃x,Y[i]?=some x:=⟨_,E4 (by lia)⟩;have a2:=hx x (F7 l);have C:0<=x % (rest.length:Int):=ag6 _ (by lia);have a0:x % (rest.length:Int)<(rest.length:Int):=ag7 _ (by lia);obtain⟨v,Z⟩:∃v:Nat,x % (rest.length:Int)=(v:Int):=⟨_,(V6 C).symm⟩;have O:v<rest.length:=by lia
  refine⟨_,aE (by rw[F4,l];rfl),?_⟩;walk_at"";rw[E3];refine⟨_,if_pos (by lia),?_⟩;walk_at"";rw[Z];have I:=j rest[v] (P0 _);refine⟨_,aE (by rw[F4,E4 O];rfl),?_,k' _ _ ⟨a++[rest[v]],_,_,rfl,by rw[N1];rfl,by rw[E7,m];rfl,?_,λc t=>?_⟩⟩
  ·rw[E3];exact F6 (by lia:a.length<1000) (sz3 1000)
  ·rw[List.nodup_append];refine⟨e,by simp,λu hu w hw=>?_⟩;obtain rfl:w=rest[v]:=by simpa using hw
   rintro rfl;exact I.2 hu
  ·rcases K0.mp t with z|z
   ·exact b c z
   ·obtain rfl:c=rest[v]:=by simpa using z
    exact I.1
 ·rintro g J ⟨a,L,Q,rfl,rfl,m,e,b⟩;refine am ?_;walk_at"";rw[eS hp];rw[cm]at m;exact k a m e b
abbrev ED:TSd:=wA (sV (mX (dOp eqF (fA 5) (dOp ixD (fA 3) (fA 4)))) (mX (dOp (inE true) (fA 6) (fA 3)))) (sG (zr (fA 3) (fA 6))) pF
theorem ju{q:F0}{E:dP}{M:DH}(P:M q=none)(ps g:D)(a:Str)(ord:List (Str×Str))(j:ord.length<=500)(i:Nat)(l:List Str)(hi:i<l.length):∀(e done:List (Str×Str)) (G H:Option D) (L:List Str),ord=done++e->(∃t,L=l++t)->L.Nodup->(∀x∈L,cz ord a x)->(∀x∈L,x∈a::ord.map (·.2))->(∀y∈done,y.1=l[i]->y.2∈L) ->
  (∀(Z U:Option D) (z:List Str),(∃t,z=l++t)->z.Nodup->(∀x∈z,cz ord a x)->(∀x∈z,x∈a::ord.map (·.2))->(∀y∈ord,y.1=l[i]->y.2∈z)->E.nx [some ps,some (.str a),some g,some (.ref q),some (.int i),Z,U] (aG M q (.lst (z.map .str)))) ->
  bN (eX (cg (ck 5) (cg (ck 6) fD)) 2) ED E (e.map aS) [some ps,some (.str a),some g,some (.ref q),some (.int i),G,H] (aG M q (.lst (L.map .str)))
 |[],done,G,H,L,J,n,s,p,w,C,k=>by
  simp only[ak2,bN];exact k G H L n s p w (by rw[J,S3];exact C)
 |(b,c)::e,done,G,H,L,J,⟨t,n⟩,s,p,w,C,k=>by
  have A:i<L.length:=by rw[n];simp;lia
  have R:L[i]=l[i]:=by subst n;simp[hi]
  have N:atI (L.map D.str) (i:Int)=some (.str L[i]):=aE (by simp[A]);have cG:L.length<=ord.length+1:=by
   have:=eM L (a::ord.map (·.2)) s w;simpa using this
  simp only[J1,aS,bN,eX,cg,ck,fD,V2];refine⟨_,rfl,?_⟩;walk_at"";refine⟨_,N,?_⟩;walk_at"";have o:ord=(done++[(b,c)])++e:=by rw[J];simp
  have m:(b,c)∈ord:=by rw[J];simp
  refine aT (λh=>?_) (λh=>?_)
  ·have S:b=l[i]:=by rw[<-R];simpa using h
   refine⟨_,if_pos ⟨rfl,jB⟩,_,rfl,?_⟩;rw[gK]
   by_cases I:c∈L
   ·simp only[I,decide_true,Bool.xor_true,al7,F1,if_false];exact ju P ps g a ord j i l hi e (done++[(b,c)]) _ _ L o ⟨t,n⟩ s p w (λy B f=>by
     rcases K0.mp B with h|h
     ·exact C y h f
     ·have:y=(b,c):=by simpa using h
      subst this;exact I) k
   ·simp only[I,decide_false,Bool.xor_false,if_true];refine⟨by rw[E3];exact F6 (by lia:L.length<1000) (sz3 1000),?_⟩;have X:L.map D.str++[D.str c]=(L++[c]).map D.str:=by simp
    rw[X];refine ju P ps g a ord j i l hi e (done++[(b,c)]) _ _ (L++[c]) o ⟨t++[c],by rw[n];simp⟩ ?_ (λx Q=>?_) (λx Q=>?_) (λy B f=>?_) k
    ·rw[List.nodup_append];refine⟨s,by simp,λu Y v T=>?_⟩;have:v=c:=by simpa using T
     subst this;rintro rfl;exact I Y
    ·rcases K0.mp Q with h|h
     ·exact p x h
     ·have:x=c:=by simpa using h
      subst this;exact cz.step (p b (by rw[S,<-R];exact P0 A)) m
    ·rcases K0.mp Q with h|h
     ·exact w x h
     ·have:x=c:=by simpa using h
      subst this;exact K2 _ (O0.mpr ⟨_,m,rfl⟩)
    ·rcases K0.mp B with h|h
     ·exact N7 _ (C y h f)
     ·have:y=(b,c):=by simpa using h
      subst this;simp
  ·exact ju P ps g a ord j i l hi e (done++[(b,c)]) _ _ L o ⟨t,n⟩ s p w (λy B f=>by
    rcases K0.mp B with O|O
    ·exact C y O f
    ·have:y=(b,c):=by simpa using O
     subst this;exact absurd (by rw[R];simpa using f) h) k
def lA:SpD:=λe M R=>∃(ord:List (Str×Str)) (a b:Str),e=[.tup (ord.map aS),.str a,.str b]/\ord.length<=500/\R (.bl (rB ord a b)) M
theorem uk(F:Fun K "_law_most" "_law_most" k6 f fd)(T:Txt G):aU P w K G base CX0 1 f fd ["_law_order","_law_one","_law_other"] (spD K 3 lA):=by
 have n:=nX.nd;refine F.okR rfl nX (λa0 A J s H E hr=>⟨_,(ai (aF (i:=3) n rfl (L7 rfl) (dI (ae (aa 1) ag)))
   (ai (aF (i:=4) n rfl (L7 rfl) ah)
   (ai (oH O5 (aH gV (aa 4) (av ba rfl T.b_len (by kernel_rfl) (ae (aa 3) ag)) nbh) (ai (fq O5 rfl (bb (aa 0)) (iS rfl (bD (aR (i:=5) n rfl (L7 rfl)) (bD (aR (i:=6) n rfl (L7 rfl)) iV))) (ao (aZ (fE (gO (aH (fb hr.units) (aa 5) (aB aC (aa 3) (aa 4) (λ_ _=>rfl)) nbh) (fU (aH kY (aa 6) (aa 3) rfl)))) (ao (cF (gu (aa 3) (aa 6)))) aN)))
   (ao (aF (i:=4) n rfl (L7 rfl) (az bv (aa 4) ah)))))
   (ao (cE (ky tv (aa 2) (aa 3) rfl)))))),λds M R _ hS bk=>?_⟩)
 obtain⟨ord,a,b,rfl,ho,k⟩:=hS;refine bk ?_;clear bk;walk_at"";refine⟨sz3 1,λq hq=>?_⟩;refine⟨λm Δ Z=>∃(i:Nat) (L:List Str) (p C:Option D),Δ=[some (D.tup (ord.map aS)),some (D.str a),some (D.str b),some (D.ref q),some (D.int i),p,C]/\Z=aG M q (.lst (L.map .str))/\i<=L.length/\L.Nodup/\a∈L/\(∀x∈L,cz ord a x)/\(∀x∈L,x∈a::ord.map (·.2))/\(∀y∈ord,∀j,j<i->L[j]?=some y.1->y.2∈L)/\m=ord.length+1-i,
  ⟨_,0,[a],none,none,rfl,rfl,P9 _,by simp,by simp,λx u=>by
   have:x=a:=by simpa using u
   subst this;exact cz.refl,λx u=>by
   have:x=a:=by simpa using u
   subst this;simp,λy _ j o=>absurd o (by lia),rfl⟩,?_⟩
 rintro m Δ Z ⟨i,L,p,C,rfl,rfl,a1,hn,Y,hs,hb,hp,rfl⟩;have cG:L.length<=ord.length+1:=by
  have:=eM L (a::ord.map (·.2)) hn hb;simpa using this
 walk_at"";rw[E3];refine aT (λh=>?_) (λh=>?_)
 ·have N:i<L.length:=by lia
  intro hz;refine ju hq _ _ a ord ho i L N ord [] p C L rfl ⟨[],by simp⟩ hn hs hb (λy l=>absurd l (by simp)) (λy4 y5 L' z Q I B X=>?_);obtain⟨t,rfl⟩:=z;walk_at"";refine⟨ord.length+1-(i+1),by lia,i+1,L++t,y4,y5,?_,rfl,by simp;lia,Q,N7 _ Y,I,B,λy l j o g=>?_,rfl⟩
  ·simp
  ·by_cases U:j=i
   ·subst U;refine X y l ?_;rw[L9 N,E4 N]at g;exact(R1 g).symm
   ·rw[L9 (by lia)]at g;exact N7 _ (hp y l j (by lia) g)
 ·have O:(b∈L)↔cz ord a b:=⟨hs b,λh=>pI Y (λy l S=>by
   obtain⟨j,o,e⟩:=U8.mp S;exact hp y l j (by lia) (by rw[E4 o,e])) h⟩
  refine⟨_,if_pos ⟨rfl,jB⟩,M,cq hq,?_⟩;rw[gK,ak7];have e:decide (b∈L)=rB ord a b:=by rw[P6,decide_eq_true_eq,lJ];exact O
  rw[e];exact k
theorem Du{M:DH}{p q:F0}{a b:HD}(g:M p=none)(f:M q=none):LeM M (aG (aG M p a) q b):=λc o e=>by
 unfold aG
 split
 ·rename_i z;rw[z,f]at e;cases e
 ·split
  ·rename_i z;rw[z,g]at e;cases e
  ·exact e
def bI(l:List Nat):List D:=l.map λ(c:Nat)=>D.int (c:Int)
theorem qt:∀{l:List (Nat×Nat)},(l.map stI).map (λp:Int×Int=>(p.1.toNat,p.2.toNat))=l
 |[]=>rfl
 |a::l=>by rw[J1,J1,qt];simp[stI]
theorem mD{l:List (Nat×Nat)}:(srt l).Perm l:=by
 have h:=(je (l.map stI)).map λp:Int×Int=>(p.1.toNat,p.2.toNat);rw[qt]at h;exact h
def qG(i:Nat)(h:List Nat)(F:List (Nat×Nat)):Prop:=h.length+2*F.length=i/\(∀x∈h,x<i)/\(∀a∈F,a.1<a.2/\a.2<i)/\∀p,p<i->p∈h∨∃a∈F,a.1=p∨a.2=p
theorem qG.push{i:Nat}{h:List Nat}{F:List (Nat×Nat)}(I:qG i h F):qG (i+1) (h++[i]) F:=by
 obtain⟨m,j,f,g⟩:=I;refine⟨by rw[E7];simp;lia,dR (λx l=>by have:=j x l;lia) (by lia),λa b=>⟨(f a b).1,by have:=(f a b).2;lia⟩,λp n=>?_⟩
 by_cases e:p=i
 ·left;rw[e];simp
 ·rcases g p (by lia)with q|q
  ·left;exact N7 _ q
  ·right;exact q
theorem qG.pop{i t:Nat}{h:List Nat}{F:List (Nat×Nat)}(I:qG i (h++[t]) F):qG (i+1) h (F++[(t,i)]):=by
 obtain⟨j,g,o,n⟩:=I;rw[E7]at j;simp only[Q6,Z1]at j;have l:=g t (by simp);refine⟨by rw[E7];simp;lia,λx m=>by have:=g x (by simp[m]);lia,dR (λa f=>by have:=o a f;lia) ⟨l,by show i<i+1;lia⟩,λp s=>?_⟩;have b:(t,i)∈F++[(t,i)]:=by simp
 by_cases e:p=i
 ·right;exact⟨_,b,.inr e.symm⟩
 ·rcases n p (by lia)with q|⟨a,f,q⟩
  ·rcases K0.mp q with q|q
   ·left;exact q
   ·right;exact⟨_,b,.inl (O9.mp q).symm⟩
  ·right;exact⟨a,N7 _ f,q⟩
def kB:SpD:=λf M R=>∃(e:List Int) (n:Nat),f=[.lst (e.map D.int),.int n]/\2*n<=e.length/\n<=6/\∀b:List (Nat×Nat),b.length=n->(∀a∈b,a.1<a.2/\a.2<2*n)->(∀p,p<2*n->∃a∈b,a.1=p∨a.2=p)->R (.lst (b.map stD)) M
theorem oP(F:Fun K "_law_matched" "_law_matched" hV f fd)(T:Txt G):aU P w K G base CX0 1 f fd ["_law_xs","_law_amount"] (spD K 2 kB):=by
 have C:=jv.nd;refine F.okR rfl jv (λa2 A U s H E hr=>⟨_,(ai (aF (i:=2) C rfl (L7 rfl) (dI ag))
   (ai (aF (i:=3) C rfl (L7 rfl) (dI ag))
   (ai (aF (i:=4) C rfl (L7 rfl) (aa 1))
   (aD (ai (fq O5 rfl (ix rfl T.b_range (ae (az bZ ah (aa 1)) ag)) (aR (i:=5) C rfl (L7 rfl)) (ao (aZ (fE (gO (aH Dy (aa 4) ah nbh) (fU (fE (et (aH (fb hr.units) (aa 2) (cA ag) nbh) (dJ (aH (fb hr.units) (az bc (aB aC (aa 0) (aa 5) (λ_ _=>rfl)) ah) ah nbh))))))) (ai (cF (gu (aa 2) (aa 5)))
   (ao (aF (i:=4) C rfl (L7 rfl) (az cw (aa 4) ah)))) (ao (cF (gu (aa 3) (bf (ae (Ds (aa 2)) (ae (aa 5) ag)))))))))
   (aD (ao (cE (av gi rfl T.b_sorted (by kernel_rfl) (ae (aa 3) ag)))))))))),λI M R _ hS bk=>?_⟩)
 obtain⟨J,n,rfl,hn,a1,k⟩:=hS;refine bk ?_;clear bk;walk_at"";refine⟨sz3 0,λp Q=>⟨sz3 0,λq L=>am ?_⟩⟩;walk_at"";refine⟨by lia,by lia,?_⟩;have b:p≠q:=by
  intro e;rw[e,bj]at L;cases L
 have a0:M q=none:=by rw[bY (T7 b)]at L;exact L
 rw[show(2*(n:Int)).toNat=2*n by lia];refine bt (λi Y O=>∃(h:List Nat) (F:List (Nat×Nat)) (S:Option D),Y=[some (D.lst (J.map D.int)),some (D.int n),some (D.ref p),some (D.ref q),some (D.int ((n:Int)-h.length-F.length)),S]/\O=aG (aG M p (.lst (bI h))) q (.lst (F.map stD))/\qG i h F/\h.length+F.length<=n) ⟨[],[],none,by simp,rfl,by simp[qG],P9 _⟩ ?_ ?_
 ·rintro i d Y O X hd ⟨h,F,S,rfl,rfl,j,g⟩ k';obtain⟨hi,rfl⟩:=eT hd;have e1:(aG (aG M p (.lst (bI h))) q (.lst (F.map stD))) p=some (.lst (bI h)):=by rw[bY b,bj]
  have r1:rdM (aG (aG M p (.lst (bI h))) q (.lst (F.map stD))) (.ref p)=.lst (bI h):=jo e1;refine⟨_,rfl,?_⟩;simp only[af6];walk_at"";simp only[r1,e1];walk_at"";have B:=j.1;have push:h.length+F.length<n->(bI h).length<F2/\X [some (D.lst (J.map D.int)),some (D.int n),some (D.ref p),some (D.ref q),some (D.int ((n:Int)-h.length-F.length-1)),some (D.int (i:Int))] (aG (aG (aG M p (.lst (bI h))) q (.lst (F.map stD))) p (.lst (bI h++[D.int (i:Int)]))):=λa3=>by
   refine⟨?_,k' _ _ ⟨h++[i],F,some (D.int (i:Int)),?_,?_,j.push,?_⟩⟩
   ·rw[bI,E3];exact F6 (by lia:h.length<1000) (sz3 1000)
   ·rw[E7,show((h.length+[i].length:Nat):Int)=(h.length:Int)+1 by simp,show(n:Int)-h.length-F.length-1=(n:Int)-((h.length:Int)+1)-F.length by lia]
   ·rw[eK b,eZ,eK (T7 b)];simp[bI]
   ·rw[E7];simp;lia
  have pop:h≠[]->∃x o,bI h=x++[o]/\2<=F2/\∃I,aG (aG (aG M p (.lst (bI h))) q (.lst (F.map stD))) p (.lst x) q=some (.lst I)/\I.length<F2/\X [some (D.lst (J.map D.int)),some (D.int n),some (D.ref p),some (D.ref q),some (D.int ((n:Int)-h.length-F.length)),some (D.int (i:Int))] (aG (aG (aG (aG M p (.lst (bI h))) q (.lst (F.map stD))) p (.lst x)) q (.lst (I++[D.tup [o,D.int (i:Int)]]))):=λm=>by
   obtain⟨l,t,rfl⟩:∃l t,h=l++[t]:=⟨h.dropLast,h.getLast m,(List.dropLast_concat_getLast m).symm⟩;refine⟨bI l,D.int (t:Int),by simp[bI],sz3 2,F.map stD,by rw[bY (T7 b),bj],?_,k' _ _ ⟨l,F++[(t,i)],some (D.int (i:Int)),?_,?_,j.pop,?_⟩⟩
   ·rw[E3];exact F6 (by lia:F.length<1000) (sz3 1000)
   ·rw[E7,E7,show(n:Int)-((l.length+[t].length:Nat):Int)-F.length=(n:Int)-l.length-((F.length+[(t,i)].length:Nat):Int)by simp;lia]
   ·rw[eK b,eZ,eK (T7 b),eZ,N1];rfl
   ·rw[E7]at g ⊢;simp at g ⊢;lia
  have u:eqF (.lst (bI h)) (.lst [])=some (.bl h.isEmpty):=by
   have h1:dLe (.lst (bI h)) 60=true:=de _ λ_=>rfl;have h2:dLe (.lst []) 60=true:=rfl;simp only[eqF,h1,h2,and_self,if_true];cases h<;>rfl
  refine aT (λZ=>?_) (λZ=>?_)
  ·refine⟨sz3 0,_,u,_,rfl,aT (λc2=>push (by lia)) (λc2=>?_)⟩;obtain⟨x,hx⟩:∃x,J[i]?=some x:=⟨_,E4 (by lia)⟩;refine⟨_,aE (by rw[F4,hx];rfl),?_⟩;walk_at"";exact aT (λc3=>push (by lia)) (λc3=>pop (λe=>c2 (by rw[e];rfl)))
  ·refine pop (λe=>?_);rw[e]at B g Z;simp at B g Z
   lia
 ·rintro Y O ⟨h,F,S,rfl,rfl,j,g⟩;refine am ?_;walk_at"";have h0:h=[]:=by
   have:=j.1;rw[cm]at this;exact List.length_eq_zero_iff.mp (by lia)
  subst h0;have hF:2*F.length=2*n:=by
   have:=j.1;rw[cm]at this;simpa using this
  rw[eG];refine⟨_,pq (by rw[E3];lia),M,Du Q a0,?_⟩;rw[<-oJ,<-eG];refine k _ (by rw[mD.length_eq];lia) (λa N=>?_) (λp Q=>?_)
  ·have:=j.2.2.1 a (mD.mem_iff.mp N);rw[cm]at this;exact this
  ·rcases j.2.2.2 p (by rw[cm];exact Q)with z|⟨a,N,q⟩
   ·cases z
   ·exact⟨a,mD.mem_iff.mpr N,q⟩
def kP(r:Row)(p:Nat):Prop:=∃s,r[p]?=some s/\uI s
theorem kP.set{r:Row}{p j:Nat}{s:Str×Int}(h:kP r p)(g:uI s):kP (r.set j s) p:=by
 obtain⟨t,a,f⟩:=h;have b:p<r.length:=(J8.mp a).1
 by_cases e:j=p
 ·subst e;exact⟨s,by rw[N5 b],g⟩
 ·exact⟨t,by rw[T4 e];exact a,f⟩
theorem kP.new{r:Row}{j:Nat}{s:Str×Int}(b:j<r.length)(a:uI s):kP (r.set j s) j:=⟨s,by rw[N5 b],a⟩
theorem w9{xs:List Int}{lo hi:Option Int}:∃a:List Int,L2.cY (xs.map D.int) lo hi=a.map D.int/\a.length<=xs.length/\∀y∈a,y∈xs:=by
 refine⟨(xs.drop (HT.sIx (xs.map D.int).length 0 lo)).take (HT.sIx (xs.map D.int).length (xs.map D.int).length hi-HT.sIx (xs.map D.int).length 0 lo),?_,?_,λy b=>U9 (T6 b)⟩
 ·unfold L2.cY;rw[ae0,ag8]
 ·simp;lia
theorem lu(x y:Str×Int):eqD (aI x) (aI y)=decide (x=y):=by
 obtain⟨a,b⟩:=x;obtain⟨c,d⟩:=y;rw[P6];simp[aI,eqD,dn]
theorem yl{a b:Row}:neF (.lst (a.map aI)) (.lst (b.map aI))=some (.bl (!decide (a=b))):=ou aI lu (λ_=>rfl)
theorem oj{a b:Row}:neF (.tup (a.map aI)) (.tup (b.map aI))=some (.bl (!decide (a=b))):=by
 have f:dLe (.tup (a.map aI)) 60=true:=de aI λ_=>rfl;have e:dLe (.tup (b.map aI)) 60=true:=de aI λ_=>rfl;simp only[neF,f,e,and_self,if_true,eqD,jm aI lu]
theorem kW{n j:Nat}(h:j<n):ixN n (j:Int)=some j:=by
 unfold ixN;rw[if_pos (by lia),if_pos (by lia)];simp
def ny:SpD:=λi M R=>∃(h:List Int) (b:List (Nat×Nat)) (f:List Str) (ord:List (Str×Str)) (g:Str),i=[.lst (h.map D.int),.lst (b.map stD),.lst (f.map D.str),.tup (ord.map aS),.str g]/\2*b.length<=h.length/\1<=b.length/\b.length<=6/\(∀a∈b,a.1<a.2/\a.2<2*b.length)/\(∀p,p<2*b.length->∃a∈b,a.1=p∨a.2=p)/\f.length<=10/\g∈f/\(∀m∈f,bp m=true)/\ord.length<=500 /\
 ∀e:Row,e.length=2*b.length->rO e->R (.lst (e.map aI)) M
theorem qK(F:Fun K "_law_signs" "_law_signs" fG f fd)(T:Txt G)(Y4:FnD P w K G base "_law_most" 1 3 lA):aU P w K G base CX0 2 f fd ["_law_xs","_law_arcs","_law_marks","_law_order","_law_goal"] (spD K 5 ny):=by
 have N:=lb.nd;refine F.okR rfl lb (λd7 A c4 s H E hr=>⟨_,(ai (aF (i:=5) N rfl (L7 rfl) (dI ag))
   (aD (ai (fq O5 rfl (bb (aa 2)) (aR (i:=6) N rfl (ai9 rfl)) (ao (cF (ve (aa 5) (m4 (ms:=[false,false,false,true,false,false,true,false,false,false,false,false]) (ar:=[]) (aP rfl (show bo (ak fG) fN _ _=true from by decide +kernel)) rfl (bb (aa 2)) (aL (i:=7) (show(fN++_).Nodup from by decide +kernel) rfl rfl) (λ_ _ _ _=>(oE (bg (qd Y4 hr (ae (aa 3) (ae (aa 6) (ae (aa 7) ag))))))) (λ_ _ _ _=>(bf (ae (aa 6) (ae (aa 7) ag)))))))))
   (aD (tN 5 (ai (aF (i:=8) N rfl (L7 rfl) (BF (cA (ae (bf (ae cX (ae ah ag))) ag)) (az bZ ah (av ba rfl T.b_len (by kernel_rfl) (ae (aa 1) ag)))))
   (aD (ai (fq O5 rfl (ix rfl T.b_range (ae (av ba rfl T.b_len (by kernel_rfl) (ae (aa 1) ag)) ag)) (aR (i:=9) N rfl (L7 rfl)) (ai (aF (i:=10) N rfl (L7 rfl) (az cw (az bc (aB aC (aa 0) (az bZ ah (aa 9)) (λ_ _=>rfl)) ah) ah))
   (aD (ai (lT (aB aC (aa 5) (az bc (aB aC (aa 0) (az bv (az bZ ah (aa 9)) ah) (λ_ _=>rfl)) (av ba rfl T.b_len (by kernel_rfl) (ae (aa 5) ag))) (λ_ _=>rfl)) (iS rfl (bD (aR (i:=6) N rfl (ai9 rfl)) (bD (aR (i:=7) N rfl (L7 rfl)) iV))))
   (aD (ai (aZ (aH (fb hr.units) (az bc (aa 10) ah) ah nbh) (aD (ao (lT (bf (ae (aa 7) (ae (aa 6) ag))) (iS rfl (bD (aR (i:=6) N rfl (ai9 rfl)) (bD (aR (i:=7) N rfl (L7 rfl)) iV)))))) aN)
   (aD (ai (aZ (aH (fb hr.units) (aB aC (aB aC (aa 1) (aa 9) (λ_ _=>rfl)) ah (λ_ _=>rfl)) (az cw (az bZ ah (av ba rfl T.b_len (by kernel_rfl) (ae (aa 1) ag))) ah) nbh) (aD (ai (aF (i:=10) N rfl (L7 rfl) ah)
   (aD (ai (iB (i:=11) N rfl rfl rfl (ms:=[false,false,false,false,true,false,false,false,false,false,false,false]) (ar:=["_law_pair"]) (aP rfl (show bo (ak fG) fN _ _=true from by decide +kernel)) rfl (bb (aa 5)) (aL (i:=12) (show(fN++_).Nodup from by decide +kernel) rfl rfl) (λ_ _ _ _=>(oE (aH (fb hr.units) (aB aC (aa 12) ah (λ_ _=>rfl)) (aa 4) nbh))) (λ_ _ _ _=>(aB aC (aa 12) ah (λ_ _=>rfl))))
   (aD (ao (lT (bf (ae (aB aC (aa 11) (az bc (aB aC (aa 0) (az bv (az bZ ah (aa 9)) ah) (λ_ _=>rfl)) (av ba rfl T.b_len (by kernel_rfl) (ae (aa 11) ag))) (λ_ _=>rfl)) (ae (aa 4) ag))) (iS rfl (bD (aR (i:=6) N rfl (ai9 rfl)) (bD (aR (i:=7) N rfl (L7 rfl)) iV)))))))))) aN)
   (aD (ai (se (aa 8) (aB aC (aB aC (aa 1) (aa 9) (λ_ _=>rfl)) ah (λ_ _=>rfl)) (bf (ae (aa 6) (ae (aa 10) ag))))
   (aD (ao (se (aa 8) (aB aC (aB aC (aa 1) (aa 9) (λ_ _=>rfl)) ah (λ_ _=>rfl)) (bf (ae (aa 7) (ae (az bv (aa 10) ah) ag))))))))))))))))
   (aD (tN 8 (ao (cE (aa 8))))))))))))),λds M R _ hS bk=>?_⟩)
 obtain⟨xs,l,Q,ord,B,rfl,hx,d5,d8,hG,b4,d6,a4,b0,ho,k⟩:=hS;refine bk ?_;clear bk;walk_at"";refine⟨sz3 0,λp hp=>am ?_⟩;walk_at"";intro hz;refine bt (λi C L=>∃(g:List (Str×Str)) (x6 x7:Option D),C=[some (D.lst (xs.map D.int)),some (D.lst (l.map stD)),some (D.lst (Q.map D.str)),some (D.tup (ord.map aS)),some (D.str B),some (D.ref p),x6,x7,none,none,none,none]/\L=aG M p (.lst (g.map aS))/\g.length<=10*i/\(∀y∈g,bp y.1=true/\bp y.2=true)/\∀y∈Q.take i,(y,y)∈g) ⟨[],none,none,rfl,rfl,P9 _,λ_ h=>(by cases h),λ_ h=>(by cases h)⟩ ?_ ?_
 ·rintro i d C L X hd ⟨g,x6,x7,rfl,rfl,b6,a1,U⟩ k';obtain⟨m,hm,rfl⟩:=ft hd;refine⟨_,rfl,?_⟩;walk_at"";refine λa9=>⟨a9,?_⟩;refine pE (λj a7 C M2=>M2=aG M p (.lst (g.map aS))/\∃(x:Option D) (os:List Str),C=[none,none,none,some (D.tup (ord.map aS)),none,none,some (D.str m),x,none,none,none,none]/\a7=os.map (λo=>aS (m,o))/\os.length<=j/\(∀o∈os,o∈Q)/\(m∈Q.take j->m∈os)) ⟨rfl,none,[],rfl,rfl,F5 _,λ_ h=>(by cases h),λh=>(by cases h)⟩ ?_ ?_
  ·rintro j d a7 C M2 X2 d0 ⟨rfl,x,os,rfl,rfl,hl,a3,I⟩ k2;obtain⟨o,b9,rfl⟩:=ft d0;refine⟨_,rfl,?_⟩;walk_at"";refine⟨ord,m,o,rfl,ho,?_⟩;have hc:m=o->rB ord m o=true:=λe=>by rw[e];exact lJ.mpr cz.refl
   generalize rB ord m o=c at hc;refine⟨_,rfl,?_⟩;have b3:Q.take (j+1)=Q.take j++[o]:=by rw[R5,b9];rfl
   cases c with
   |true =>
    rw[if_pos rfl];refine⟨sz3 2,k2 _ _ _ ⟨rfl,_,os++[o],rfl,by rw[N1];rfl,by rw[E7,Q9];lia,dR a3 (F7 b9),λh=>?_⟩⟩;rw[b3]at h;rcases K0.mp h with z|z
    ·exact N7 _ (I z)
    ·exact K9 _ z
   |false =>
    rw[if_neg (by simp)];refine k2 _ _ _ ⟨rfl,_,os,rfl,rfl,by lia,a3,λh=>?_⟩;rw[b3]at h;rcases K0.mp h with z|z
    ·exact I z
    ·exact absurd (hc (O9.mp z)) (by simp)
  rintro a7 C M2 ⟨rfl,x,os,rfl,rfl,hl,a3,I⟩;rw[E3]at hl I;rw[R8 (F5 _)]at I;have hi:i<Q.length:=(J8.mp hm).1;have b5:=F7 hm;refine⟨_,bj,by rw[E3,E3];exact sz3 _ (by lia),?_⟩;rw[eZ];refine k' _ _ ⟨g++os.map (λo=>(m,o)),_,_,rfl,by rw[N1,S5];rfl,by rw[E7,E3];lia,λy hy=>?_,λy hy=>?_⟩
  ·rcases K0.mp hy with z|z
   ·exact a1 y z
   ·obtain⟨o,c5,rfl⟩:=O0.mp z;exact⟨b0 m b5,b0 o (a3 o c5)⟩
  ·rw[R5,hm]at hy;rcases K0.mp hy with z|z
   ·exact N7 _ (U y z)
   ·obtain rfl:y=m:=by simpa using z
    exact K9 _ (O0.mpr ⟨y,I b5,rfl⟩)
 ·rintro C L ⟨g,x6,x7,rfl,rfl,b6,a1,U⟩;rw[E3,R8 (F5 _)]at U;rw[E3]at b6;refine am ?_;walk_at"";rw[eS hp,E3,show(2*(l.length:Int)).toNat=2*l.length by lia];refine⟨sz3 2,sz3 1,by lia,by lia,sz3 _ (by lia),λq hq=>am ?_⟩;rw[show(F3 (2*l.length) [D.tup [D.str (R7 ""),D.int 0]]).flatten=(F3 (2*l.length) ((R7 "":Str),(0:Int))).map aI by rw[List.map_replicate,List.flatten_replicate_singleton];rfl];walk_at"";rw[E3,P4];refine⟨by lia,by lia,?_⟩;refine bt (λi C L=>∃(n:Row) (x6 x7 x9 a5 J:Option D),C=[some (D.lst (xs.map D.int)),some (D.lst (l.map stD)),some (D.lst (Q.map D.str)),some (D.tup (ord.map aS)),some (D.str B),some (D.lst (g.map aS)),x6,x7,some (D.ref q),x9,a5,J]/\L=aG M q (.lst (n.map aI))/\n.length=2*l.length/\∀a∈l.take i,kP n a.1/\kP n a.2) ⟨_,_,_,_,_,_,rfl,rfl,by simp,λa h=>(by cases h)⟩ ?_ ?_
  ·rintro i d C L X hd ⟨n,x6,x7,x9,a5,J,rfl,rfl,a8,u⟩ k';obtain⟨hi,rfl⟩:=eT hd;refine⟨_,rfl,?_⟩;rw[af6];obtain⟨xa,c6⟩:∃xa,xs[2*i]?=some xa:=⟨_,E4 (by lia)⟩;obtain⟨xb,c3⟩:∃xb,xs[2*i+1]?=some xb:=⟨_,E4 (by lia)⟩;have ea:atI (xs.map D.int) (2*(i:Int))=some (.int xa):=by
    rw[show(2*(i:Int))=((2*i:Nat):Int)by lia];exact aE (by rw[F4,c6];rfl)
   have eb:atI (xs.map D.int) (2*(i:Int)+1)=some (.int xb):=by
    rw[show(2*(i:Int)+1)=((2*i+1:Nat):Int)by lia];exact aE (by rw[F4,c3];rfl)
   walk_at"";refine⟨_,ea,?_⟩;walk_at"";refine am ?_;walk_at"";refine⟨_,eb,?_⟩;walk_at"";have a':0<g.length:=af2.mpr (List.ne_nil_of_mem (U B a4));obtain⟨v,hv,ev⟩:=gc a' xb;rw[E3];refine⟨_,if_pos (by lia),?_⟩;walk_at"";rw[ev];refine⟨_,aE (by rw[F4,E4 hv];rfl),?_⟩;have a2:=a1 g[v] (P0 _);generalize g[v]=y at a2;obtain⟨y1,y2⟩:=y;simp only[aS,eX,cg,ck,fD,V2];refine⟨_,if_pos rfl,?_⟩;obtain⟨a,b1⟩:∃a,l[i]?=some a:=⟨_,E4 hi⟩;have d1:=F7 b1;have d4:=hG a d1;have b2:atI (l.map stD) (i:Int)=some (stD a):=aE (by rw[F4,b1];rfl);refine am (iZ (λY L=>∃(O S:Str),Y=[some (D.lst (xs.map D.int)),some (D.lst (l.map stD)),some (D.lst (Q.map D.str)),some (D.tup (ord.map aS)),some (D.str B),some (D.lst (g.map aS)),some (D.str O),some (D.str S),some (D.ref q),some (D.int (i:Int)),some (D.int (xa % 5-2)),J]/\L=aG M q (.lst (n.map aI))/\bp O=true/\bp S=true) (λnx Z=>?_) ?_)
   ·walk_at"";refine aT (λc1=>am ?_) (λc1=>Z _ _ ⟨y1,y2,rfl,rfl,a2⟩);walk_at"";refine⟨sz3 2,?_⟩;simp only[eX,cg,ck,fD,V2];exact⟨_,if_pos rfl,Z _ _ ⟨y2,y1,rfl,rfl,a2.2,a2.1⟩⟩
   rintro Y L ⟨O,S,rfl,rfl,c2,d2⟩;refine am (iZ (λY L=>∃(O S:Str) (t:Int) (J:Option D),Y=[some (D.lst (xs.map D.int)),some (D.lst (l.map stD)),some (D.lst (Q.map D.str)),some (D.tup (ord.map aS)),some (D.str B),some (D.lst (g.map aS)),some (D.str O),some (D.str S),some (D.ref q),some (D.int (i:Int)),some (D.int t),J]/\L=aG M q (.lst (n.map aI))/\uI (O,t)/\uI (S,t+1)) (λnx Z=>?_) ?_)
   ·walk_at"";refine⟨_,b2,?_⟩;simp only[stD];walk_at"";rw[E3];refine aT (λc1=>am ?_) (λc1=>Z _ _ ⟨O,S,_,_,rfl,rfl,⟨c2,by show -2<=xa % 5-2;lia,by show xa % 5-2<=3;lia⟩,⟨d2,by show -2<=xa % 5-2+1;lia,by show xa % 5-2+1<=3;lia⟩⟩);walk_at"";refine am ?_;walk_at"";refine λa9=>⟨a9,?_⟩;refine bx aS (λy=>y.2==B) (λy=>D.str y.1) (λC=>∃x,C=[none,none,none,none,some (D.str B),none,none,none,none,none,none,none,x]) g _ _ (λy hy C c'=>?_) ⟨none,rfl⟩ ?_
    ·obtain⟨x,rfl⟩:=c';refine⟨_,rfl,⟨_,rfl⟩,λQ1 q=>?_,λ_ Q2 q=>?_⟩
     ·simp only[aS];walk_at"";exact q
     ·simp only[aS];walk_at"";exact q
    rw[L6];have b':0<(g.filter λy=>y.2==B).length:=af2.mpr (List.ne_nil_of_mem (af7.mpr ⟨U B a4,beq_self_eq_true B⟩));have b8:∀y∈g.filter (λy=>y.2==B),bp y.1=true:=λy hy=>(a1 y (af7.mp hy).1).1;generalize g.filter (λy=>y.2==B)=bl at b' b8;refine am ?_;walk_at"";refine⟨_,eb,?_⟩;walk_at"";obtain⟨v,hv,ev⟩:=gc b' xb;rw[E3];refine⟨_,if_pos (by lia),?_⟩;walk_at"";rw[ev];refine⟨_,aE (by rw[F4,E4 hv];rfl),?_⟩;refine⟨sz3 2,?_⟩;simp only[eX,cg,ck,fD,V2];exact⟨_,if_pos rfl,Z _ _ ⟨bl[v].1,B,0,_,rfl,rfl,⟨b8 _ (P0 _),by show(-2:Int)<=0;decide,by show(0:Int)<=3;decide⟩,⟨b0 B a4,by show(-2:Int)<=0+1;decide,by show(0+1:Int)<=3;decide⟩⟩⟩
   rintro Y L ⟨O,S,t,d3,rfl,rfl,a6,a0⟩;refine am ?_;walk_at"";refine⟨sz3 2,_,b2,?_⟩;simp only[stD];walk_at"";rw[E3];refine⟨_,kW (by lia:a.1<n.length),am ?_⟩;walk_at"";refine⟨sz3 2,_,b2,?_⟩;simp only[stD];walk_at"";rw[X9,E3];refine⟨_,kW (by lia:a.2<n.length),?_⟩;have e5:((n.map aI).set a.1 (D.tup [D.str O,D.int t])).set a.2 (D.tup [D.str S,D.int (t+1)])=((n.set a.1 (O,t)).set a.2 (S,t+1)).map aI:=by
    rw[List.map_set,List.map_set];rfl
   rw[e5];refine k' _ _ ⟨_,_,_,_,_,_,rfl,rfl,by rw[X9,X9];exact a8,λb hb=>?_⟩;rw[R5,b1]at hb;have n2:kP ((n.set a.1 (O,t)).set a.2 (S,t+1)) a.2:=kP.new (by rw[X9];lia) a0;have n1:kP ((n.set a.1 (O,t)).set a.2 (S,t+1)) a.1:=(kP.new (by lia) a6).set a0;rcases K0.mp hb with z|z
   ·exact⟨((u b z).1.set a6).set a0,((u b z).2.set a6).set a0⟩
   ·obtain rfl:b=a:=by simpa using z
    exact⟨n1,n2⟩
  ·rintro C L ⟨n,x6,x7,x9,a5,J,rfl,rfl,a8,u⟩;refine am ?_;walk_at"";rw[eS hq];refine⟨M,λa o e=>e,k n a8 λs hs=>?_⟩;rw[cm,R8 (F5 _)]at u;obtain⟨j,hj,rfl⟩:=U8.mp hs;obtain⟨a,ha,ea⟩:=b4 j (by lia);have c0:kP n j:=by
    rcases ea with rfl|rfl
    ·exact(u a ha).1
    ·exact(u a ha).2
   obtain⟨s,h1,h2⟩:=c0;rw[E4 hj]at h1;cases h1;exact h2
def tO:SpD:=λf M R=>∃(e:List Int) (b:Row),f=[.lst (e.map D.int),.lst (b.map aI)]/\8<=e.length/\(∀x∈e,0<=x/\x<720720)/\b.length<=11/\∀a:List Row,a.flatten=b->a.length<=8->(∀c∈a,c.length<=5)->R (.lst (a.map cn)) M
theorem xm(F:Fun K "_law_cut" "_law_cut" ph f fd)(T:Txt G):aU P w K G base CX0 1 f fd ["_law_xs","_law_signs_here"] (spD K 2 tO):=by
 have J:=qa.nd;refine F.okR rfl qa (λa6 A S s H E Y=>⟨_,(ai (aF (i:=2) J rfl (L7 rfl) (dI ag))
   (ai (aF (i:=3) J rfl (L7 rfl) (aQ i8 rfl T.b_list (by kernel_rfl) (ae (aa 1) ag)))
   (aD (ai (oH O5 (aH (j8 Y.units) (aa 3) (cA ag) nbh) (ai (aF (i:=4) J rfl (L7 rfl) (av (Ae rfl) rfl T.b_max (by kernel_rfl) (ae (az bv ah (az bc (aB aC (aa 0) (av ba rfl T.b_len (by kernel_rfl) (ae (aa 2) ag)) (λ_ _=>rfl)) ah)) (ae (az gS (az cw (az bv (av ba rfl T.b_len (by kernel_rfl) (ae (aa 3) ag)) ah) (av ba rfl T.b_len (by kernel_rfl) (ae (aa 2) ag))) (az cw ah (av ba rfl T.b_len (by kernel_rfl) (ae (aa 2) ag)))) ag))))
   (aD (ai (aZ (fE (gO (aH gV (av ba rfl T.b_len (by kernel_rfl) (ae (aa 2) ag)) ah nbh) (fU (aH (fb Y.units) (az bc (aB aC (aa 0) (av ba rfl T.b_len (by kernel_rfl) (ae (aa 2) ag)) (λ_ _=>rfl)) ah) ah nbh)))) (ao (aF (i:=4) J rfl (L7 rfl) ah)) aN)
   (aD (ai (cF (gu (aa 2) (aQ bW rfl T.b_tuple (by kernel_rfl) (ae (aV (aa 3) bu (bh (aa 4))) ag))))
   (aD (ao (aF (i:=3) J rfl (L7 rfl) (aV (aa 3) (bh (aa 4)) bu))))))))))
   (aD (ao (lG (aa 2)))))))),λds M R _ hS bk=>?_⟩)
 obtain⟨N,g,rfl,hx,X,hl,k⟩:=hS;refine bk ?_;clear bk;walk_at"";refine⟨sz3 0,λp hp=>?_⟩;refine⟨_,rfl,am ?_⟩;walk_at"";refine⟨λm Δ u=>∃(a:List Row) (left:Row) (Z:Option D),Δ=[some (D.lst (N.map D.int)),some (D.lst (g.map aI)),some (D.ref p),some (D.lst (left.map aI)),Z]/\u=aG M p (.lst (a.map cn))/\a.flatten++left=g/\(left≠[]->a.length<=7)/\a.length<=8/\(∀c∈a,c.length<=5)/\(left.length<=2*(8-a.length))/\m=8-a.length,⟨8,[],g,none,rfl,rfl,rfl,λ_=>by decide,by decide,(λ_ h=>(by cases h)),(show g.length<=2*8 by lia),rfl⟩,?_⟩;rintro m Δ u ⟨a,left,Z,rfl,rfl,hfl,h7,h8,h5,h2,rfl⟩;walk_at"";refine⟨sz3 0,_,yl (b:=[]),_,rfl,aT (λU=>?_) (λU=>?_)⟩
 ·have Q:left≠[]:=by simpa using U
  have a3:=h7 Q;have a2:left.length<=11:=by
   have:=congrArg aa3 hfl;rw[E7]at this
   lia
  obtain⟨x,q⟩:∃x,N[a.length]?=some x:=⟨_,E4 (by lia)⟩;have a4:=X x (F7 q);have n:atI (N.map D.int) (a.length:Int)=some (.int x):=aE (by rw[F4,q];rfl);rw[E3];refine⟨_,n,?_⟩;walk_at"";have a5:(a.length:Int)<=7:=by lia
  have z:mI ((left.length:Int)+7-a.length) (8-a.length):=⟨by lia,by lia⟩;rw[E3];refine⟨_,if_pos z,?_⟩;walk_at"";obtain⟨sz,O,B,L⟩:∃sz:Nat,(if((left.length:Int)+7-a.length) / (8-a.length) > 1+x % 5 then((left.length:Int)+7-a.length) / (8-a.length)else 1+x % 5)=(sz:Int)/\sz<=5/\left.length<=sz+2*(7-a.length):=by
   clear z n q k;generalize a.length=k at *
   generalize left.length=l at *
   rcases(by lia:k=0∨k=1∨k=2∨k=3∨k=4∨k=5∨k=6∨k=7)with rfl|rfl|rfl|rfl|rfl|rfl|rfl|rfl
   all_goals
    split
    ·exact⟨_,(V6 (by lia)).symm,by lia,by lia⟩
    ·exact⟨_,(V6 (by lia)).symm,by lia,by lia⟩
  rw[O];refine am (iZ (λC u=>∃sz:Nat,C=[some (D.lst (N.map D.int)),some (D.lst (g.map aI)),some (D.ref p),some (D.lst (left.map aI)),some (D.int (sz:Int))]/\u=aG M p (.lst (a.map cn))/\sz<=5/\left.length<=sz+2*(7-a.length)) (λnx o=>?_) ?_)
  ·walk_at"";rw[E3];refine aT (λc2=>?_) (λc2=>o _ _ ⟨sz,rfl,rfl,B,L⟩);refine⟨_,n,?_⟩;walk_at"";exact aT (λc3=>o _ _ ⟨0,rfl,rfl,by lia,by lia⟩) (λc3=>o _ _ ⟨sz,rfl,rfl,B,L⟩)
  rintro C u ⟨j,rfl,rfl,a1,a0⟩;refine am ?_;walk_at"";rw[jj,<-ae0];refine⟨by rw[E3];exact F6 (by lia:a.length<1000) (sz3 1000),am ?_⟩;walk_at"";rw[fF,<-ag8];refine⟨8-(a++[left.take j]).length,by rw[E7];simp;lia,a++[left.take j],left.drop j,some (D.int (j:Int)),⟨rfl,rfl⟩,by rw[N1];rfl,?_,λI=>?_,by rw[E7];simp;lia,dR h5 (by rw[O8];lia),by rw[E7,U0];simp;lia,rfl⟩
  ·rw[List.flatten_append,ad4];simp only[X5,List.flatten_nil,S3];rw[List.take_append_drop];exact hfl
  ·rw[E7];simp only[Q6,Z1]
   by_cases e:a.length=7
   ·exact absurd (List.drop_of_length_le (by lia)) I
   ·lia
 ·have t:left=[]:=by simpa using U
  refine am ?_;walk_at"";rw[eS hp];rw[t,S3]at hfl;exact k a hfl h8 h5
def og:SpD:=λf M R=>∃(kd:Row) (e:List Int) (b:List Str),f=[cn kd,.lst (e.map D.int),.lst (b.map D.str)]/\5<=e.length/\(∀x∈e,0<=x/\x<720720)/\0<b.length/\b.length<=10/\(kd.length<=5/\rO kd)/\(∀m∈b,bp m=true)/\∀a:List Row,kd∈a->a.length<=2->a.Nodup->(∀r∈a,r.length<=5/\rO r)->R (bT a) M
theorem qY(F:Fun K "_law_kinds" "_law_kinds" iy f fd)(T:Txt G):aU P w K G base CX0 1 f fd ["_law_kind","_law_xs","_law_marks"] (spD K 3 og):=by
 have u:=l9.nd;refine F.okR rfl l9 (λa5 A U s H E C=>⟨_,(ai (aF (i:=3) u rfl (L7 rfl) (bf (ae (aa 0) ag)))
   (aD (ai (aZ (aH (fb C.units) (az bc (aB aC (aa 1) ah (λ_ _=>rfl)) ah) ah nbh) (aD (ai (iB (i:=4) u rfl rfl rfl (ms:=[false,false,true,false,false]) (ar:=["_law_x"]) (aP rfl (show bo (ak iy) jX _ _=true from by decide +kernel)) rfl (bb (aV (aa 1) (bh ah) (bh ah))) (aL (i:=5) (show(jX++_).Nodup from by decide +kernel) rfl rfl) (λ_ _ _ _=>bS) (λ_ _ _ _=>(bf (ae (aB aC (aa 2) (az bc (aa 5) (av ba rfl T.b_len (by kernel_rfl) (ae (aa 2) ag))) (λ_ _=>rfl)) (ae (az cw (az bc (az gS (aa 5) ah) ah) ah) ag)))))
   (aD (ai (aF (i:=4) u rfl (L7 rfl) (aQ bW rfl T.b_tuple (by kernel_rfl) (ae (aV (aa 4) bu (bh (az bc (aB aC (aa 1) ah (λ_ _=>rfl)) ah))) ag)))
   (aD (ao (aZ (fE (gO (aH (j8 C.units) (aa 4) (aa 0) nbh) (fU (aH (fb C.units) (az bc (aB aC (aa 1) ah (λ_ _=>rfl)) ah) ah nbh)))) (ao (aF (i:=3) u rfl (L7 rfl) (bf (ae (aa 4) (ae (aa 0) ag))))) (ao (aZ (aH (j8 C.units) (aa 4) (aa 0) nbh) (ao (aF (i:=3) u rfl (L7 rfl) (bf (ae (aa 0) (ae (aa 4) ag))))) aN))))))))) aN)
   (aD (ao (aX (aa 3))))))),λds M R _ hS bk=>?_⟩)
 obtain⟨kd,g,a,rfl,hx,a7,l,hm,X,S,k⟩:=hS;refine bk ?_;clear bk;simp only[cn];walk_at"";refine⟨sz3 1,am ?_⟩;walk_at"";obtain⟨x0,Y⟩:∃x,g[0]?=some x:=⟨_,E4 (by lia)⟩;have J:atI (g.map D.int) 0=some (.int x0):=aE (j:=0) (by rw[F4,Y];rfl);refine⟨_,J,?_⟩;walk_at"";have b:R (bT [kd]) M:=k [kd] (by simp) (by simp) (by simp) (by simpa using X);refine aT (λc1=>am ?_) (λc1=>am ?_)
 ·walk_at"";obtain⟨m,n,a4,a6⟩:=w9 (xs:=g) (lo:=some 2) (hi:=some 4);rw[n];refine λhz=>⟨hz,?_⟩;refine bx D.int (λ_=>true) (λx=>aI (a.getD (x % (a.length:Int)).toNat "",x / 8 % 5-2)) (λΔ=>∃x,Δ=[none,none,some (D.lst (a.map D.str)),none,none,x]) m _ _ (λx a8 Δ O=>?_) ⟨none,rfl⟩ ?_
  ·obtain⟨x1,rfl⟩:=O;refine⟨_,rfl,⟨_,rfl⟩,λQ1 q=>q,λ_ Q2 q=>?_⟩;obtain⟨v,B,I⟩:=gc l x;walk_at"";rw[E3];refine⟨_,if_pos (by lia),?_⟩;walk_at"";rw[I];refine⟨_,aE (by rw[F4,E4 B];rfl),?_⟩;refine⟨sz3 2,?_⟩;rw[I,P4]at q;simp only[K6,E4 B,Option.getD_some]at q;exact q
  rw[L6,Q0.mpr (λ_ _=>rfl)];have p:rO (m.map λx=>(a.getD (x % (a.length:Int)).toNat "",x / 8 % 5-2)):=λs Q=>by
   obtain⟨y,_,rfl⟩:=O0.mp Q;obtain⟨v,B,I⟩:=gc l y;refine⟨?_,by show -2<=y / 8 % 5-2;lia,by show y / 8 % 5-2<=3;lia⟩;show bp (a.getD (y % (a.length:Int)).toNat "")=true;rw[I,P4,K6,E4 B];exact S _ (P0 _)
  have a3:m.length<=2:=by
   have h0:=congrArg aa3 n;rw[E3]at h0;rw[<-h0];unfold L2.cY;rw[show(2:Int)=((2:Nat):Int)from rfl,show(4:Int)=((4:Nat):Int)from rfl,HT.sIx_nat,HT.sIx_nat,O8]
   lia
  generalize o:(m.map λx=>(a.getD (x % (a.length:Int)).toNat "",x / 8 % 5-2))=rs at p;have e1:(m.map λx=>aI (a.getD (x % (a.length:Int)).toNat "",x / 8 % 5-2))=rs.map aI:=by rw[<-o,S5];rfl
  rw[e1];obtain⟨y1,Z⟩:∃x,g[1]?=some x:=⟨_,E4 (by lia)⟩;have a0:atI (g.map D.int) 1=some (.int y1):=aE (j:=1) (by rw[F4,Z];rfl);obtain⟨y4,L⟩:∃x,g[4]?=some x:=⟨_,E4 (by lia)⟩;have a2:atI (g.map D.int) 4=some (.int y4):=aE (j:=4) (by rw[F4,L];rfl);refine am ?_;walk_at"";refine⟨_,a0,?_⟩;walk_at"";obtain⟨N,a1⟩:∃v:Nat,y1 % 3=(v:Int):=⟨(y1 % 3).toNat,by lia⟩;rw[a1,jj,<-ae0];have h:(rs.take N).length<=5/\rO (rs.take N):=by
   refine⟨?_,λs Q=>p s (T6 Q)⟩;rw[O8,<-o,E3]
   lia
  generalize rs.take N=more at h;refine am ?_;walk_at"";refine⟨_,oj,_,rfl,?_⟩;have t:more≠kd->R (bT [more,kd]) M:=λz=>k _ (by simp) (by simp) (by simp[z]) (by simp;exact⟨h,X⟩);have e:more≠kd->R (bT [kd,more]) M:=λz=>k _ (by simp) (by simp) (by simp[T7 z]) (by simp;exact⟨X,h⟩);refine aT (λc2=>⟨_,a2,?_⟩) (λc2=>⟨_,oj,_,rfl,aT (λc4=>⟨sz3 2,am ?_⟩) (λ_=>am ?_)⟩)
  ·have c5:more≠kd:=by simpa using c2
   walk_at"";refine aT (λc3=>⟨sz3 2,am ?_⟩) (λc3=>⟨_,oj,_,rfl,aT (λ_=>⟨sz3 2,am ?_⟩) (λ_=>am ?_)⟩)
   ·walk_at"";exact t c5
   ·walk_at"";exact e c5
   ·walk_at"";exact b
  ·walk_at"";exact e (by simpa using c4)
  ·walk_at"";exact b
 ·walk_at"";exact b
theorem AO{xs:List D}:L2.cY xs none (some (-1))=xs.dropLast:=by
 unfold L2.cY;rw[HT.sIx_none,List.drop_zero,Nat.sub_zero,List.dropLast_eq_take];congr 1;show(if(-1:Int)<0 then(-1+(xs.length:Int)).toNat else min (-1:Int).toNat xs.length)=_;rw[if_pos (by decide)]
 lia
theorem vX(x y:Row):eqD (cn x) (cn y)=decide (x=y):=by
 simp only[cn,eqD];exact jm aI lu
theorem wW{ks:List Row}{a:Row}(f:ks.length<=2)(h:a∈ks):∃j,kK (ks.map cn) (cn a)=some j/\ks[j]?=some a:=by
 have i:dLe (cn a) 59=true:=(cb (n:=58)).mpr λd b=>by
  obtain⟨x,_,rfl⟩:=O0.mp b;rfl
 have g:dm (ks.map cn) 59=true:=de cn λx=>(cb (n:=58)).mpr λd b=>by
  obtain⟨y,_,rfl⟩:=O0.mp b;rfl
 unfold kK;rw[if_pos ⟨i,g,by rw[E3];exact Nat.lt_of_le_of_lt f (by decide)⟩];clear i g f
 induction ks with
 |nil=>cases h
 |cons k l ih =>
  rw[J1,List.findIdx?_cons,vX]
  by_cases e:k=a
  ·subst e;exact⟨0,by simp,rfl⟩
  ·rw[decide_eq_false e];have o:a∈l:=by
    rcases I0.mp h with q|q
    ·exact absurd q.symm e
    ·exact q
   obtain⟨j,p,m⟩:=ih o;refine⟨j+1,?_,by rw[X1];exact m⟩;rw[p];rfl
theorem CS{c n:Nat}(h:n<=1000):md (.str (tx [c])) (.int (n:Int))=some (.str (tx (F3 n c))):=by
 have e:md (.str (tx [c])) (.int (n:Int))=if(tx [c]).length<=16777216/\-(2 ^ 63)<=(n:Int)/\(n:Int)<=16777216/\(tx [c]).length*(n:Int).toNat<=16777216 then some (.str (Txt.mul (tx [c]) (n:Int)))else none:=rfl
 rw[e,if_pos (by rw[oK];simp;lia),rf]
theorem jL{i n:Type}{f:i->n}:∀{l:List i},(∀a b,a∈l->b∈l->f a=f b->a=b)->l.Nodup->(l.map f).Nodup
 |[],_,_=>List.nodup_nil
 |x::l,h,p=>by
  rw[J1,ab0];obtain⟨s,q⟩:=ab0.mp p;refine⟨λm=>?_,jL (λa b j o=>h a b (.tail _ j) (.tail _ o)) q⟩;obtain⟨y,g,e⟩:=O0.mp m;obtain rfl:=h y x (.tail _ g) (.head _) e;exact s g
theorem Dx:md (.lst [.int 720720]) (.int 98)=some (.lst ((F3 98 (720720:Int)).map D.int)):=by
 have e:md (.lst [.int 720720]) (.int 98)=if -(2 ^ 63)<=(98:Int)/\(98:Int)<2 ^ 63/\[D.int 720720].length*(98:Int).toNat<=F2 then some (.lst (F3 (98:Int).toNat [D.int 720720]).flatten)else none:=rfl
 rw[e,if_pos ⟨by decide,by decide,sz3 _ (by decide)⟩];rfl
theorem oX.at{n:Nat}{xs:List Int}(h:oX n xs){i:Int}(hi:0<=i/\i<n):∃x,atI (xs.map D.int) i=some (.int x)/\0<=x/\x<720720:=by
 obtain⟨j,rfl⟩:=X3 hi.1;have a:j<xs.length:=by rw[h.1];lia
 exact⟨xs[j],aE (by rw[F4,E4 a];rfl),h.2 _ (P0 _)⟩
theorem oX.drop{n m:Nat}{xs:List Int}(h:oX n xs):oX (n-m) (xs.drop m):=⟨by rw[U0,h.1],λx a=>h.2 x (U9 a)⟩
theorem nu{c n:Nat}(e:c∈fO)(b:1<=n)(f:n<=8):bp (tx (F3 n c))=true:=by
 have l:(tx (F3 n c)).length=n:=by rw[oK,Z7]
 unfold bp;rw[l,ip,decide_eq_true b,decide_eq_true f,ad9,ad9,N3];intro d a;rw[List.eq_of_mem_replicate a];exact decide_eq_true e
def jt:SpD:=λh M R=>∃c:Int,h=[.int c]/\∀(ord:List (Str×Str)) (g:Str) (e:List (Str×List Row)) (f:List Nat) (b:List (Nat×Nat)),LxP ord g e->e≠[]->f.length<=8->(∀c∈f,c<=1)->b.length<=6->(∀a∈b,a.1<a.2/\a.2<12)->R (.tup [c7 ord g e,.tup ((e.map (·.1)).map D.str),.tup [.tup (bI f),.tup (b.map stD)]]) M
theorem m3(F:Fun K "_law_sentence" "_law_sentence" dg f fd)(T:Txt G)(Y6:FnD P w K G base "_law_parts" 1 2 kh)(d':FnD P w K G base "_law_matched" 1 2 kB)(e9:FnD P w K G base "_law_signs" 2 5 ny)(f8:FnD P w K G base "_law_cut" 1 2 tO)(d0:FnD P w K G base "_law_letters" 1 2 kn)(f5:FnD P w K G base "_law_kinds" 1 3 og):aU P w K G base CX0 3 f fd ["_law_cell"] (spD K 1 jt):=by
 have C:=iU.nd;refine F.okR rfl iU (λi1 A e7 s H E hr=>⟨_,(ai (aF (i:=1) C rfl (ai9 rfl) (qd Y6 hr (ae (aa 0) (ae (az bZ (cA (ae ah ag)) ah) ag))))
   (aD (ai (aF (i:=2) C rfl (ai9 rfl) (aV (qd d0 hr (ae (aa 1) (ae ah ag))) bu (bh (az bv ah (az bc (aB aC (aa 1) ah (λ_ _=>rfl)) ah)))))
   (aD (ai (iB (i:=3) C rfl rfl rfl (ms:=[false,true,false,false,false,false,false,false,false,false,false,false,false,false]) (ar:=["_law_sign"]) (aP rfl (show bo (ak dg) cW _ _=true from by decide +kernel)) rfl (bb (qd d0 hr (ae (aV (aa 1) (bh ah) bu) (ae ah ag)))) (aL (i:=14) (show(cW++_).Nodup from by decide +kernel) rfl rfl) (λ_ _ _ _=>bS) (λ_ _ _ _=>(az bZ (aa 14) (az bv ah (az bc (az gS (aB aC (aa 1) ah (λ_ _=>rfl)) ah) ah)))))
   (aD (ai (iB (i:=5) C rfl rfl rfl (ms:=[false,true,true,false,false,false,false,false,false,false,false,false,false,false]) (ar:=[]) (aP rfl (show bo (ak dg) cW _ _=true from by decide +kernel)) rfl (ix rfl T.b_range (ae ah ag)) (aL (i:=4) (show(cW++_).Nodup from by decide +kernel) rfl rfl) (λ_ _ _ _=>bS) (λ_ _ _ _=>(bf (ae (aB aC (aa 2) (az bc (aB aC (aa 1) (az bv ah (az bZ ah (aa 4))) (λ_ _=>rfl)) (av ba rfl T.b_len (by kernel_rfl) (ae (aa 2) ag))) (λ_ _=>rfl)) (ae (aB aC (aa 2) (az bc (aB aC (aa 1) (az bv ah (az bZ ah (aa 4))) (λ_ _=>rfl)) (av ba rfl T.b_len (by kernel_rfl) (ae (aa 2) ag))) (λ_ _=>rfl)) ag)))))
   (aD (ai (aF (i:=6) C rfl (L7 rfl) (aQ bW rfl T.b_tuple (by kernel_rfl) (ae (aV (aa 5) bu (bh (az bc (aB aC (aa 1) ah (λ_ _=>rfl)) ah))) ag)))
   (aD (ai (aF (i:=7) C rfl (L7 rfl) (aB aC (aa 2) (az bc (aB aC (aa 1) ah (λ_ _=>rfl)) (av ba rfl T.b_len (by kernel_rfl) (ae (aa 2) ag))) (λ_ _=>rfl)))
   (aD (ai (aF (i:=8) C rfl (L7 rfl) (qd d' hr (ae (aV (aa 1) (bh ah) bu) (ae (az bv ah (az bc (aB aC (aa 1) ah (λ_ _=>rfl)) ah)) ag))))
   (aD (ai (aF (i:=9) C rfl (L7 rfl) (qd e9 hr (ae (aV (aa 1) (bh ah) bu) (ae (aa 8) (ae (aa 2) (ae (aa 6) (ae (aa 7) ag)))))))
   (aD (ai (aF (i:=10) C rfl (L7 rfl) (qd f8 hr (ae (aV (aa 1) (bh ah) bu) (ae (aV (aa 9) bu (bh (xT yT ah))) ag))))
   (aD (ai (aF (i:=11) C rfl (L7 rfl) (dI ag))
   (aD (ai (aF (i:=12) C rfl (L7 rfl) (dI ag))
   (aD (ai (fq O5 rfl (ix rfl T.b_range (ae (av ba rfl T.b_len (by kernel_rfl) (ae (aa 10) ag)) ag)) (aR (i:=4) C rfl (L7 rfl)) (ai (aF (i:=13) C rfl (L7 rfl) (qd f5 hr (ae (aB aC (aa 10) (aa 4) (λ_ _=>rfl)) (ae (aV (aa 1) (bh (az bv ah (az bZ ah (aa 4)))) bu) (ae (aa 2) ag)))))
   (aD (ai (cF (gu (aa 11) (bf (ae (aB aC (aa 3) (aa 4) (λ_ _=>rfl)) (ae (aa 13) ag)))))
   (aD (ao (cF (gu (aa 12) (AS hr.units (aa 13) (aB aC (aa 10) (aa 4) (λ_ _=>rfl)))))))))))
   (aD (ao (cE (bf (ae (bf (ae (aa 6) (ae (aa 7) (ae (aQ bW rfl T.b_tuple (by kernel_rfl) (ae (aa 11) ag)) ag)))) (ae (aQ bW rfl T.b_tuple (by kernel_rfl) (ae (aV (aa 3) bu (bh (av ba rfl T.b_len (by kernel_rfl) (ae (aa 10) ag)))) ag)) (ae (bf (ae (aQ bW rfl T.b_tuple (by kernel_rfl) (ae (aa 12) ag)) (ae (aQ bW rfl T.b_tuple (by kernel_rfl) (ae (aa 8) ag)) ag))) ag)))))))))))))))))))))))))))))),λds M R _ hS bk=>?_⟩)
 obtain⟨c,rfl,k⟩:=hS;refine bk ?_;clear bk;walk_at"";refine⟨sz3 1,_,Dx,c,_,rfl,by rw[Z7];decide,λs hs=>by rw[List.eq_of_mem_replicate hs];decide,λS Q=>am ?_⟩;replace Q:=vK Q;have h5:=Q.1;have B:=λ(i:Int) (h:0<=i/\i<98)=>Q.at (i:=i) h;obtain⟨c2,e3,i2,i0⟩:=B 14 (by decide);obtain⟨a2,b9,i5,h6⟩:=B 15 (by decide);obtain⟨b3,f0,h',h8⟩:=B 16 (by decide);obtain⟨d4,d5,h3,h2⟩:=B 25 (by decide);walk_at"";refine⟨S,4,rfl,by lia,by decide,Q.2,λcs g5 i' f7=>?_⟩;walk_at"";refine⟨_,b9,?_⟩;walk_at"";obtain⟨n4,e4,l4⟩:∃n:Nat,1+a2 % 4=(n:Int)/\1<=n/\n<=4:=⟨(1+a2 % 4).toNat,by lia,by lia⟩;rw[e4,jj,<-ae0];have f':(cs.take n4).length=n4:=by rw[O8];lia
 have c3:((cs.take n4).map λc=>D.str (tx [c]))=((cs.take n4).map λc=>tx [c]).map D.str:=by rw[S5];rfl
 rw[c3];obtain⟨o,O⟩:∃o,o=(cs.take n4).map λc=>tx [c]:=⟨_,rfl⟩;rw[<-O];have a0:0<o.length:=by rw[O,E3];lia
 have a4:o.length<=10:=by rw[O,E3];lia
 have t:∀m∈o,bp m=true:=λm hm=>by
  rw[O]at hm;obtain⟨c',Y,rfl⟩:=O0.mp hm;exact nu (n:=1) (f7 c' (T6 Y)) (by decide) (by decide)
 clear c3 O f';refine am ?_;walk_at"";refine⟨S.drop 4,10,by rw[show((4:Int))=((4:Nat):Int)from rfl,fF,<-ag8];rfl,by rw[U0];lia,by decide,Q.drop.2,λb2 f6 d7 f4=>?_⟩;walk_at"";obtain⟨nw,h1,h4⟩:∃n:Nat,1+a2 / 4 % 8=(n:Int)/\1<=n/\n<=8:=⟨(1+a2 / 4 % 8).toNat,by lia,by lia⟩;refine λhz=>⟨hz,?_⟩;refine bx (λ(c:Nat)=>D.str (tx [c])) (λ_=>true) (λc=>D.str (tx (F3 nw c))) (λU=>∃x,U=[none,some (D.lst (S.map D.int)),none,none,none,none,none,none,none,none,none,none,none,none,x]) b2 _ _ (λc' Y U f3=>?_) ⟨none,rfl⟩ ?_
 ·obtain⟨x,rfl⟩:=f3;refine⟨_,rfl,⟨_,rfl⟩,λQ1 q=>q,λ_ Q2 q=>?_⟩;walk_at"";refine⟨_,b9,?_⟩;walk_at"";rw[h1];exact⟨_,CS (by lia),q⟩
 rw[L6,Q0.mpr (λ_ _=>rfl)];obtain⟨W,hW⟩:∃W,W=b2.map λc=>tx (F3 nw c):=⟨_,rfl⟩;have h9:W.length=10:=by rw[hW,E3,f6]
 have f9:W.Nodup:=by
  rw[hW];refine jL (λa b ha hb e=>?_) d7;have e2:=congrArg (λz:Str=>z.cps.toList) e;simp only[ip]at e2;obtain⟨j,rfl⟩:∃j,nw=j+1:=⟨nw-1,by lia⟩;rw[P8,P8]at e2;exact(T9.inj e2).1
 have g1:∀w∈W,bp w=true:=λw hw=>by
  rw[hW]at hw;obtain⟨c',Y,rfl⟩:=O0.mp hw;exact nu (f4 c' Y) (by lia) (by lia)
 rw[show(b2.map λc=>D.str (tx (F3 nw c)))=W.map D.str by rw[hW,S5];rfl];clear hW;refine am ?_;walk_at"";refine⟨by rw[cm];exact sz3 4,?_⟩;refine pE (λi a7 U M'=>∃(g:List (Str×Str)) (x4:Option D),U=[none,some (D.lst (S.map D.int)),some (D.lst (o.map D.str)),none,x4,none,none,none,none,none,none,none,none,none]/\M'=M/\a7=g.map aS/\g.length=i/\∀p∈g,bp p.1=true/\bp p.2=true) ⟨[],none,rfl,rfl,rfl,rfl,λ_ h=>by cases h⟩ ?_ ?_
 ·rintro i d a7 U M' X hd ⟨g,x4,rfl,rfl,rfl,a9,a8⟩ k';obtain⟨hi,rfl⟩:=eT hd;refine⟨_,rfl,?_⟩;rw[af6];simp only[xv,if_true];obtain⟨u1,g2,_,_⟩:=B (17+2*(i:Int)) (by lia);obtain⟨u2,e',_,_⟩:=B (18+2*(i:Int)) (by lia);obtain⟨v1,h0,f1⟩:=gc a0 u1;obtain⟨v2,g',d6⟩:=gc a0 u2;walk_at"";refine⟨_,g2,?_⟩;walk_at"";rw[E3];refine⟨_,if_pos (by lia),?_⟩;walk_at"";rw[f1];refine⟨_,aE (by rw[F4,E4 h0];rfl),?_⟩;refine⟨_,e',?_⟩;walk_at"";refine⟨_,if_pos (by lia),?_⟩;walk_at"";rw[d6];refine⟨_,aE (by rw[F4,E4 g'];rfl),sz3 2,k' _ _ _ ⟨g++[(o[v1],o[v2])],_,rfl,rfl,by rw[N1];rfl,by rw[E7,a9];rfl,dR a8 ⟨t _ (P0 _),t _ (P0 _)⟩⟩⟩
 rintro a7 U M' ⟨g,x4,rfl,rfl,rfl,a9,a8⟩;rw[cm]at a9;refine am ?_;walk_at"";refine⟨_,f0,?_⟩;walk_at"";obtain⟨n5,e5⟩:∃n:Nat,b3 % 5=(n:Int):=⟨(b3 % 5).toNat,by lia⟩;rw[e5,jj,<-ae0];have b5:(g.take n5).length<=8/\∀p∈g.take n5,bp p.1=true/\bp p.2=true:=⟨by rw[O8];lia,λp hp=>a8 p (T6 hp)⟩;generalize g.take n5=ord at b5;refine am ?_;walk_at"";refine⟨_,d5,?_⟩;walk_at"";rw[E3];refine⟨_,if_pos (by lia),?_⟩;walk_at"";obtain⟨vg,g7,g8⟩:=gc a0 d4;rw[g8];refine⟨_,aE (by rw[F4,E4 g7];rfl),?_⟩;have b4:o[vg]∈o:=P0 _;generalize o[vg]=au at b4;refine am ?_;walk_at"";refine⟨_,e3,?_⟩;walk_at"";obtain⟨n6,e6,l6⟩:∃n:Nat,1+c2 % 6=(n:Int)/\1<=n/\n<=6:=⟨(1+c2 % 6).toNat,by lia,by lia⟩;have Z:∀m:Nat,L2.cY (S.map D.int) (some (m:Int)) none=(S.drop m).map D.int:=λm=>by rw[fF,ag8]
 have c6:oX 72 (S.drop 26):=Q.drop;have c5:oX 60 (S.drop 38):=Q.drop;have a6:oX 48 (S.drop 50):=Q.drop;rw[e6,show(26:Int)=((26:Nat):Int)from rfl,Z];refine⟨_,n6,rfl,by rw[c6.1];lia,l6.2,λL d1 hG b6=>am ?_⟩;walk_at"";rw[show(38:Int)=((38:Nat):Int)from rfl,Z];refine⟨_,L,o,ord,au,rfl,by rw[c5.1];lia,by lia,by lia,by rw[d1];exact hG,by rw[d1];exact b6,a4,b4,t,by lia,λb8 h7 g3=>am ?_⟩;walk_at"";rw[show(50:Int)=((50:Nat):Int)from rfl,Z];rw[AO,<-List.map_dropLast];refine⟨_,b8.dropLast,rfl,by rw[a6.1];lia,a6.2,by rw[List.length_dropLast];lia,λl a5 g5 f2=>am ?_⟩;walk_at"";refine⟨sz3 0,λp hp=>am ?_⟩;walk_at"";refine⟨sz3 0,λq hq=>am ?_⟩;have N:p≠q:=by
  intro e;rw[e,bj]at hq;cases hq
 have e8:M' q=none:=by rw[bY (T7 N)]at hq;exact hq
 walk_at"";rw[E3,P4];refine⟨by lia,by lia,?_⟩;refine bt (λi U M2=>∃(J:List (Str×List Row)) (ch:List Nat) (x4 a':Option D),U=[some (D.int c),some (D.lst (S.map D.int)),some (D.lst (o.map D.str)),some (D.lst (W.map D.str)),x4,some (D.lst (g.map aS)),some (D.tup (ord.map aS)),some (D.str au),some (D.lst (L.map stD)),some (D.lst (b8.map aI)),some (D.lst (l.map cn)),some (D.ref p),some (D.ref q),a']/\M2=aG (aG M' p (.lst (J.map kF))) q (.lst (bI ch))/\J.length=i/\ch.length=i/\J.map (·.1)=W.take i/\(∀e∈J,DD e.2)/\∀c∈ch,c<=1) ⟨[],[],_,_,rfl,rfl,rfl,rfl,rfl,(λ_ h=>by cases h),λ_ h=>by cases h⟩ ?_ ?_
 ·rintro i d U M2 X hd ⟨J,ch,x4,a',rfl,rfl,I,a1,u,b0,b1⟩ k';obtain⟨hi,rfl⟩:=eT hd;have e1:(aG (aG M' p (.lst (J.map kF))) q (.lst (bI ch))) p=some (.lst (J.map kF)):=by rw[bY N,bj]
  obtain⟨cu,d3⟩:∃x,l[i]?=some x:=⟨_,E4 hi⟩;have c0:atI (l.map cn) (i:Int)=some (cn cu):=aE (by rw[F4,d3];rfl);have a3:=F7 d3;have d2:cu.length<=5/\rO cu:=⟨f2 cu a3,λs hs=>g3 s (List.dropLast_subset _ (by rw[<-a5];exact List.mem_flatten.mpr ⟨cu,a3,hs⟩))⟩;obtain⟨wd,c4⟩:∃x,W[i]?=some x:=⟨_,E4 (by lia)⟩;have g4:atI (W.map D.str) (i:Int)=some (D.str wd):=aE (by rw[F4,c4];rfl);refine⟨_,rfl,?_⟩;rw[af6];walk_at"";refine⟨_,c0,?_⟩;rw[show(58:Int)+5*(i:Int)=((58+5*i:Nat):Int)by lia,Z];refine⟨cu,_,o,rfl,by rw[U0];lia,λx hx=>Q.2 x (U9 hx),a0,a4,d2,t,λks b' c1 e0 d8=>am ?_⟩;walk_at"";refine⟨_,e1,_,g4,sz3 2,_,e1,by rw[E3,I];exact F6 (by lia:i<1000) (sz3 1000),am ?_⟩;obtain⟨j,ij,hj⟩:=wW c1 b';rw[eK N,eZ,eK (T7 N)];walk_at"";refine⟨_,rfl,_,c0,j,ij,by rw[bI,E3,a1];exact F6 (by lia:i<1000) (sz3 1000),k' _ _ ⟨J++[(wd,ks)],ch++[j],_,_,rfl,?_,by rw[E7,I];rfl,by rw[E7,a1];rfl,by rw[N1,u,R5,c4];rfl,dR b0 ⟨List.length_pos_of_mem b',c1,e0,d8⟩,dR b1 (by have:=(J8.mp hj).1;lia)⟩⟩;rw[N1,bI,bI,N1];rfl
 ·rintro U M2 ⟨J,ch,x4,a',rfl,rfl,I,a1,u,b0,b1⟩;rw[cm]at I a1 u;refine am ?_;walk_at"";have d9:rdM (aG (aG M' p (.lst (J.map kF))) q (.lst (bI ch))) (.ref p)=.lst (J.map kF):=jo (by rw[bY N,bj]);rw[d9];walk_at"";rw[E3,jj,<-ae0];refine⟨sz3 3,sz3 2,sz3 3,M',Du hp e8,?_⟩;have i4:1<=l.length:=by
   cases l with
   |nil =>
    have:=congrArg aa3 a5;rw[List.length_dropLast]at this;simp at this;lia
   |cons _ _=>simp
  rw[<-u];refine k ord au J ch L ⟨b5.1,by lia,?_,λe he=>⟨?_,b0 e he⟩⟩ (λe=>by rw[e]at I;simp at I;lia) (by lia) b1 (by lia) (λa ha=>?_)
  ·rw[u];exact f9.sublist (List.take_sublist _ _)
  ·have:e.1∈W.take l.length:=by rw[<-u];exact List.mem_map_of_mem he
   exact g1 _ (T6 this)
  ·have:=hG a ha
   lia
inductive Tr:Nat->D->Prop
 |int (n:Nat) (i:Int) (h0:0<=i) (h1:i<=30):Tr n (.int i)
 |tup (n:Nat) (ds:List D) (hl:ds.length<=12) (h:∀d,d∈ds->Tr n d):Tr (n+1) (.tup ds)
theorem Tr.good{n:Nat}{d:D}(h:Tr n d):aw d=true:=by
 induction h with
 |int n i _ _=>rfl
 |tup n a _ _ ih=>exact cj.mpr ih
theorem Tr.le{n:Nat}{d:D}(h:Tr n d):∀k,n<=k->dLe d k=true:=by
 induction h with
 |int n i _ _=>intro k _;cases k<;>rfl
 |tup n e _ _ ih =>
  intro k hk;obtain⟨a,rfl⟩:∃a,k=a+1:=⟨k-1,by lia⟩;exact cb.mpr λd b=>ih d b a (by lia)
def Wd(d:D):Prop:=aw d=true/\∀a,d=.tup a->a.length<=13/\∀e∈a,∀b,e=.tup b->b.length<=13
theorem Tr.wd{n:Nat}{d:D}(h:Tr n d):Wd d:=by
 refine⟨h.good,λl e=>?_⟩;subst e;cases h with
 |tup _ _ i a =>
  refine⟨by lia,λe g j f=>?_⟩;subst f;cases a _ g with
  |tup _ _ b _=>lia
theorem ow{ds:List D}{i:Int}(b:0<=i)(e:i<(ds.length:Int)):∃d∈ds,atI ds i=some d:=by
 obtain⟨n,rfl⟩:=X3 b;have a:n<ds.length:=by lia
 exact⟨ds[n],P0 a,aE (by rw[E4 a])⟩
theorem xl{t:Int}(a:0<=t)(b:t<=30):aw (.str (am8 t))=true/\t.natAbs.log2<1920:=by
 have h:∀n:Fin 31,aw (.str (am8 ((n.1:Nat):Int)))=true/\((n.1:Nat):Int).natAbs.log2<1920:=by decide +kernel
 have:=h ⟨t.toNat,by lia⟩;simp only[V6 a]at this;exact this
def my:SpD:=λa M R=>∃t x:Int,a=[.int t,.int x]/\0<=t/\t<=30/\∀d,Wd d->R d M
theorem uL(F:Fun K "_law_leaf" "_law_leaf" lw f fd)(T:Txt G):aU P w K G base CX0 1 f fd ["_law_thing","_law_way"] (spD K 2 my):=by
 have p:=nU.nd;refine F.okR rfl nU (λq A l s H E I=>⟨_,(ai (aZ (fE (et (bg (dB (Tn:="bool") (by decide) rfl T.b_isinstance rfl T.b_bool (by kernel_rfl) (aa 0))) (dJ (aH EE (aa 0) mw nbh)))) (ao (aX (aB aC (cA (ae ah (ae ah (ae mw (ae (cA ag) ag))))) (az bc (aa 1) ah) (λ_ _=>rfl)))) aN)
   (ai (aZ (bg (dB (Tn:="int") (by decide) rfl T.b_isinstance rfl T.b_int (by kernel_rfl) (aa 0))) (ai (aF (i:=2) p rfl (L7 rfl) (cA (ae (az bv (aa 0) ah) (ae (az cw (aa 0) ah) (ae (az cw ah (aa 0)) (ae (az bZ (aa 0) ah) (ae iJ (ae mw (ae (aQ Al rfl T.b_str (by kernel_rfl) (ae (aa 0) ag)) (ae (bf (ae (aa 0) (ae ah ag))) (ae (cA (ae (aa 0) ag)) (ae zO ag))))))))))))
   (ao (aX (aB aC (aa 2) (az bc (aa 1) ah) (λ_ _=>rfl))))) aN)
   (ai (aZ (bg (dB (Tn:="str") (by decide) rfl T.b_isinstance rfl T.b_str (by kernel_rfl) (aa 0))) (ao (aX (aB aC (cA (ae (az bv (aa 0) cX) (ae (aV (aa 0) (bh ah) bu) (ae (az bv cX (aa 0)) (ae mw (ae (az bv (aa 0) cX) (ae cX ag))))))) (az bc (aa 1) ah) (λ_ _=>rfl)))) aN)
   (ao (aX mw))))),λb M R _ C bk=>?_⟩)
 obtain⟨t,x,rfl,u,B,k⟩:=C;refine bk ?_;clear bk;walk_at"";refine⟨false,rfl,?_⟩;rw[if_neg (by decide)];refine aT (λh=>absurd h (by simp[so])) (λ_=>?_);refine⟨true,rfl,?_⟩;rw[if_pos rfl];obtain⟨m,n⟩:=xl u B;have a:∀d∈[D.int (t+1),D.int (t-1),D.int (0-t),D.int (t*2),D.bl true,D.non,D.str (am8 t),D.tup [D.int t,D.int 1],D.lst [D.int t],D.emp],Wd d:=by
  intro d g;simp only[I0,S7,or_false]at g;rcases g with rfl|rfl|rfl|rfl|rfl|rfl|rfl|rfl|rfl|rfl
  case inr.inr.inr.inr.inr.inr.inl=>exact⟨m,λb e=>by cases e⟩
  case inr.inr.inr.inr.inr.inr.inr.inl =>
   refine⟨rfl,λb e=>?_⟩;cases e;refine⟨(show 2<=13 by decide),λe o J z=>?_⟩;subst z;simp at o
  all_goals exact⟨rfl,λb e=>by cases e⟩
 refine⟨_,if_pos n,sz3 2,sz3 1,sz3 10,?_⟩;obtain⟨d,g,j⟩:=ow (ds:=[D.int (t+1),D.int (t-1),D.int (0-t),D.int (t*2),D.bl true,D.non,D.str (am8 t),D.tup [D.int t,D.int 1],D.lst [D.int t],D.emp]) (i:=x % 10) (by lia) (by show x % 10<10;lia);exact⟨_,j,k d (a d g)⟩
def Ls(fs:List D):Prop:=(∀e∈fs,aw e=true)/\fs.length<=13/\∀e∈fs,∀a,e=.tup a->a.length<=13
theorem Ls.wd{fs:List D}(h:Ls fs):Wd (.tup fs):=⟨cj.mpr h.1,λa e=>by cases e;exact h.2⟩
theorem Ls.wl{fs:List D}(h:Ls fs):Wd (.lst fs):=⟨cj.mpr h.1,λa e=>by cases e⟩
def jI:Nat->SpD
 |0=>xh
 |m+1=>λe M R=>∃(n:Nat) (d:D) (a:List Int),e=[d,.lst (a.map D.int)]/\Tr n d/\n<=50/\a.length=2*(m+1)/\(∀x∈a,0<=x)/\∀b,Wd b->R b M
theorem eJ(F:Fun K "_law_bent" "_law_bent" mF f fd)(T:Txt G){m:Nat}(Y1:FnD P w K G base "_law_leaf" 1 2 my)(G1:FnD P w K G base "_law_bent" (m+1) 2 (jI m)):aU P w K G base CX0 (m+1+1) f fd ["_law_thing","_law_xs"] (spD K 2 (jI (m+1))):=by
 have X:=nG.nd;refine F.okR rfl nG (λb1 A a7 s H E L=>⟨_,(ai (aZ (fE (gO (bG (bg (dB (Tn:="list") (by decide) rfl T.b_isinstance rfl T.b_list (by kernel_rfl) (aa 0)))) (fU (bG (bg (dB (Tn:="tuple") (by decide) rfl T.b_isinstance rfl T.b_tuple (by kernel_rfl) (aa 0))))))) (ao (aX (qc Y1 (L.mono (by lia)) rfl (ae (aa 0) (ae (az bv (aB aC (aa 1) ah (λ_ _=>rfl)) (az bZ ah (az bc (aB aC (aa 1) ah (λ_ _=>rfl)) ah))) ag))))) aN)
   (aD (ai (aF (i:=2) X rfl (L7 rfl) (sF rfl T.b_list (by kernel_rfl) (ae (aa 0) ag)))
   (aD (ai (aZ (fE (et (aH (fb L.units) (aa 2) (cA ag) nbh) (et (aH (fb L.units) (az bc (aB aC (aa 1) ah (λ_ _=>rfl)) ah) ah nbh) (dJ (aH gV (av ba rfl T.b_len (by kernel_rfl) (ae (aa 1) ag)) ah nbh))))) (aD (ai (aF (i:=3) X rfl (L7 rfl) (az bc (aB aC (aa 1) ah (λ_ _=>rfl)) (av (Ae rfl) rfl T.b_max (by kernel_rfl) (ae ah (ae (av ba rfl T.b_len (by kernel_rfl) (ae (aa 2) ag)) ag)))))
   (ai (aF (i:=4) X rfl (L7 rfl) (aB aC (cA (ae (az bv (aV (aa 2) bu (bh (aa 3))) (aV (aa 2) (bh (az bv (aa 3) ah)) bu)) (ae (az bv (aa 2) (aV (aa 2) (bh (aa 3)) (bh (az bv (aa 3) ah)))) (ae (uA (aa 2) (xT yT ah)) (ae (cA (ae (aQ bW rfl T.b_tuple (by kernel_rfl) (ae (aa 2) ag)) ag)) ag))))) (az bc (az gS (aB aC (aa 1) ah (λ_ _=>rfl)) ah) ah) (λ_ _=>rfl)))
   (ai (aZ (aH (fb L.units) (az bc (az gS (aB aC (aa 1) ah (λ_ _=>rfl)) ah) ah) ah nbh) (ao (cE (Eb (bg (dB (Tn:="list") (by decide) rfl T.b_isinstance rfl T.b_list (by kernel_rfl) (aa 0))) (aQ bW rfl T.b_tuple (by kernel_rfl) (ae (aa 2) ag)) (aQ i8 rfl T.b_list (by kernel_rfl) (ae (aa 2) ag))))) aN)
   (ao (aF (i:=2) X rfl (L7 rfl) (aa 4))))))) (ai (aF (i:=3) X rfl (L7 rfl) (az bc (aB aC (aa 1) ah (λ_ _=>rfl)) (av ba rfl T.b_len (by kernel_rfl) (ae (aa 2) ag))))
   (ao (se (aa 2) (aa 3) (qc G1 (L.mono (by lia)) rfl (ae (aB aC (aa 2) (aa 3) (λ_ _=>rfl)) (ae (aV (aa 1) (bh ah) bu) ag)))))))
   (aD (ai (aZ (bg (dB (Tn:="tuple") (by decide) rfl T.b_isinstance rfl T.b_tuple (by kernel_rfl) (aa 0))) (ao (cE (aQ bW rfl T.b_tuple (by kernel_rfl) (ae (aa 2) ag)))) aN)
   (ao (cE (aa 2)))))))))),λds M R _ hS bk=>?_⟩)
 obtain⟨n,d,J,rfl,hd,a9,a',hx,k⟩:=hS;refine bk ?_;clear bk;have a8:∀t:Int,0<=t->t<=30->d=.int t->∀z,my [d,.int z] M R:=λt h0 q e z=>⟨t,z,by rw[e],h0,q,k⟩;obtain⟨x0,h0⟩:∃x,J[0]?=some x:=⟨_,E4 (by lia)⟩;obtain⟨I,q⟩:∃x,J[1]?=some x:=⟨_,E4 (by lia)⟩;have p0:=hx x0 (F7 h0);have p1:=hx I (F7 q);have a0:atI (J.map D.int) 0=some (.int x0):=aE (j:=0) (by rw[F4,h0];rfl);have S:atI (J.map D.int) 1=some (.int I):=aE (j:=1) (by rw[F4,q];rfl);walk_at"";rw[df hd.good];cases hd with
 |int n i i0 i1 =>
  refine⟨false,rfl,?_⟩;rw[if_pos (show(!false)=true from rfl)];refine⟨false,rfl,?_⟩;rw[if_pos (show(!false)=true from rfl)];refine⟨_,a0,_,S,?_⟩;walk_at"";exact⟨i,_,rfl,i0,i1,k⟩
 |tup n a hl l =>
  refine⟨false,rfl,?_⟩;rw[if_pos (show(!false)=true from rfl)];refine⟨true,rfl,?_⟩;rw[if_neg (by simp)];refine am ?_;walk_at"";intro p hp;refine am (iZ (λN M2=>∃(sm:D) (fs:List D) (x3 x4:Option D),N=[some (.tup a),some (.lst (J.map D.int)),some sm,x3,x4]/\rdM M2 sm=.lst fs/\Ls fs/\LeM M M2) (λnx U=>?_) ?_)
  ·have g:Ls a:=⟨λe b=>(l e b).good,by lia,λe b fs C=>by
    subst C;cases l _ b with
    |tup _ _ b2 _=>lia⟩
   have b0:rdM (aG M p (.lst a)) (.ref p)=.lst a:=jo bj;walk_at"";have e0:eqF (.lst a) (.lst [])=some (.bl a.isEmpty):=by
    have q:dLe (.lst a) 60=true:=cb.mpr λd hd=>(l d hd).le 59 (by lia);have h2:dLe (.lst []) 60=true:=rfl;simp only[eqF,q,h2,and_self,if_true];cases a<;>rfl
   refine⟨sz3 0,_,e0,_,rfl,aT (λc1=>?_) (λc1=>⟨_,a0,?_⟩)⟩
   rotate_left
   walk_at"";rw[E3];have a5:0<a.length:=by cases a<;>first|(exact absurd rfl c1)|simp
   obtain⟨v,hv,ev⟩:=gc a5 I;refine aT (λc2=>?_) (λc2=>aT (λc3=>?_) (λc3=>⟨_,S,?_⟩))
   rotate_left 2
   ·walk_at"";refine⟨_,if_pos (by lia),?_⟩;walk_at"";rw[ev];obtain⟨O,Q⟩:∃O,a[v]?=some O:=⟨_,E4 hv⟩;refine⟨O,aE Q,?_⟩;obtain⟨m',rfl⟩:∃m',m=m'+1:=⟨m-1,by lia⟩;rw[show(2:Int)=((2:Nat):Int)from rfl,fF,<-ag8];refine⟨n,O,J.drop 2,rfl,l O (F7 Q),by lia,by rw[U0];lia,λx h=>hx x (U9 h),λd' Z=>?_⟩;refine⟨a,bj,v,kW hv,U _ _ ⟨.ref p,a.set v d',_,_,rfl,jo bj,⟨λe b=>?_,by rw[X9];lia,λe b fs C=>?_⟩,?_⟩⟩
    ·rcases aa7 b with z|rfl
     ·exact g.1 e z
     ·exact Z.1
    ·rcases aa7 b with z|rfl
     ·exact g.2.2 e z fs C
     ·exact(Z.2 fs C).1
    ·rw[eZ];exact cq hp
   all_goals
    refine am ?_;walk_at"";have a2:0<(if(a.length:Int) > 1 then(a.length:Int)else 1):=by split<;>lia
    obtain⟨u,eu⟩:∃u:Nat,I % (if(a.length:Int) > 1 then(a.length:Int)else 1)=(u:Int):=⟨_,(V6 (ag6 _ (by lia))).symm⟩;refine⟨_,S,?_⟩;walk_at"";refine⟨_,if_pos a2,?_⟩;walk_at"";rw[eu,show(u:Int)+1=((u+1:Nat):Int)by lia,jj,fF];have Y:(L2.cY a (some (u:Int)) (some ((u+1:Nat):Int))).length<=1/\∀e∈L2.cY a (some (u:Int)) (some ((u+1:Nat):Int)),e∈a:=by
     unfold L2.cY;rw[HT.sIx_nat,HT.sIx_nat];exact⟨by rw[O8];lia,λe b=>U9 (T6 b)⟩
    generalize L2.cY a (some (u:Int)) (some ((u+1:Nat):Int))=cu at Y;refine⟨_,if_pos (sz3 _ (by rw[O8,U0];lia)),_,if_pos (sz3 _ (by lia)),sz3 1,sz3 4,_,S,?_⟩;walk_at"";obtain⟨o,ho,a6⟩:=ow (ds:=[D.lst (List.take u a++List.drop (u+1) a),D.lst (a++cu),D.lst a.reverse,D.lst [D.tup a]]) (i:=I / 7 % 4) (by lia) (by show I / 7 % 4<4;lia);obtain⟨fs,rfl,B⟩:∃fs,o=.lst fs/\Ls fs:=by
     have sub:∀fs:List D,fs.length<=13->(∀e∈fs,e∈a)->Ls fs:=λfs q h2=>⟨λe b=>g.1 e (h2 e b),q,λe b=>g.2.2 e (h2 e b)⟩;simp only[I0,S7,or_false]at ho;rcases ho with rfl|rfl|rfl|rfl
     ·refine⟨_,rfl,sub _ (by rw[E7,O8,U0];lia) λe b=>?_⟩;rcases K0.mp b with z|z
      ·exact T6 z
      ·exact U9 z
     ·refine⟨_,rfl,sub _ (by rw[E7];lia) λe b=>?_⟩;rcases K0.mp b with z|z
      ·exact z
      ·exact Y.2 e z
     ·exact⟨_,rfl,sub _ (by rw[List.length_reverse];lia) λe b=>by simpa using b⟩
     ·refine⟨_,rfl,λe b=>?_,by simp,λe b fs C=>?_⟩
      ·rw[O9.mp b];exact g.wd.1
      ·rw[O9.mp b]at C;cases C;lia
    refine⟨_,a6,_,S,?_⟩;walk_at"";refine aT (λ_=>⟨false,rfl,?_⟩) (λ_=>U _ _ ⟨.lst fs,fs,_,_,rfl,rfl,B,cq hp⟩);rw[if_neg (by simp)];exact⟨_,rfl,M,cq hp,k _ g.wl⟩
  rintro N M2 ⟨sm,fs,x3,x4,rfl,a3,B,a4⟩;refine am ?_;walk_at"";refine⟨true,rfl,?_⟩;rw[if_pos rfl,a3];exact⟨_,rfl,M,a4,k _ B.wd⟩
open Classical in
def dgB(o:List (Str×Str))(b:Row)(d:D):Bool:=decide (∃a,d=.tup (a.map stD)/\Drw o b a)
open Classical in
theorem Cy{o:List (Str×Str)}{b:Row}{a:List (Nat×Nat)}(h:Drw o b a):dgB o b (.tup (a.map stD))=true:=by
 unfold dgB;exact decide_eq_true ⟨a,rfl,h⟩
open Classical in
theorem BO{o:List (Str×Str)}{b:Row}{d:D}(h:¬ ∃a,d=.tup (a.map stD)/\Drw o b a):dgB o b d=false:=by
 unfold dgB;exact decide_eq_false h
theorem Ct{o:List (Str×Str)}{f:Row}{a:List (Nat×Nat)}(h:¬ Drw o f a):dgB o f (.tup (a.map stD))=false:=by
 refine BO ?_;rintro⟨b,e,g⟩;have i:a.map stD=b.map stD:=by simpa using e
 rw[<-dM oM i]at g;exact h g
def jY:SpD:=vC b7
theorem qP(F:Fun K "_law_whole" "_law_whole" j7 f fd)(T:Txt G):aU P w K G base CX0 1 f fd ["_law_thing"] (spD K 1 jY):=by
 have m:=lg.nd;refine F.okR rfl lg (λg A e s H E j=>⟨_,(ao (aX (eP (dB (Tn:="int") (by decide) rfl T.b_isinstance rfl T.b_int (by kernel_rfl) (aa 0)) (iO (xG (dB (Tn:="bool") (by decide) rfl T.b_isinstance rfl T.b_bool (by kernel_rfl) (aa 0))))))),λl M R _ h bk=>?_⟩);obtain⟨d,rfl,a,k⟩:=h;refine bk ?_;clear bk;walk_at"";simp only[df a];cases d with
 |int i=>exact⟨true,rfl,by simp only[if_true];exact⟨false,rfl,k⟩⟩
 |bl b=>exact⟨true,rfl,by simp only[if_true];exact⟨true,rfl,k⟩⟩
 |scr _=>simp[aw]at a
 |ref _=>simp[aw]at a
 |box _ _=>simp[aw]at a
 |_=>exact⟨false,rfl,by simp only[F1,if_false];exact k⟩
def lq:SpD:=λa M R=>∃(ord:List (Str×Str)) (x y:Str×Int),a=[.tup (ord.map aS),aI x,aI y]/\ord.length<=500/\R (.bl (cB ord x y)) M
theorem qA(F:Fun K "_law_cancel" "_law_cancel" i6 f fd)(T:Txt G)(j:FnD P w K G base "_law_most" 1 3 lA):aU P w K G base CX0 2 f fd ["_law_order","_law_one","_law_other"] (spD K 3 lq):=by
 have o:=kz.nd;refine F.okR rfl kz (λl A e s H E a=>⟨_,(ai (aZ (aH (j8 a.units) (aB aC (aa 2) ah (λ_ _=>rfl)) (az bv (aB aC (aa 1) ah (λ_ _=>rfl)) ah) nbh) (ao (aX iJ)) aN)
   (ai (aZ (aH (fb a.units) (az bc (aB aC (aa 1) ah (λ_ _=>rfl)) ah) ah nbh) (ao (aX (qd j a (ae (aa 0) (ae (aB aC (aa 1) ah (λ_ _=>rfl)) (ae (aB aC (aa 2) ah (λ_ _=>rfl)) ag)))))) aN)
   (ao (aX (qd j a (ae (aa 0) (ae (aB aC (aa 2) ah (λ_ _=>rfl)) (ae (aB aC (aa 1) ah (λ_ _=>rfl)) ag)))))))),λn M R _ m bk=>?_⟩)
 obtain⟨ord,x,y,rfl,i,k⟩:=m;refine bk ?_;clear bk;simp only[aI];walk_at""
 by_cases h:y.2=x.2+1
 ·rw[if_neg (by simp[h])];have b:cB ord x y=lB ord x.2 x.1 y.1:=by simp[cB,h]
  rw[b]at k;refine aT (λg=>?_) (λg=>?_)
  ·rw[tK (beq_iff_eq.mp g)]at k;exact⟨ord,_,_,rfl,i,k⟩
  ·rw[vG (λq=>g (by rw[q];rfl))]at k;exact⟨ord,_,_,rfl,i,k⟩
 ·rw[if_pos (by simp[h])];have b:cB ord x y=false:=by
   have:(x.2+1==y.2)=false:=by simpa using λq:x.2+1=y.2=>h q.symm
   simp only[cB,this,U4]
  rw[b]at k;exact k
def CD(n:Nat)(o:List (Str×Str))(b:Row)(a:Nat×Nat):Prop:=(a.1<a.2/\a.2<n)/\cB o (sg b a.1) (sg b a.2)=true
theorem uj{b:List (Nat×Nat)}{a:Nat×Nat}:jK (b++[a])=jK b++[(a.1:Int),(a.2:Int)]:=by simp[jK]
theorem qg{a:List (Nat×Nat)}:(jK a).length=2*a.length:=by
 induction a with
 |nil=>rfl
 |cons x l ih =>
  unfold jK at ih ⊢;rw[R6,E7,ih];simp;lia
def gU:SpD:=λe M R=>∃(o:List (Str×Str)) (a:Row) (d:D),e=[.tup (o.map aS),.lst (a.map aI),d]/\o.length<=500/\a.length<=60/\aw d=true/\(∀b,d=.tup b->b.length<=30)/\R (.bl (dgB o a d)) M
theorem kO(F:Fun K "_law_arcs_right" "_law_arcs_right" cV f fd)(T:Txt G)(Y0:FnD P w K G base "_law_whole" 1 1 jY)(a':FnD P w K G base "_law_cancel" 2 3 lq):aU P w K G base CX0 3 f fd ["_law_order","_law_row","_law_arcs"] (spD K 3 gU):=by
 have nd:=gB.nd;refine F.okR rfl gB (λb6 A a6 s H E Z=>⟨_,(ai (aZ (bG (bg (dB (Tn:="tuple") (by decide) rfl T.b_isinstance rfl T.b_tuple (by kernel_rfl) (aa 2)))) (ao (aX iJ)) aN)
   (ai (aF (i:=3) nd rfl (L7 rfl) (dI ag))
   (aD (ai (fq O5 rfl (bb (aa 2)) (aR (i:=4) nd rfl (L7 rfl)) (ai (aZ (fE (et (bG (bg (dB (Tn:="tuple") (by decide) rfl T.b_isinstance rfl T.b_tuple (by kernel_rfl) (aa 4)))) (et (aH (j8 Z.units) (av ba rfl T.b_len (by kernel_rfl) (ae (aa 4) ag)) ah nbh) (et (bG (bg (qd Y0 Z (ae (aB aC (aa 4) ah (λ_ _=>rfl)) ag)))) (dJ (bG (bg (qd Y0 Z (ae (aB aC (aa 4) ah (λ_ _=>rfl)) ag))))))))) (ao (cE iJ)) aN)
   (aD (ai (aZ (fE (et (bG (uM uP gV gV ah (aB aC (aa 4) ah (λ_ _=>rfl)) (aB aC (aa 4) ah (λ_ _=>rfl)) (av ba rfl T.b_len (by kernel_rfl) (ae (aa 1) ag)))) (dJ (bG (bg (qd a' Z (ae (aa 0) (ae (aB aC (aa 1) (aB aC (aa 4) ah (λ_ _=>rfl)) (λ_ _=>rfl)) (ae (aB aC (aa 1) (aB aC (aa 4) ah (λ_ _=>rfl)) (λ_ _=>rfl)) ag))))))))) (ao (cE iJ)) aN)
   (aD (ao (cF (ve (aa 3) (aQ i8 rfl T.b_list (by kernel_rfl) (ae (aa 4) ag))))))))))
   (aD (ai (aZ (fE (et (aH (j8 Z.units) (av gi rfl T.b_sorted (by kernel_rfl) (ae (aa 3) ag)) (kj rfl rfl T.b_list rfl T.b_range (ae (av ba rfl T.b_len (by kernel_rfl) (ae (aa 1) ag)) ag)) nbh) (dJ (aH (j8 Z.units) (aQ i8 rfl T.b_list (by kernel_rfl) (ae (aa 2) ag)) (av gi rfl T.b_sorted (by kernel_rfl) (ae (aa 2) ag)) nbh)))) (ao (cE iJ)) aN)
   (aD (ai (fq O5 rfl (bb (aa 2)) (aR (i:=5) nd rfl (ai9 rfl)) (ao (aZ (bg (av (z9 rfl) rfl T.b_any (by kernel_rfl) (ae (m4 (ms:=[false,false,false,false,false,true]) (ar:=["_law_other"]) (aP rfl (show bo (ak cV) eV _ _=true from by decide +kernel)) rfl (bb (aa 2)) (aL (i:=6) (show(eV++_).Nodup from by decide +kernel) rfl rfl) (λ_ _ _ _=>bS) (λ_ _ _ _=>(mB gV gV gV (aB aC (aa 5) ah (λ_ _=>rfl)) (aB aC (aa 6) ah (λ_ _=>rfl)) (aB aC (aa 5) ah (λ_ _=>rfl)) (aB aC (aa 6) ah (λ_ _=>rfl))))) ag))) (ao (cE iJ)) aN)))
   (aD (ao (cE iJ))))))))))),λds M R _ hS bk=>?_⟩)
 obtain⟨o,j,d,rfl,ho,hl,hd,b1,k⟩:=hS;refine bk ?_;clear bk;walk_at"";have a3:(¬ ∃g,d=.tup (g.map stD)/\Drw o j g)->R (.bl false) M:=λh=>by rw[BO h]at k;exact k
 simp only[df hd];cases d with
 |tup J =>
  have a4:=b1 J rfl;have b3:∀d∈J,aw d=true:=cj.mp (by simpa[aw]using hd);refine⟨true,rfl,?_⟩;rw[if_neg (by simp)];refine⟨sz3 0,λp hp=>am ?_⟩;walk_at"";intro hz;refine bt (λi B O=>∃(g:List (Nat×Nat)) (x4 x5:Option D),J.take i=g.map stD/\(∀a∈g,CD j.length o j a)/\B=[some (.tup (o.map aS)),some (.lst (j.map aI)),some (.tup J),some (.ref p),x4,x5]/\O=aG M p (.lst ((jK g).map D.int))) ⟨[],none,none,rfl,(λ_ h=>by cases h),rfl,rfl⟩ ?_ ?_
  ·rintro i d B O X m ⟨g,x4,x5,t,hA,rfl,rfl⟩ k';have u:=b3 d (F7 m);have l:(∀a,d=stD a->¬ CD j.length o j a)->R (.bl false) M:=λh=>by
    refine a3 ?_;rintro⟨Q,e,C⟩;have e':J=Q.map stD:=by simpa using e
    rw[e',F4]at m;obtain⟨a,n,rfl⟩:=Option.map_eq_some_iff.mp m;have hm:=F7 n;exact h a rfl ⟨C.1 a hm,C.2.2.1 a hm⟩
   refine⟨_,rfl,?_⟩;walk_at"";simp only[df u];have ret:R (.bl false) M->∃M2,LeM M2 (aG M p (.lst ((jK g).map D.int)))/\R (.bl false) M2:=λh=>⟨M,cq hp,h⟩;cases d with
   |tup ds =>
    refine⟨true,rfl,?_⟩;rw[if_neg (by simp)];refine⟨_,rfl,_,pf,_,rfl,aT (λh=>ret (l λa e=>?_)) (λh=>?_)⟩
    ·have:ds.length=2:=by rw[stD]at e;cases e;rfl
     simp[this]at h
    obtain⟨a,b,rfl⟩:=oB (r:=ds) (by simp at h;lia);have a0:aw a=true/\aw b=true:=by simpa[aw,fB]using u
    refine⟨a,rfl,iD.mpr ⟨a0.1,_,rfl,aT (λwa=>ret (l λc e=>?_)) (λwa=>⟨b,rfl,iD.mpr ⟨a0.2,_,rfl,aT (λwb=>ret (l λc e=>?_)) (λwb=>am ?_)⟩⟩)⟩⟩
    ·rw[stD]at e;cases e;simp[b7]at wa
    ·rw[stD]at e;cases e;simp[b7]at wb
    obtain⟨ia,rfl⟩:∃ia,a=.int ia:=by cases a<;>first|exact⟨_,rfl⟩|(simp[b7]at wa)
    obtain⟨U,rfl⟩:∃U,b=.int U:=by cases b<;>first|exact⟨_,rfl⟩|(simp[b7]at wb)
    walk_at"";rw[E3];have L:¬ (0<=ia/\ia<U/\U<(j.length:Int))->R (.bl false) M:=λh=>l λa e hP=>h (by
     obtain⟨a1,a2⟩:=a;simp only[stD,D.tup.injEq,N0,D.int.injEq,and_true]at e;have h5:=hP.1;simp only at h5
     lia)
    refine aT (λg1=>aT (λg2=>aT (λg3=>ret (L λh=>?_)) (λg3=>?_)) (λg2=>?_)) (λg1=>?_)
    ·have:¬ U<(j.length:Int):=by simpa using g3
     lia
    ·have g3:U<(j.length:Int):=by simpa using g3
     obtain⟨Y,rfl⟩:=X3 g1;obtain⟨N,rfl⟩:=X3 (show 0<=U by lia);refine⟨_,tM (i:=Y) (by lia),_,tM (i:=N) (by lia),o,sg j Y,sg j N,rfl,ho,_,rfl,aT (λh4=>ret (l λa e hP=>?_)) (λh4=>am ?_)⟩
     ·obtain⟨a1,a2⟩:=a;simp only[stD,D.tup.injEq,N0,D.int.injEq,and_true]at e;obtain⟨e1,e2⟩:=e;obtain rfl:Y=a1:=by lia
      obtain rfl:N=a2:=by lia
      have h5:cB o (sg j Y) (sg j N)=true:=hP.2;rw[h5]at h4;simp at h4
     ·walk_at"";have b5:g.length<=30:=by
       have:=congrArg aa3 t;rw[O8,E3]at this
       lia
      refine⟨_,rfl,_,_,rfl,rfl,by rw[E3,qg];exact sz3 _ (by simp;lia),k' _ _ ⟨g++[(Y,N)],_,_,?_,dR hA ⟨⟨by show Y<N;lia,by show N<j.length;lia⟩,by simpa using h4⟩,rfl,?_⟩⟩
      ·rw[R5,m,t,N1];rfl
      ·rw[uj,N1];rfl
    ·rw[if_pos (show(!false)=true from rfl)];exact ret (L λh=>g2 h.2.1)
    ·rw[if_pos (show(!false)=true from rfl)];exact ret (L λh=>g1 h.1)
   |scr _=>simp[aw]at u
   |ref _=>simp[aw]at u
   |box _ _=>simp[aw]at u
   |_=>exact⟨false,rfl,by rw[if_pos (show(!false)=true from rfl)];exact ret (l λa e=>by cases e)⟩
  ·rintro B O ⟨g,x4,x5,t,hA,rfl,rfl⟩;rw[ae6]at t;refine am ?_;walk_at"";have a7:J=g.map stD:=t;subst a7;rw[E3]at a4;have ret:R (.bl false) M->∃M2,LeM M2 (aG M p (.lst ((jK g).map D.int)))/\R (.bl false) M2:=λh=>⟨M,cq hp,h⟩;have er:mY 0 (((j.map aI).length:Int)).toNat=(tV j.length).map D.int:=by
    rw[E3,P4];unfold tV;rw[S5];rfl
   have J:jz (D.tup (g.map stD))=some (.lst ((cS (g.map stI)).map pD)):=by rw[eG];exact tD (by rw[E3];lia)
   rw[er];refine⟨_,sD (by rw[qg];lia),by lia,by rw[E3];lia,_,ou D.int (λx y=>by rw[P6];simp[eqD]) (λ_=>rfl),_,rfl,?_⟩;have z:(¬ Drw o j g)->R (.bl false) M:=λh=>by rw[Ct h]at k;exact k
   refine aT (λh=>ret (z λhD=>?_)) (λh=>?_)
   ·rw[hD.2.1.1]at h;simp at h
   have a5:gA (jK g)=tV j.length:=by simpa using h
   refine⟨_,rfl,_,J,_,(show neF (.lst (g.map stD)) (.lst ((cS (g.map stI)).map pD))=_ by rw[eG];exact ou pD (λx y=>by rw[P6];obtain⟨a,b⟩:=x;obtain⟨c,d⟩:=y;simp[pD,eqD,dn]) (λ_=>rfl)),_,rfl,aT (λS=>ret (z λhD=>?_)) (λS=>am ?_)⟩
   ·rw[hD.2.1.2]at S;simp at S
   have b2:cS (g.map stI)=g.map stI:=by
    have:g.map stI=cS (g.map stI):=by simpa using S
    exact this.symm
   walk_at"";intro b4;refine bt (λi B O=>∃(y4 y5:Option D),B=[some (.tup (o.map aS)),some (.lst (j.map aI)),some (.tup (g.map stD)),some (.ref p),y4,y5]/\O=aG M p (.lst ((jK g).map D.int))/\∀a∈g.take i,(g.any λb=>bw a b)=false) ⟨_,_,rfl,rfl,λa n=>by simp at n⟩ ?_ ?_
   ·rintro i d B O X m ⟨y4,y5,rfl,rfl,I⟩ k';obtain⟨a,n,rfl⟩:=ft m;have b0:=F7 n;refine⟨_,rfl,?_⟩;walk_at"";refine λa8=>⟨a8,?_⟩;refine bx stD (λ_=>true) (λb=>D.bl (bw a b)) (λB=>∃x,B=[none,none,none,none,none,some (stD a),x]) g _ _ (λb hb B a9=>?_) ⟨none,rfl⟩ ?_
    ·obtain⟨x,rfl⟩:=a9;refine⟨_,rfl,⟨_,rfl⟩,λQ1 q=>q,λ_ Q2 q=>?_⟩;simp only[stD];walk_at"";refine aT (λh1=>aT (λS=>?_) (λS=>?_)) (λh1=>?_)
     ·have:bw a b=decide ((a.2:Int)<(b.2:Int)):=decide_eq_decide.mpr ⟨λh=>by lia,λh=>by lia⟩;rw[this]at q;exact q
     ·have:bw a b=false:=decide_eq_false λh=>S (by lia);rw[this]at q;exact q
     ·have:bw a b=false:=decide_eq_false λh=>h1 (by lia);rw[this]at q;exact q
    rw[L6,Q0.mpr (λ_ _=>rfl)];have ea:wR (.lst (g.map λb=>D.bl (bw a b)))=some (.bl (g.any λb=>bw a b)):=by
     have g1:(g.map λb=>D.bl (bw a b)).all kR=true:=by rw[V1,N3];intro _ _;rfl
     have g2:(g.map λb=>D.bl (bw a b)).any iH=g.any λb=>bw a b:=by rw[am7];rfl
     simp only[wR,g1,g2,if_true]
    refine⟨_,ea,_,rfl,aT (λh=>ret (z λhD=>hD.2.2.2 (ac1.mpr ⟨a,b0,h⟩))) (λh=>k' _ _ ⟨_,_,rfl,rfl,λb hb=>?_⟩)⟩;rw[R5,n]at hb;rcases K0.mp hb with C|C
    ·exact I b C
    ·obtain rfl:b=a:=by simpa using C
     exact eq_false_of_ne_true h
   ·rintro B O ⟨y4,y5,rfl,rfl,I⟩;rw[E3,ae6]at I;refine am ?_;walk_at"";rw[Cy ⟨λa n=>(hA a n).1,⟨a5,b2⟩,λa n=>(hA a n).2,λh=>by
     obtain⟨a,n,C⟩:=ac1.mp h;rw[I a n]at C;cases C⟩]at k
    exact⟨M,cq hp,k⟩
 |scr _=>simp[aw]at hd
 |ref _=>simp[aw]at hd
 |box _ _=>simp[aw]at hd
 |_=>exact⟨false,rfl,by rw[if_pos (show(!false)=true from rfl)];exact a3 (by rintro⟨g,e,_⟩;cases e)⟩
theorem uF{aj:List (Str×List Row)}{w:Str}(h:w∈aj.map (·.1)):∃r,(aj.filter λe=>e.1==w).map (λe=>bT e.2)=bT (kin aj w)::r:=by
 induction aj with
 |nil=>cases h
 |cons e l ih =>
  obtain⟨a,f⟩:=e
  by_cases q:a=w
  ·subst q;rw[ab9 (by simp),J1];exact⟨_,by simp only[kin,M0,beq_self_eq_true];rfl⟩
  ·rw[ab8 (by simpa using q)];have b:w∈l.map (·.1):=by
    rw[J1]at h;rcases I0.mp h with z|z
    ·exact absurd z.symm q
    ·exact z
   obtain⟨r,e⟩:=ih b;refine⟨r,?_⟩;rw[e];have:(w==a)=false:=by simpa using λz:w=a=>q z.symm
   simp only[kin,M0,this]
def ng:SpD:=λf M R=>∃(ord:List (Str×Str)) (e:Str) (a:List (Str×List Row)) (b:List Str) (d:D),f=[c7 ord e a,.tup (b.map .str),d]/\LxP ord e a/\(∀w∈b,w∈a.map (·.1))/\b.length<=8/\oq d/\R (.bl (dwB ord (kit a b) e d)) M
theorem qI(F:Fun K "_law_drawn" "_law_drawn" ik f fd)(T:Txt G)(Y8:FnD P w K G base "_law_arcs_right" 3 3 gU)(Y0:FnD P w K G base "_law_whole" 1 1 jY):aU P w K G base CX0 4 f fd ["_law_lexicon","_law_words","_law_drawing"] (spD K 3 ng):=by
 have nd:=me.nd;refine F.okR rfl me (λb5 A a6 s H E S=>⟨_,(ai (aZ (fE (et (bG (bg (dB (Tn:="tuple") (by decide) rfl T.b_isinstance rfl T.b_tuple (by kernel_rfl) (aa 2)))) (dJ (aH (j8 S.units) (av ba rfl T.b_len (by kernel_rfl) (ae (aa 2) ag)) ah nbh)))) (ao (aX iJ)) aN)
   (ai (lT (aa 2) (iS rfl (bD (aR (i:=3) nd rfl (L7 rfl)) (bD (aR (i:=4) nd rfl (L7 rfl)) iV))))
   (ai (aZ (fE (et (bG (bg (dB (Tn:="tuple") (by decide) rfl T.b_isinstance rfl T.b_tuple (by kernel_rfl) (aa 3)))) (dJ (aH (j8 S.units) (av ba rfl T.b_len (by kernel_rfl) (ae (aa 3) ag)) (av ba rfl T.b_len (by kernel_rfl) (ae (aa 1) ag)) nbh)))) (ao (aX iJ)) aN)
   (aD (ai (aF (i:=5) nd rfl (L7 rfl) (dI ag))
   (aD (ai (fq O5 rfl (ix rfl T.b_range (ae (av ba rfl T.b_len (by kernel_rfl) (ae (aa 1) ag)) ag)) (aR (i:=6) nd rfl (ai9 rfl)) (ai (aF (i:=7) nd rfl (L7 rfl) (aB aC (m4 (ms:=[false,true,false,false,false,false,true,false]) (ar:=["_law_word"]) (aP rfl (show bo (ak ik) iA _ _=true from by decide +kernel)) rfl (bb (aB aC (aa 0) ah (λ_ _=>rfl))) (i7 (n:=2) rfl (bV (aL (i:=8) (show(iA++_).Nodup from by decide +kernel) rfl rfl) (bV (aL (i:=7) (show(iA++_).Nodup from by decide +kernel) rfl rfl) ja))) (λ_ _ _ _=>(oE (aH (fb S.units) (aa 8) (aB aC (aa 1) (aa 6) (λ_ _=>rfl)) nbh))) (λ_ _ _ _=>(aa 7))) ah (λ_ _=>rfl)))
   (aD (ai (aZ (fE (et (bG (bg (qd Y0 S (ae (aB aC (aa 3) (aa 6) (λ_ _=>rfl)) ag)))) (dJ (bG (vA uP gV ah (aB aC (aa 3) (aa 6) (λ_ _=>rfl)) (av ba rfl T.b_len (by kernel_rfl) (ae (aa 7) ag))))))) (ao (cE iJ)) aN)
   (aD (ao (cF (ve (aa 5) (aQ i8 rfl T.b_list (by kernel_rfl) (ae (aB aC (aa 7) (aB aC (aa 3) (aa 6) (λ_ _=>rfl)) (λ_ _=>rfl)) ag))))))))))
   (aD (ao (cE (qd Y8 S (ae (aB aC (aa 0) ah (λ_ _=>rfl)) (ae (az bv (aa 5) (cA (ae (bf (ae (aB aC (aa 0) ah (λ_ _=>rfl)) (ae ah ag))) ag))) (ae (aa 4) ag)))))))))))))),λds M R _ hS bk=>?_⟩)
 obtain⟨ord,au,j,l,d,rfl,hL,hw,a5,Z,k⟩:=hS;refine bk ?_;clear bk;walk_at"";have b2:(kit j l).length=l.length:=by unfold kit;rw[E3]
 simp only[df Z.1];have B:(¬ qT ord (kit j l) au d)->R (.bl false) M:=λh=>by rw[uW h]at k;exact k
 cases d with
 |tup ds =>
  refine⟨true,rfl,?_⟩;rw[if_neg (by simp)];refine⟨_,rfl,_,pf,_,rfl,aT (λh=>B ?_) (λh=>?_)⟩
  ·rintro⟨m,g,e,_⟩;cases e;simp at h
  obtain⟨a,b,rfl⟩:=oB (r:=ds) (by simp at h;lia);have u:aw a=true/\aw b=true:=by simpa[aw,fB]using Z.1
  simp only[eX,cg,ck,fD,V2];refine⟨_,if_pos rfl,?_⟩;walk_at"";simp only[df u.1];cases a with
  |tup N =>
   refine⟨true,rfl,?_⟩;rw[if_neg (by simp)];refine⟨_,rfl,_,pf,_,rfl,aT (λh2=>B ?_) (λh2=>am ?_)⟩
   ·rintro⟨m,g,e,hc,_⟩;cases e;have:=hc.1;simp at h2
    lia
   have b4:N.length=l.length:=by simp at h2;lia
   have a4:∀d∈N,aw d=true:=cj.mp (by simpa[aw]using u.1);walk_at"";refine⟨sz3 0,λp L=>am ?_⟩;walk_at"";rw[E3,P4];refine⟨by lia,by lia,?_⟩;have ret:∀{M2:DH},LeM M M2->R (.bl false) M->∃M3,LeM M3 M2/\R (.bl false) M3:=λh h2=>⟨M,h,h2⟩;refine bt (λi Δ M'=>∃(m:List Nat) (y6 y7:Option D),Δ=[some (c7 ord au j),some (D.tup (l.map D.str)),some (D.tup [D.tup N,b]),some (D.tup N),some b,some (D.ref p),y6,y7]/\N.take i=m.map fv/\Cho ((kit j l).take i) m/\M'=aG M p (.lst ((bO ((kit j l).take i) m).map aI))) ⟨[],_,_,rfl,rfl,⟨rfl,λp L=>by simp at L⟩,rfl⟩ ?_ ?_
   ·rintro i d Δ M' X a8 ⟨m,y6,y7,rfl,C,t,rfl⟩ k';obtain⟨hi,rfl⟩:=eT a8;obtain⟨w,I⟩:∃w,l[i]?=some w:=⟨_,E4 hi⟩;obtain⟨c,o⟩:∃c,N[i]?=some c:=⟨_,E4 (by lia)⟩;have b0:=hw w (F7 I);have a9:=a4 c (F7 o);refine⟨_,rfl,?_⟩;rw[af6];simp only[c7];walk_at"";refine λhz=>⟨hz,?_⟩;refine bx kF (λe=>e.1==w) (λe=>bT e.2) (λΔ=>∃x y,Δ=[none,some (D.tup (l.map D.str)),none,none,none,none,some (D.int (i:Int)),x,y]) j _ _ (λe he Δ a7=>?_) ⟨none,none,rfl⟩ ?_
    ·obtain⟨x,y,rfl⟩:=a7;refine⟨_,rfl,⟨_,_,rfl⟩,λQ1 q=>?_,λ_ Q2 q=>?_⟩
     ·walk_at"";refine⟨_,aE (by rw[F4,I];rfl),?_⟩;walk_at"";exact q
     ·walk_at"";exact q
    rw[L6];obtain⟨r,er⟩:=uF b0;rw[er];walk_at"";refine am ?_;walk_at"";have U:(∀n:Nat,c=fv n->¬ n<(kin j w).length)->R (.bl false) M:=λh=>by
     refine B ?_;rintro⟨a3,g,e,a1,_⟩;simp only[D.tup.injEq,N0,and_true]at e;obtain⟨rfl,_⟩:=e;rw[F4]at o;obtain⟨n,hn,rfl⟩:=Option.map_eq_some_iff.mp o;refine h n rfl (a1.2 (n,kin j w) ?_);exact F7 (i:=i) (by rw[aa6];exact⟨hn,by unfold kit;rw[F4,I];rfl⟩)
    refine⟨c,aE o,iD.mpr ⟨a9,_,rfl,aT (λh=>ret (cq L) (U λn e=>?_)) (λh=>?_)⟩⟩
    ·rw[e]at h;simp[fv,b7]at h
    obtain⟨ci,rfl⟩:∃ci,c=.int ci:=by cases c<;>first|exact⟨_,rfl⟩|(simp[b7]at h)
    refine⟨_,aE o,?_⟩;have a':qX (rdM (aG M p (.lst ((bO ((kit j l).take i) m).map aI))) (bT (kin j w)))=some (.int ((kin j w).length:Int)):=by
     show some (D.int (((kin j w).map cn).length:Int))=_;rw[E3]
    rw[a'];walk_at"";refine aT (λg1=>aT (λg2=>ret (cq L) (U λn e=>?_)) (λg2=>am ?_)) (λg1=>?_)
    ·have:¬ ci<((kin j w).length:Int):=by simpa using g2
     cases e;lia
    ·have g2:ci<((kin j w).length:Int):=by simpa using g2
     obtain⟨n,rfl⟩:=X3 g1;have Q:n<(kin j w).length:=by lia
     simp only[bT];walk_at"";have eg:(kin j w)[n]?=some ((kin j w).getD n []):=by rw[E4 Q,K6,E4 Q];rfl
     have a2:(kit j l)[i]?=some (kin j w):=by unfold kit;rw[F4,I];rfl
     have h5:=nS (ks:=(kit j l).take i) (cs:=m) (λk hk r S=>hL.kit5 hw k (T6 hk) r S);have h6:((kin j w).getD n []).length<=5:=hL.kit5 hw (kin j w) (F7 a2) _ (F7 eg);have O:(kit j l).take (i+1)=(kit j l).take i++[kin j w]:=by rw[R5,a2];rfl
     have Y:m.length=((kit j l).take i).length:=t.1;rw[O8]at h5;refine⟨_,aE o,cn ((kin j w).getD n []),aE (by rw[F4,eg];rfl),_,rfl,_,_,rfl,rfl,by rw[E3,E3];exact sz3 _ (by lia),k' _ _ ⟨m++[n],_,_,rfl,?_,?_,?_⟩⟩
     ·rw[R5,o,C,N1];rfl
     ·refine⟨by rw[O,E7,E7,Y];rfl,λp L=>?_⟩;rw[O,List.zip_append Y]at L;rcases K0.mp L with z|z
      ·exact t.2 p z
      ·obtain rfl:p=(n,kin j w):=by simpa using z
       exact Q
     ·rw[O];unfold bO;rw[List.zip_append Y,List.flatMap_append,N1];simp
    ·rw[if_pos (show(!false)=true from rfl)];exact ret (cq L) (U λn e=>by cases e;lia)
   ·rintro Δ M' ⟨m,y6,y7,rfl,C,t,rfl⟩;rw[cm]at C t;refine am ?_;have a0:(kit j l).take l.length=kit j l:=R8 (by lia);have b1:N.take l.length=N:=R8 (by lia);rw[a0]at t;rw[b1]at C;subst C;have b3:=hL.row40 hw a5 (cs:=m);have ho:=hL.o;simp only[c7];walk_at"";rw[cm,a0];refine⟨sz3 2,sz3 1,_,if_pos (by rw[E3];exact sz3 _ (by lia)),ord,bO (kit j l) m++[(au,1)],b,by rw[N1];rfl,by lia,by rw[E7,Q9];lia,u.2,λes e=>Z.2 _ es (by rw[e]),M,cq L,?_⟩
    by_cases hD:∃g,b=.tup (g.map stD)/\Drw ord (bO (kit j l) m++[(au,1)]) g
    ·obtain⟨g,rfl,J⟩:=hD;rw[Cy J];rw[xR ⟨m,g,rfl,t,J⟩]at k;exact k
    ·rw[BO hD];refine B ?_;rintro⟨a3,g,e,a1,J⟩;simp only[D.tup.injEq,N0,and_true]at e;obtain⟨e1,e2⟩:=e;have ec:m=a3:=dM (λx y h=>by have:=D.int.inj h;lia) e1;subst ec;exact hD ⟨g,e2,J⟩
  |scr _=>exact absurd u.1 (by simp[aw])
  |ref _=>exact absurd u.1 (by simp[aw])
  |box _ _=>exact absurd u.1 (by simp[aw])
  |_=>exact⟨false,rfl,by rw[if_pos (show(!false)=true from rfl)];exact B (by rintro⟨m,g,e,_⟩;cases e)⟩
 |scr _=>exact absurd Z.1 (by simp[aw])
 |ref _=>exact absurd Z.1 (by simp[aw])
 |box _ _=>exact absurd Z.1 (by simp[aw])
 |_=>exact⟨false,rfl,by rw[if_pos (show(!false)=true from rfl)];exact B (by rintro⟨m,g,e,_⟩;cases e)⟩
def tu:SpD:=λf M R=>∃(e:List Nat) (b:List (Nat×Nat)),f=[.tup [.tup (e.map fv),.tup (b.map stD)]]/\b.length<=30/\(∀a∈b,a.1<a.2/\a.2<2*b.length)/\R (rF e b) M
theorem vO(F:Fun K "_law_due" "_law_due" pk f fd)(T:Txt G):aU P w K G base CX0 1 f fd ["_law_drawing"] (spD K 1 tu):=by
 have l:=qz.nd;refine F.okR rfl qz (λL A n s H E C=>⟨_,(ai (aF (i:=1) l rfl (L7 rfl) (az cw (az bZ ah (av ba rfl T.b_len (by kernel_rfl) (ae (aB aC (aa 0) ah (λ_ _=>rfl)) ag))) ah))
   (ai (aF (i:=2) l rfl (L7 rfl) (dI ag))
   (aD (ai (fq O5 rfl (bb (aB aC (aa 0) ah (λ_ _=>rfl))) (iS rfl (bD (aR (i:=3) l rfl (L7 rfl)) (bD (aR (i:=4) l rfl (L7 rfl)) iV))) (ao (aZ (aH (fb C.units) (aa 4) (aa 1) nbh) (ao (cF (gu (aa 2) (bf (ae (az cw (az cw (aa 1) ah) (aa 3)) (ae (aa 1) ag)))))) (ao (cF (gu (aa 2) (bf (ae (az cw (az cw (aa 1) ah) (aa 4)) (ae (az cw (az cw (aa 1) ah) (aa 3)) ag)))))))))
   (aD (ao (cE (bf (ae (pU (aB aC (aa 0) ah (λ_ _=>rfl)) (xT yT ah)) (ae (aQ bW rfl T.b_tuple (by kernel_rfl) (ae (av gi rfl T.b_sorted (by kernel_rfl) (ae (aa 2) ag)) ag)) ag)))))))))),λS M R _ O bk=>?_⟩)
 obtain⟨z,b,rfl,Q,B,k⟩:=O;refine bk ?_;clear bk;walk_at"";refine⟨sz3 0,λp I=>am ?_⟩;walk_at"";intro U;refine bt (λi o m=>∃u t,o=[some (D.tup [D.tup (z.map fv),D.tup (b.map stD)]),some (D.int (2*((b.map stD).length:Int)-1)),some (D.ref p),u,t]/\m=aG M p (.lst (((b.take i).map (iX (2*b.length-1))).map stD))) ⟨_,_,rfl,rfl⟩ ?_ ?_
 ·rintro i d o m X J ⟨u,t,rfl,rfl⟩ N;obtain⟨a,j,rfl⟩:=ft J;have Y:=B a (F7 j);have g:((b.take i).map (iX (2*b.length-1))).length<1000:=by rw[E3,O8];lia
  have step:∀x:D,x=stD (iX (2*b.length-1) a)->X [some (D.tup [D.tup (z.map fv),D.tup (b.map stD)]),some (D.int (2*((b.map stD).length:Int)-1)),some (D.ref p),some (.int a.1),some (.int a.2)] (aG M p (.lst (((b.take i).map (iX (2*b.length-1))).map stD++[x]))):=λx e=>N _ _ ⟨_,_,rfl,by
   rw[e,R5,j,N1,N1];rfl⟩
  refine⟨_,rfl,?_⟩;simp only[stD];walk_at"";rw[E3]at step ⊢;refine aT (λh=>⟨sz3 2,by rw[E3];exact F6 g (sz3 1000),step _ ?_⟩) (λh=>⟨sz3 2,by rw[E3];exact F6 g (sz3 1000),step _ ?_⟩)
  ·have e:a.2=2*b.length-1:=by have:=beq_iff_eq.mp h;lia
   rw[iX,if_pos e,stD,show((2*b.length-1-1-a.1:Nat):Int)=2*(b.length:Int)-1-1-(a.1:Int)by lia,show((2*b.length-1:Nat):Int)=2*(b.length:Int)-1 by lia]
  ·have e:¬ a.2=2*b.length-1:=λq=>h (by rw[beq_iff_eq,q];lia);rw[iX,if_neg e,stD,show((2*b.length-1-1-a.1:Nat):Int)=2*(b.length:Int)-1-1-(a.1:Int)by lia,show((2*b.length-1-1-a.2:Nat):Int)=2*(b.length:Int)-1-1-(a.2:Int)by lia]
 ·rintro o m ⟨u,t,rfl,rfl⟩;rw[E3,ae6];refine am ?_;walk_at"";refine⟨_,by rw[eG];exact pq (by simp only[E3];lia),?_⟩;rw[<-oJ,<-eG];refine⟨_,rfl,sz3 2,M,cq I,?_⟩;rw[<-List.map_reverse];exact k
def mj:SpD:=λh M R=>∃(ord:List (Str×Str)) (f:Str) (e:List (Str×List Row)) (b:List Str) (d:D),h=[c7 ord f e,.tup (b.map .str),d]/\LxP ord f e/\(∀w∈b,aw (.str w)=true)/\b.length<=8/\oq d /\
 (∀(i:Nat) (w:Str),b[i]?=some w->w∉e.map (·.1)->(∀v∈b.take i,v∈e.map (·.1))->R (.tup [.str "word",.str w]) M) /\
 ((∀w∈b,w∈e.map (·.1))->dwB ord (kit e b) f d=false->R (.str "drawing") M) /\
 ((∀w∈b,w∈e.map (·.1))->∀g a,d=.tup [.tup (g.map fv),.tup (a.map stD)]->Cho (kit e b) g->Drw ord (bO (kit e b) g++[(f,1)]) a->R (rF g a) M)
theorem uz(F:Fun K "_law_seen" "_law_seen" mm f fd)(T:Txt G){o p W q:F0}(Y:uy K G o p W q)(G9:FnY P w K G base "mirrored_drawing" 8 3 dU [o,p]):aU P w K G base CX0 9 f fd ["_law_lexicon","_law_words","_law_drawing"] (spD K 3 mj):=by
 have g:=nj.nd;refine F.okR rfl nj (λa0 A L s H E Q=>⟨_,(ai (aF (i:=3) g rfl (L7 rfl) mw)
   (ai (Bi (j:=4) (λ_ _ h=>h) rfl rfl rfl rfl Y.gH Y.lC Y.lW g rfl rfl (Bf 3 g rfl (L7 rfl) (yH G9 (Q.mono (by decide)) rfl (λ_ _ h=>h) (ae (aa 0) (ae (aa 1) (ae (aa 2) ag))))) λa=>(ai (aF (i:=3) g rfl (L7 rfl) cX)
   (ai (aF (i:=5) g rfl (L7 rfl) (cA (ae (fC Y.z rfl T.b_isinstance rfl Y.k_NoKept (aa 4)) (ae (fC Y.z rfl T.b_isinstance rfl Y.k_NoLexicon (aa 4)) (ae (fC Y.z rfl T.b_isinstance rfl Y.k_NoNumber (aa 4)) (ae (fC Y.z rfl T.b_isinstance rfl Y.k_NoRow (aa 4)) ag))))))
   (ai (aF (i:=5) g rfl (L7 rfl) (az bv (aa 5) (cA (ae (fC Y.z rfl T.b_isinstance rfl Y.k_NoStep (aa 4)) (ae (fC Y.z rfl T.b_isinstance rfl Y.k_NoText (aa 4)) (ae (fC Y.z rfl T.b_isinstance rfl Y.k_NoWorld (aa 4)) ag))))))
   (ao (aZ (fE (gO (bg (BC Y.z rfl T.b_isinstance rfl T.b_ValueError rfl Y.k_ValueError (aa 4))) (gO (bG (bg (Bk (Cs:=[o,p]) (a:=a) rfl rfl T.b_any (aa 5)))) (fU (aH (j8 Q.units) (fC Y.z rfl T.b_isinstance rfl Y.k_NoWord (aa 4)) (fC Y.z rfl T.b_isinstance rfl Y.k_NoDrawing (aa 4)) nbh))))) (ai (aF (i:=3) g rfl (L7 rfl) cX)
   (ao (aZ (bg (fC Y.z rfl T.b_isinstance rfl Y.k_NoWord (aa 4))) (ao (aF (i:=3) g rfl (L7 rfl) (bf (ae cX (ae (Dv (Cs:=[o,p]) 0 rfl (Y.z _ (by simp)) Y.g0 (aa 4)) ag))))) aN))) aN))))))
   (ao (aX (aa 3))))),λds M R _ hS bk=>?_⟩)
 obtain⟨ord,S,aj,ws,d,rfl,hL,hg,J,hd,k0,k1,k2⟩:=hS;refine bk ?_;clear bk;walk_at"";refine⟨ord,S,aj,ws,d,rfl,hL,hg,J,hd,λi w O N X B I=>⟨λe=>?_,λZ y e a l=>?_⟩,λC U=>⟨λe=>?_,λZ y e a l=>?_⟩,λC cs m e hc t=>⟨λ_=>k2 C cs m e hc t,λi x e=>by cases e⟩⟩
 ·rw[dX]at e;cases e
 ·rw[dX]at e;cases e;have n:B≠a:=λz=>by rw[<-z,bj]at l;cases l
  refine⟨_,_,rfl,_,_,rfl,_,_,rfl,_,_,rfl,sz3 4,_,_,rfl,_,_,rfl,_,_,rfl,sz3 3,_,if_pos (sz3 7),?_⟩;refine⟨_,_,rfl,?_⟩;rw[if_pos (by rfl)];refine⟨_,_,rfl,_,rfl,rfl,?_⟩;rw[if_pos (by rfl)];refine⟨_,_,rfl,_,_,rfl,?_⟩;rw[if_pos (by rfl)];refine⟨_,_,rfl,?_⟩;rw[if_pos (by rfl)];exact⟨B,rfl,_,by rw[bY n,bj],sz3 2,M,λb u e=>by
   have O:b≠B:=λz=>by rw[z,I]at e;cases e
   have N:b≠a:=λz=>by rw[z]at e;rw[bY (T7 n)]at l;rw[l]at e;cases e
   rw[bY N,bY O];exact e,k0 i w O N X⟩
 ·rw[dX]at e;cases e
 ·rw[dX]at e;cases e;refine⟨_,_,rfl,_,_,rfl,_,_,rfl,_,_,rfl,sz3 4,_,_,rfl,_,_,rfl,_,_,rfl,sz3 3,_,if_pos (sz3 7),?_⟩;refine⟨_,_,rfl,?_⟩;rw[if_pos (by rfl)];refine⟨_,_,rfl,_,rfl,rfl,?_⟩;rw[if_pos (by rfl)];refine⟨_,_,rfl,_,_,rfl,?_⟩;rw[if_pos (by rfl)];refine⟨_,_,rfl,?_⟩;rw[if_neg (by decide)];exact⟨M,cq l,k1 C U⟩
theorem jZ:∀{ds:List D},(∀d∈ds,eqD d d=true)->dn ds ds=true
 |[],_=>by simp[dn]
 |d::ds,h=>by rw[dn,h d (.head _),jZ λe a=>h e (.tail _ a)];rfl
theorem lX:∀(n:Nat) {d:D},dLe d n=true->eqD d d=true
 |0,d,h=>by cases d<;>first|(simp[dLe]at h;done)|simp[eqD]
 |n+1,d,h=>by
  cases d with
  |tup b=>simp only[eqD];exact jZ λd a=>lX n (cb.mp h d a)
  |lst b=>simp only[eqD];exact jZ λd a=>lX n (cb.mp h d a)
  |_=>first|(simp[dLe]at h;done)|simp[eqD]
theorem sS{d:D}(h:dLe d 60=true):neF d d=some (.bl false):=by
 unfold neF;rw[if_pos ⟨h,h⟩,lX 60 h];rfl
theorem rh{a xs:List Int}(h:A4 a xs){i:Nat}{s:Int}(b:a[i]?=some s):∃x,xs[i]?=some x/\atI (xs.map D.int) (i:Int)=some (.int x)/\0<=x/\x<s:=by
 have f:i<xs.length:=by rw[h.1];exact(J8.mp b).1
 have e:=E4 f;exact⟨_,e,aE (by rw[F4,e];rfl),h.2 i _ _ e b⟩
theorem Ek:md (.lst [.int 8,.int 112]) (.int 6)=some (.lst (([8,112,8,112,8,112,8,112,8,112,8,112]:List Int).map D.int)):=by
 have e:md (.lst [.int 8,.int 112]) (.int 6)=if -(2 ^ 63)<=(6:Int)/\(6:Int)<2 ^ 63/\[D.int 8,D.int 112].length*(6:Int).toNat<=F2 then some (.lst (F3 (6:Int).toNat [D.int 8,D.int 112]).flatten)else none:=rfl
 rw[e,if_pos ⟨by decide,by decide,sz3 12⟩];rfl
def szs:List Int:=[4,3,8,8,112,8,112,8,112,8,112,8,112,8,112]
theorem Ed:oQ (.lst [.int 4,.int 3,.int 8]) (.lst (([8,112,8,112,8,112,8,112,8,112,8,112]:List Int).map D.int))=some (.lst (szs.map D.int)):=by
 rw[sj,if_pos (by simp;exact sz3 15)];rfl
theorem BA{cs:List Nat}{b:List (Nat×Nat)}:dLe (rF cs b) 60=true:=by
 refine cb.mpr λd a=>?_;simp only[I0,S7,or_false]at a;rcases a with rfl|rfl
 ·refine cb.mpr λd a=>?_;obtain⟨n,_,rfl⟩:=O0.mp a;rfl
 ·refine cb.mpr λd a=>?_;obtain⟨n,_,rfl⟩:=O0.mp a;rfl
theorem Wd.pap{d:D}(h:Wd d):oq d:=⟨h.1,λa b e=>by have:=(h.2 _ e).2 (.tup b) (by simp) b rfl;lia⟩
theorem xF{o:List (Str×Str)}{au:Str}{ks:List (List Row)}{d:D}(h:∀(cs:List Nat) (a:List (Nat×Nat)),d=.tup [.tup (cs.map fv),.tup (a.map stD)]->cs=[]):dwB o ks au d=false:=by
 refine uW ?_;rintro⟨cs,a,e,g,b⟩;obtain rfl:=h cs a e;have f:ks=[]:=List.eq_nil_of_length_eq_zero g.1.symm;subst f;have:=oZ b;rw[show bO [] []=[]from rfl]at this;simp at this
 lia
def Bg:List D:=[.non,.int 7,.tup [],.str (R7 ""),.tup [.tup [],.tup []],.lst [.tup [],.tup []],.tup [.tup [],.tup [.tup [.int 0,.int 0]]],.emp]
theorem zo:∀d∈Bg,oq d/\∀(cs:List Nat) (b:List (Nat×Nat)),d=.tup [.tup (cs.map fv),.tup (b.map stD)]->cs=[]:=by
 intro d f;simp only[Bg,I0,S7,or_false]at f;rcases f with rfl|rfl|rfl|rfl|rfl|rfl|rfl|rfl
 all_goals refine⟨⟨rfl,λa g e=>?_⟩,λcs b e=>?_⟩
 all_goals first|(cases e;done)|skip
 all_goals simp only[D.tup.injEq,N0,and_true]at e
 ·rw[<-e.2];simp
 ·simpa using e.1.symm
 ·rw[<-e.2];simp
 ·simpa using e.1.symm
def CT:List Str:=[R7 "Notaword",R7 "no word",R7 "",R7 "notawordx"]
theorem yp:∀w∈CT,aw (.str w)=true/\bp w=false:=by decide +kernel
theorem oF{ord:List (Str×Str)}{au:Str}{aj:List (Str×List Row)}{ws:List Str}{d v:D}{M:DH}{R:D->DH->Prop}(h:LxP ord au aj)(hg:∀w∈ws,aw (.str w)=true)(l:ws.length<=8)(g:oq d)
  (j:∀(i:Nat) (w:Str),ws[i]?=some w->w∉aj.map (·.1)->v=.tup [.str "word",.str w]) (n:(∀w∈ws,w∈aj.map (·.1))->dwB ord (kit aj ws) au d=false->v=.str "drawing")
  (m:(∀w∈ws,w∈aj.map (·.1))->∀cs f,d=.tup [.tup (cs.map fv),.tup (f.map stD)]->Cho (kit aj ws) cs->Drw ord (bO (kit aj ws) cs++[(au,1)]) f->v=rF cs f) (k:R v M):mj [c7 ord au aj,.tup (ws.map .str),d] M R :=
 ⟨ord,au,aj,ws,d,rfl,h,hg,l,g,λi w a b _=>by rw[<-j i w a b];exact k,λa b=>by rw[<-n a b];exact k,λa cs f e b c=>by rw[<-m a cs f e b c];exact k⟩
def S_law:SpD:=λe M R=>∃a:List Int,e=[.scr (a.map .int)]/\M=noM/\a.length<=63/\∀b,R (.bl true) b
theorem BY(F:Fun K "law" "law" xN f fd)(T:Txt G)(e0:FnD P w K G base "_law_sentence" 3 1 jt)(Y6:FnD P w K G base "_law_parts" 1 2 kh)(d3:FnD P w K G base "_law_drawn" 4 3 ng)(G1:FnD P w K G base "_law_bent" 7 2 (jI 6))(d9:FnD P w K G base "_law_due" 1 1 tu)(a':FnD P w K G base "_law_seen" 9 3 mj):aU P w K G base CX0 10 f fd ["_law_script"] (spD K 1 S_law):=by
 have Z:=vU.nd;refine F.okR rfl vU (λe8 A d8 s H E Q=>⟨_,(ai (fq O5 rfl (bb (az bv (aQ i8 rfl T.b_list (by kernel_rfl) (ae (aV (aa 0) bu (bh ah)) ag)) (cA (ae ah ag)))) (aR (i:=1) Z rfl (L7 rfl)) (ai (lT (qd e0 Q (ae (aa 1) ag)) (iS rfl (bD (aR (i:=2) Z rfl (L7 rfl)) (bD (aR (i:=3) Z rfl (L7 rfl)) (bD (aR (i:=4) Z rfl (L7 rfl)) iV)))))
   (aD (ai (aF (i:=5) Z rfl (L7 rfl) (qd Y6 Q (ae (az gS (av B1 rfl T.b_abs (by kernel_rfl) (ae (aa 1) ag)) ah) (ae (az bv (cA (ae ah (ae ah (ae ah ag)))) (az bZ (cA (ae ah (ae ah ag))) ah)) ag))))
   (aD (ai (aF (i:=6) Z rfl (L7 rfl) (sF rfl T.b_list (by kernel_rfl) (ae (aa 3) ag)))
   (aD (ai (aZ (aH Dy (aB aC (aa 5) ah (λ_ _=>rfl)) ah nbh) (ao (aF (i:=4) Z rfl (L7 rfl) (qd G1 Q (ae (aa 4) (ae (aV (aa 5) (bh ah) bu) ag))))) aN)
   (aD (ai (aF (i:=7) Z rfl (L7 rfl) cX)
   (aD (ai (aZ (bg (qd d3 Q (ae (aa 2) (ae (aa 3) (ae (aa 4) ag))))) (ao (aF (i:=7) Z rfl (L7 rfl) (qd d9 Q (ae (aa 4) ag)))) aN)
   (aD (ai (aZ (aH (fb Q.units) (aB aC (aa 5) ah (λ_ _=>rfl)) ah nbh) (ai (se (aa 6) (az bc (aB aC (aa 5) ah (λ_ _=>rfl)) (av ba rfl T.b_len (by kernel_rfl) (ae (aa 6) ag))) (aB aC (cA (ae cX (ae cX (ae cX (ae cX ag))))) (az bc (aB aC (aa 5) ah (λ_ _=>rfl)) ah) (λ_ _=>rfl)))
   (ao (aF (i:=7) Z rfl (L7 rfl) (bf (ae cX (ae (aB aC (aa 6) (az bc (aB aC (aa 5) ah (λ_ _=>rfl)) (av ba rfl T.b_len (by kernel_rfl) (ae (aa 6) ag))) (λ_ _=>rfl)) ag)))))) aN)
   (aD (ai (aZ (aH (j8 Q.units) (qd a' Q (ae (aa 2) (ae (aQ bW rfl T.b_tuple (by kernel_rfl) (ae (aa 6) ag)) (ae (aa 4) ag)))) (aa 7) nbh) (ao (aX iJ)) aN)
   (aD (ai (aF (i:=8) Z rfl (L7 rfl) (aB aC (cA (ae mw (ae ah (ae (bf ag) (ae cX (ae (bf (ae (bf ag) (ae (bf ag) ag))) (ae (cA (ae (bf ag) (ae (bf ag) ag))) (ae (bf (ae (bf ag) (ae (bf (ae (bf (ae ah (ae ah ag))) ag)) ag))) (ae zO ag))))))))) (aB aC (aa 5) ah (λ_ _=>rfl)) (λ_ _=>rfl)))
   (aD (ao (aZ (fE (et (aH (j8 Q.units) (qd a' Q (ae (aa 2) (ae (bf ag) (ae (aa 8) ag)))) cX nbh) (dJ (aH (j8 Q.units) (qd a' Q (ae (aa 2) (ae (aa 3) (ae (aa 8) ag)))) cX nbh)))) (ao (aX iJ)) aN)))))))))))))))))))))
   (ao (aX iJ))),λds M R _ hS bk=>?_⟩)
 obtain⟨ns,rfl,rfl,hn,k⟩:=hS;refine bk ?_;clear bk;walk_at"";obtain⟨ys,c5,e5⟩:∃ys:List Int,L2.cY (ns.map D.int) none (some 15)=ys.map D.int/\ys.length<=15:=⟨ns.take 15,by rw[show(15:Int)=((15:Nat):Int)from rfl,jj,ae0],by rw[O8];lia⟩;rw[c5];refine⟨_,rfl,sz3 1,_,if_pos (sz3 _ (by simp;lia)),_,rfl,λhz=>?_⟩;rw[show ys.map D.int++[D.int 0]=(ys++[0]).map D.int by rw[N1];rfl];refine bt (λi Δ M'=>∃x1 x2 x3 x4 x5 x6 x7 x8,Δ=[some (D.scr (ns.map D.int)),x1,x2,x3,x4,x5,x6,x7,x8]) ⟨_,_,_,_,_,_,_,_,rfl⟩ ?_ ?_
 ·rintro i d Δ M X L ⟨x1,x2,x3,x4,x5,x6,x7,x8,rfl⟩ k';obtain⟨c,I,rfl⟩:=ft L;refine⟨_,rfl,?_⟩;walk_at"";refine⟨c,rfl,λord O B ch b hL d5 e3 e1 e9 c'=>?_⟩;walk_at"";simp only[eX,cg,ck,fD,V2];refine⟨_,if_pos rfl,am ?_⟩;walk_at"";refine⟨sz3 3,sz3 2,_,Ek,_,Ed,_,szs,rfl,by decide,by decide,λxs hx=>am ?_⟩;obtain⟨x0,_,a0,b0,c0⟩:=rh (i:=0) hx rfl;obtain⟨e6,_,a1,b1,c1⟩:=rh (i:=1) hx rfl;obtain⟨a8,_,a2,b2,c2⟩:=rh (i:=2) hx rfl;have d4:xs.length=15:=hx.1;have d1:∀x∈xs,0<=x:=λx hm=>by
   obtain⟨i,hi,rfl⟩:=U8.mp hm;obtain⟨s,hs⟩:∃s,szs[i]?=some s:=⟨_,E4 (by show i<15;lia)⟩;exact(hx.2 i _ s (E4 hi) hs).1
  obtain⟨g,hE⟩:∃g,B.map (·.1)=g:=⟨_,rfl⟩;have C:∀w∈g,w∈B.map (·.1):=λw h=>by rw[hE];exact h
  have a7:∀w∈g,aw (.str w)=true:=λw h=>(hL.good (C w h)).1;have Y:g.length<=8:=by rw[<-hE,E3];exact hL.n
  have d0:0<g.length:=by rw[<-hE,E3];exact af2.mpr d5
  rw[hE];have tr:Tr 3 (.tup [.tup (bI ch),.tup (b.map stD)]):=by
   refine .tup 2 _ (show 2<=12 by decide) λd L=>?_;simp only[I0,S7,or_false]at L;rcases L with rfl|rfl
   ·refine .tup 1 _ (by rw[bI,E3];lia) λd L=>?_;obtain⟨n,hn,rfl⟩:=O0.mp L;exact .int 1 _ (by lia) (by have:=e1 n hn;lia)
   ·refine .tup 1 _ (by rw[E3];lia) λd L=>?_;obtain⟨a,ha,rfl⟩:=O0.mp L;have:=c' a ha;refine .tup 0 _ (show 2<=12 by decide) λd L=>?_;simp only[I0,S7,or_false]at L;rcases L with rfl|rfl
    ·exact .int 0 _ (by lia) (by lia)
    ·exact .int 0 _ (by lia) (by lia)
  walk_at"";intro p hp;refine am (iZ (λq M2=>∃U,q=[some (D.scr (ns.map D.int)),some (D.int c),some (c7 ord O B),some (D.tup (g.map D.str)),some U,some (D.lst (xs.map D.int)),some (D.ref p),x7,x8]/\M2=aG M p (.lst (g.map D.str))/\oq U) (λnx u=>?_) ?_)
  ·walk_at"";refine⟨_,a1,?_⟩;walk_at"";refine aT (λh=>?_) (λh=>u _ _ ⟨_,rfl,rfl,tr.wd.pap⟩);rw[show(3:Int)=((3:Nat):Int)from rfl,fF,<-ag8];exact⟨3,_,xs.drop 3,rfl,tr,by decide,by rw[U0,d4],λx h=>d1 x (U9 h),λd' b'=>u _ _ ⟨_,rfl,rfl,b'.pap⟩⟩
  rintro q M2 ⟨U,rfl,rfl,b5⟩;refine am ?_;walk_at"";refine am (iZ (λq M2=>∃du,q=[some (D.scr (ns.map D.int)),some (D.int c),some (c7 ord O B),some (D.tup (g.map D.str)),some U,some (D.lst (xs.map D.int)),some (D.ref p),some du,x8]/\M2=aG M p (.lst (g.map D.str))/\(dwB ord (kit B g) O U=false->du=.str "drawing")/\(∀l b,U=.tup [.tup (l.map fv),.tup (b.map stD)]->Cho (kit B g) l->Drw ord (bO (kit B g) l++[(O,1)]) b->du=rF l b)) (λnx u=>?_) ?_)
  ·walk_at"";refine⟨ord,O,B,g,U,rfl,hL,C,Y,b5,_,rfl,aT (λh=>?_) (λh=>u _ _ ⟨_,rfl,rfl,λ_=>rfl,λl b e I L=>absurd (xR ⟨l,b,e,I,L⟩) h⟩)⟩;obtain⟨l,b,rfl,I,S⟩:qT ord (kit B g) O U:=by simpa[dwB]using h
   have d6:=oZ S;have e7:=hL.row40 C Y (cs:=l);rw[E7,Q9]at d6;refine⟨l,b,rfl,by lia,λa ha=>?_,u _ _ ⟨_,rfl,rfl,(λz=>by rw[h]at z;cases z),λc6 b3 e e4 b'=>?_⟩⟩
   ·have N:=S.1 a ha;rw[E7,Q9]at N
    lia
   ·simp only[D.tup.injEq,N0,and_true]at e;obtain rfl:l=c6:=dM (λx y h=>by have:=D.int.inj h;lia) e.1;obtain rfl:b=b3:=dM oM e.2;rfl
  rintro q M2 ⟨du,rfl,rfl,a3,a5⟩;refine am (iZ (λq M2=>∃(wl:List Str) (dv:D),q=[some (D.scr (ns.map D.int)),some (D.int c),some (c7 ord O B),some (D.tup (g.map D.str)),some U,some (D.lst (xs.map D.int)),some (D.ref p),some dv,x8]/\M2=aG M p (.lst (wl.map D.str))/\((wl=g/\dv=du)∨∃(j:Nat) (m:Str),wl=g.set j m/\j<g.length/\aw (.str m)=true/\m∉B.map (·.1)/\dv=.tup [.str "word",.str m])) (λnx u=>?_) ?_)
  ·walk_at"";refine⟨_,a0,?_⟩;walk_at"";refine aT (λh=>?_) (λh=>u _ _ ⟨g,du,rfl,rfl,.inl ⟨rfl,rfl⟩⟩);obtain⟨od,a9,a6⟩:=ow (ds:=CT.map D.str) (i:=a8 % 4) (by lia) (by show a8 % 4<4;lia);obtain⟨m,b8,rfl⟩:=O0.mp a9;obtain⟨g0,s0⟩:=yp m b8;have t:m∉B.map (·.1):=λz=>by rw[(hL.good z).2]at s0;cases s0
   obtain⟨v,hv,ev⟩:=gc d0 a8;refine⟨sz3 4,_,a2,?_⟩;walk_at"";refine⟨_,a6,_,a2,?_⟩;walk_at"";rw[E3];refine⟨_,if_pos (by lia),?_⟩;walk_at"";rw[ev];refine⟨v,kW (by rw[E3];exact hv),_,a2,?_⟩;walk_at"";rw[X9,E3];refine⟨_,if_pos (by lia),?_⟩;walk_at"";rw[ev];refine⟨.str m,aE (by rw[N5 (by rw[E3];exact hv)]),sz3 2,?_⟩;rw[show(g.map D.str).set v (.str m)=(g.set v m).map D.str by rw[List.map_set]];exact u _ _ ⟨g.set v m,_,rfl,rfl,.inr ⟨v,m,rfl,hv,g0,t,rfl⟩⟩
  rintro q M2 ⟨wl,dv,rfl,rfl,J⟩;refine am ?_;walk_at"";have d2:∀w∈wl,aw (.str w)=true:=by
   rcases J with⟨rfl,_⟩|⟨j,m,rfl,hj,g0,_,_⟩
   ·exact a7
   ·intro w hw;rcases aa7 hw with z|rfl
    ·exact a7 w z
    ·exact g0
  have c3:wl.length<=8:=by
   rcases J with⟨rfl,_⟩|⟨j,m,rfl,hj,g0,_,_⟩
   ·exact Y
   ·rw[X9];exact Y
  have b4:dLe dv 60=true:=by
   rcases J with⟨_,rfl⟩|⟨j,m,_,_,_,_,rfl⟩
   ·cases hb:dwB ord (kit B g) O U with
    |false=>rw[a3 hb];rfl
    |true =>
     obtain⟨l,b,e,I,S⟩:qT ord (kit B g) O U:=by simpa[dwB]using hb
     rw[a5 l b e I S];exact BA
   ·rfl
  have a4:∀j m,wl=g.set j m->j<g.length->m∉B.map (·.1)->¬ ∀w∈wl,w∈B.map (·.1):=λj m e hj t h=>t (h m (by rw[e];exact List.mem_iff_getElem?.mpr ⟨j,by rw[N5 hj]⟩));refine oF (v:=dv) hL d2 c3 b5 (λi w N h2=>?_) (λN h2=>?_) (λN l b e I S=>?_) ?_
  ·rcases J with⟨rfl,_⟩|⟨j,m,rfl,hj,g0,t,rfl⟩
   ·exact absurd (C w (F7 N)) h2
   ·rcases aa7 (F7 N)with z|rfl
    ·exact absurd (C w z) h2
    ·rfl
  ·rcases J with⟨rfl,rfl⟩|⟨j,m,e,hj,g0,t,_⟩
   ·exact a3 h2
   ·exact absurd N (a4 j m e hj t)
  ·rcases J with⟨rfl,rfl⟩|⟨j,m,e2,hj,g0,t,_⟩
   ·exact a5 l b e I S
   ·exact absurd N (a4 j m e2 hj t)
  have d7:∀M2:DH,rdM M2 dv=dv:=λM2=>by cases dv<;>first|rfl|(simp[dLe]at b4)
  refine⟨_,by rw[d7];exact sS b4,_,rfl,?_⟩;rw[if_neg (by simp)];refine am ?_;walk_at"";obtain⟨od,a9,a6⟩:=ow (ds:=Bg) b2 c2;obtain⟨b9,c4⟩:=zo od a9;refine⟨sz3 0,sz3 0,sz3 0,sz3 2,sz3 0,sz3 0,sz3 2,sz3 0,sz3 2,sz3 1,sz3 2,sz3 8,_,a2,_,a6,am ?_⟩;walk_at"";have no:∀(ks:List (List Row)) (l:List Nat) (b:List (Nat×Nat)),od=.tup [.tup (l.map fv),.tup (b.map stD)]->Cho ks l->Drw ord (bO ks l++[(O,1)]) b->D.str "drawing"=rF l b:=λks l b e I S=>by
   have N:=xR (o:=ord) (au:=O) ⟨l,b,e,I,S⟩;rw[xF c4]at N;cases N
  have b6:neF (.str "drawing") (.str "drawing")=some (.bl false):=sS rfl;refine⟨sz3 0,?_⟩;refine oF (ws:=[]) (v:=.str "drawing") hL (λw h=>by cases h) (by decide) b9 (λi w h=>by simp at h) (λ_ _=>rfl) (λ_ l b e I S=>no _ l b e I S) ?_;refine⟨_,b6,_,rfl,?_⟩;rw[if_neg (by simp)];refine oF (v:=.str "drawing") hL a7 Y b9 (λi w N h2=>absurd (C w (F7 N)) h2) (λ_ _=>rfl) (λ_ l b e I S=>no _ l b e I S) ?_;refine⟨_,b6,_,rfl,?_⟩;rw[if_neg (by simp)];exact k' _ _ ⟨_,_,_,_,_,_,_,_,rfl⟩
 ·rintro Δ M ⟨x1,x2,x3,x4,x5,x6,x7,x8,rfl⟩;walk_at"";exact k _
end
theorem CH:Dc S_law:=λe R a b=>⟨e,rfl,rfl,a,b⟩
theorem AA{l:PySem.W.OpenLaw}{w:Q5}{K:E2}{h:J6}{mg:Str->Option E1}{fa:F0}(X:K.In h)(G:h.Ns J3 mg)(hfa:mg "law"=some (.ref fa))
  {f0:F0} {d0:J7}
  {f1:F0} {d1:J7}
  {f2:F0} {d2:J7}
  {f3:F0} {d3:J7}
  {f4:F0} {d4:J7}
  {f5:F0} {d5:J7}
  {f6:F0} {d6:J7}
  {f7:F0} {d7:J7}
  {f8:F0} {d8:J7}
  {f9:F0} {d9:J7}
  {f10:F0} {y0:J7}
  {r4:F0} {o4:J7}
  {w7:F0} {r3:J7}
  {f13:F0} {n6:J7}
  {n7:F0} {u3:J7}
  {w':F0} {o1:J7}
  {q4:F0} {q8:J7}
  {t8:F0} {t6:J7}
  {r6:F0} {z':J7}
  {z4:F0} {u1:J7}
  {w6:F0} {r0:J7}
  {t9:F0} {d21:J7}
  {f22:F0} {d22:J7}
  {s9:F0} {s':J7}
  {f24:F0} {p4:J7}
  {f25:F0} {s3:J7}
  {x':F0} {r5:J7}
  {p':F0} {v5:J7}
  {t3:F0} {z7:J7}
  {f29:F0} {q2:J7}
  {z0:F0} {t7:J7}
  {p2:F0} {s4:J7}
  {t4:F0} {w4:J7}
  {v1:F0} {d33:J7}
  {f34:F0} {q0:J7}
  {f35:F0} {z1:J7}
  {r7:F0} {r2:J7}
  {v':F0} {w8:J7}
  {q1:F0} {d38:J7}
  {m:Tok}
  {o:Tok}
  {W WN:F0} {wn wq:Str} {r1:List E1} {wh:Bool} {r9:List Str} {n0:List E1} {t':Bool} {n2:Option Bool} {wdd:Option F0} {w0 w1 w2 w3 w5:Option E1} {l':String} {wnc:E1} {s1:Option F0} {l4:Array am3} {q7:Nat} {z2:Array (Option E1)}
  {q:F0}
  {b:F0}
  {t:F0}
  {f:F0}
  {g:F0}
  {A:F0}
  {n:F0}
  {u:F0}
  {j:F0}
  {z p9:F0} {s7 xq0:Str} {j1:List E1}  {l6:List Str} {h4:List E1} {m':Bool} {g1:Option Bool} {k5:Option F0} {n' y2 p5 z8 r':Option E1}
  {b':F0} {m2 k3:Option F0} {k1:Array (Option E1)} {k7 m0 k0 c2 l3:E1}
  {I j2:F0} {u5 u2:Str} {n1:List E1} {z5:Bool} {l0:List Str} {g5:List E1} {i2:Bool} {h2:Option Bool} {i':Option F0} {v0 o2 q' y' s0:Option E1}
  {i1:E1} {k2:Option F0} {c1:Array am3} {j5:Nat} {l5:Array (Option E1)}
  (x0:bC K "is_whole" fX f0 d0)
  (x1:bC K "is_tuple_of" dZ f1 d1)
  (x2:bC K "is_short_word" bX f2 d2)
  (x3:bC K "reached_from" dG f3 d3)
  (x4:bC K "some_cross" cR f4 d4)
  (x5:bC K "words_of" eD f5 d5)
  (x6:bC K "goals_wish" eQ f6 d6)
  (x7:bC K "mirrored_arc" dF f7 d7)
  (x8:bC K "_law_parts" jO f8 d8)
  (x9:bC K "_law_letters" fo f9 d9)
  (h7:bC K "_law_most" k6 f10 y0)
  (e2:bC K "_law_matched" hV r4 o4)
  (e5:bC K "_law_cut" ph w7 r3)
  (h1:bC K "_law_kinds" iy f13 n6)
  (h':bC K "_law_leaf" lw n7 u3)
  (f':bC K "_law_whole" j7 w' o1)
  (h5:bC K "_law_due" pk q4 q8)
  (e0:bC K "at_most" gR t8 t6)
  (d':bC K "is_arc" jf r6 z')
  (g2:bC K "has_word" fZ z4 u1)
  (e6:bC K "_law_signs" fG w6 r0)
  (g3:bC K "_law_cancel" i6 t9 d21)
  (h0:bC K "mark_leads" eW f22 d22)
  (e3:bC K "are_arcs" cM s9 s')
  (b2:bC K "kinds_of" eE f24 p4)
  (c3:bC K "_law_sentence" dg f25 s3)
  (h9:bC K "_law_arcs_right" cV x' r5)
  (g8:bC K "cancel" ji p' v5)
  (g7:bC K "refuse_other_words" bK t3 z7)
  (e8:bC K "signs_of" dj f29 q2)
  (e1:bC K "is_choice" cy z0 t7)
  (e4:bC K "_law_drawn" ik p2 s4)
  (g4:bC K "is_drawing" cO t4 w4)
  (c5:bC K "is_words_drawing" cf v1 d33)
  (g':bC K "refuse_no_drawing" bU f34 q0)
  (a:bC K "_law_bent" mF f35 z1)
  (h3:bC K "mirrored_drawing" bA r7 r2)
  (i0:bC K "_law_seen" mm v' w8)
  (l2:bC K "law" xN q1 d38)
  (H:L5 K J3 "isinstance"=some none)
  (e9:L5 K J3 "int"=some none)
  (b9:L5 K J3 "bool"=some none)
  (b6:L5 K J3 "tuple"=some none)
  (h6:L5 K J3 "len"=some none)
  (h8:L5 K J3 "str"=some none)
  (e7:L5 K J3 "all"=some none)
  (b0:L5 K J3 "sorted"=some none)
  (c0:L5 K J3 "list"=some none)
  (b8:L5 K J3 "range"=some none)
  (c':L5 K J3 "any"=some none)
  (e':L5 K J3 "zip"=some none)
  (c6:L5 K J3 "max"=some none)
  (J:L5 K J3 "ValueError"=some none)
  (c4:L5 K J3 "abs"=some none)
  (p:L5 K J3 "SMALL_LETTERS"=some (some (.str "abcdefghijklmnopqrstuvwxyz" m)))
  (x:L5 K J3 "MOST_LETTERS"=some (some (.int 8 o)))
  (aW:L5 K J3 "WishError"=some (some (.ref W)))
  (lW:K.lookup W=some (S6 wn wq W WN r1 [.type "ValueError",.type "Exception",.type "BaseException",.type "object"] wh r9 n0 t' n2 wdd w0 w1 w2 w3 w5 l'))
  (nW:K.lookup WN=some ⟨wnc,s1,.dict l4 q7,z2⟩)
  (hW:l4.toList.all (λe=>e.key.isStr "__init__"==false&&match e.key with|.str _ _=>true|_=>false)=true)
  (sW:ah2 K (.ref W) "__getattribute__"=some (some (.builtin "type.__getattribute__")))
  (rW:PySem.W.readsIn K W (.type "type")=true)
  (fW:PySem.W.findCls K (.ref W) (.type "type") "__init__"=some (.val (.builtin "ValueError.__init__")))
  (i4:ah2 K (.builtin "object.__class__") "__get__"=some (some (.builtin "getset_descriptor.__get__")))
  (i5:PySem.W.takesIn K (.builtin "object.__class__")=some true)
  (a9:L5 K J3 "NoWord"=some (some (.ref q)))
  (M:L5 K J3 "NoDrawing"=some (some (.ref b)))
  (b4:L5 K J3 "NoKept"=some (some (.ref t)))
  (N:L5 K J3 "NoLexicon"=some (some (.ref f)))
  (R:L5 K J3 "NoNumber"=some (some (.ref g)))
  (b5:L5 K J3 "NoRow"=some (some (.ref A)))
  (b1:L5 K J3 "NoStep"=some (some (.ref n)))
  (b3:L5 K J3 "NoText"=some (some (.ref u)))
  (Z:L5 K J3 "NoWorld"=some (some (.ref j)))
  (aC0:L5 K J3 "NoWord"=some (some (.ref z)))
  (kC0:T8 K (.ref z)=true)
  (n3:K.lookup z=some (S6 s7 xq0 z p9 j1 [.ref W,.type "ValueError",.type "Exception",.type "BaseException",.type "object"] true l6 h4 m' g1 k5 n' y2 p5 z8 r' "ValueError.__new__"))
  (z6:O6 K (.ref z) "__getattribute__"=some (some (.builtin "BaseException.__getattribute__")))
  (ib0:O6 K (.ref z) "__getattr__"=some none)
  (ic0:ad8 K z (.type "BaseException")=some true)
  (s5:(al8 K z).isSome=true)
  (n8:O6 K (.ref z) "__class__"=some (some (.builtin "object.__class__")))
  (j4:ad8 K z (.type "object")=some true)
  (o5:J4 K (.ref z) (.type "ValueError")=some true)
  (a2:J4 K (.ref z) (.ref q)=some true)
  (B:J4 K (.ref z) (.ref b)=some false)
  (a3:J4 K (.ref z) (.ref t)=some false)
  (C:J4 K (.ref z) (.ref f)=some false)
  (O:J4 K (.ref z) (.ref g)=some false)
  (a':J4 K (.ref z) (.ref A)=some false)
  (a6:J4 K (.ref z) (.ref n)=some false)
  (a1:J4 K (.ref z) (.ref u)=some false)
  (S:J4 K (.ref z) (.ref j)=some false)
  (q6:O6 K (.ref z) "__init__"=some (some (.ref b')))
  (j':K.lookup b'=some ⟨.type "function",m2,.func (Z8 "__init__" "NoWord.__init__" (fj iw) (cD iw) (ak iw) .none k7 m0 k0 k3 c2 l3),k1⟩)
  (s2:ah3 K c2 "NoWord.__init__"=true)
  (p3:T8 K (.ref b')=true)
  (t5:O6 K (.ref z) "__setattr__"=some (some (.builtin "object.__setattr__")))
  (m1:O6 K (.ref z) "word"=some none)
  (hd0:PySem.W.hasDictIn K z=true)
  (y5:L5 K J3 "NoDrawing"=some (some (.ref I)))
  (v2:T8 K (.ref I)=true)
  (k':K.lookup I=some (S6 u5 u2 I j2 n1 [.ref W,.type "ValueError",.type "Exception",.type "BaseException",.type "object"] z5 l0 g5 i2 h2 i' v0 o2 q' y' s0 "ValueError.__new__"))
  (y1:O6 K (.ref I) "__getattribute__"=some (some (.builtin "BaseException.__getattribute__")))
  (z3:O6 K (.ref I) "__getattr__"=some none)
  (y6:ad8 K I (.type "BaseException")=some true)
  (u4:(al8 K I).isSome=true)
  (n4:O6 K (.ref I) "__class__"=some (some (.builtin "object.__class__")))
  (ig1:ad8 K I (.type "object")=some true)
  (u':J4 K (.ref I) (.type "ValueError")=some true)
  (a7:J4 K (.ref I) (.ref q)=some false)
  (E:J4 K (.ref I) (.ref b)=some true)
  (a4:J4 K (.ref I) (.ref t)=some false)
  (L:J4 K (.ref I) (.ref f)=some false)
  (Q:J4 K (.ref I) (.ref g)=some false)
  (a8:J4 K (.ref I) (.ref A)=some false)
  (a5:J4 K (.ref I) (.ref n)=some false)
  (a0:J4 K (.ref I) (.ref u)=some false)
  (U:J4 K (.ref I) (.ref j)=some false)
  (n5:K.lookup j2=some ⟨i1,k2,.dict c1 j5,l5⟩)
  (q9:c1.toList.all (λe=>e.key.isStr "__init__"==false&&match e.key with|.str _ _=>true|_=>false)=true)
 :∃fd:J7,(∀(s:E6) (v:E1),ao7 s fd ⟨[v],[]⟩ [("_law_script",v)])/\∀base:J6,K.In base->base.Ns J3 mg->aU l.prog w K mg base CX0 10 fa fd ["_law_script"] (spD K 1 S_law):=by
 have T:Txt mg:=⟨N6 X G H,N6 X G e9,N6 X G b9,N6 X G b6,N6 X G h6,N6 X G h8,N6 X G e7,N6 X G b0,N6 X G c0,N6 X G b8,N6 X G c',N6 X G e',N6 X G c6,N6 X G J,N6 X G c4,⟨_,P3 X G p⟩,⟨_,P3 X G x⟩⟩;have Y:uy K mg z I W b':=⟨⟨P3 X G aC0,P3 X G aW,kC0,⟨_,_,_,_,_,_,_,_,_,_,_,_,_,_,n3⟩,q6,⟨_,_,_,_,_,_,_,_,_,lW,nW,hW⟩,sW,rW,fW,t5,j4,m1⟩,⟨hd0,m1⟩,⟨P3 X G y5,v2,⟨_,_,_,_,_,_,_,_,_,_,_,_,_,_,_,_,_,_,_,_,k',n5,q9⟩,⟨_,_,_,_,_,_,_,_,_,lW,nW,hW⟩⟩,P3 X G aW,al2 ⟨_,_,_,_,_,_,_,_,_,_,_,_,_,_,_,_,_,n3,by simp⟩ ⟨_,_,_,_,_,_,_,_,_,_,_,_,_,_,_,_,_,k',by simp⟩,⟨_,_,_,_,_,_,_,_,_,_,_,_,_,_,_,_,_,lW,by simp⟩,al2 ⟨z6,ib0,ic0,s5,n8,i4,i5,j4⟩ ⟨y1,z3,y6,u4,n4,i4,i5,ig1⟩,ix2 o5 u',⟨_,P3 X G a9,ix2 a2 a7⟩,⟨_,P3 X G M,ix2 B E⟩,⟨_,P3 X G b4,ix2 a3 a4⟩,⟨_,P3 X G N,ix2 C L⟩,⟨_,P3 X G R,ix2 O Q⟩,⟨_,P3 X G b5,ix2 a' a8⟩,⟨_,P3 X G b1,ix2 a6 a5⟩,⟨_,P3 X G b3,ix2 a1 a0⟩,⟨_,P3 X G Z,ix2 S U⟩⟩;have k4:=qQ (st:=iw) j' s2 p3;have l1:=bd2 k4 λ_ _ _ _ _ _ _ _=>rfl;refine Aj X G hfa l2 (λ_ _ _ _ _ _ _=>rfl) λbase=>?_;have G3:=fg X G x0 (mU (P:=l.prog) (w:=w) (base:=base) x0.F T ) (bd1 x0.F λ_ _ _ _ _ _ _=>rfl);have G0:=fg X G x1 (j0 (P:=l.prog) (w:=w) (base:=base) x1.F T ) (bd2 x1.F λ_ _ _ _ _ _ _ _=>rfl);have Y2:=fg X G x2 (jg (P:=l.prog) (w:=w) (base:=base) x2.F T ) (bd1 x2.F λ_ _ _ _ _ _ _=>rfl);have Y3:=fg X G x3 (jC (P:=l.prog) (w:=w) (base:=base) x3.F T ) (bd2 x3.F λ_ _ _ _ _ _ _ _=>rfl);have Y7:=fg X G x4 (kI (P:=l.prog) (w:=w) (base:=base) x4.F T ) (bd1 x4.F λ_ _ _ _ _ _ _=>rfl);have G2:=fg X G x5 (mT (P:=l.prog) (w:=w) (base:=base) x5.F T ) (bd1 x5.F λ_ _ _ _ _ _ _=>rfl);have u0:=fg X G x6 (kL (P:=l.prog) (w:=w) (base:=base) x6.F T ) (bd1 x6.F λ_ _ _ _ _ _ _=>rfl);have Y5:=fg X G x7 (jF (P:=l.prog) (w:=w) (base:=base) x7.F T ) (bd2 x7.F λ_ _ _ _ _ _ _ _=>rfl);have Y6:=fg X G x8 (rb (P:=l.prog) (w:=w) (base:=base) x8.F T ) (bd2 x8.F λ_ _ _ _ _ _ _ _=>rfl);have t0:=fg X G x9 (pj (P:=l.prog) (w:=w) (base:=base) x9.F T ) (bd2 x9.F λ_ _ _ _ _ _ _ _=>rfl);have Y4:=fg X G h7 (uk (P:=l.prog) (w:=w) (base:=base) h7.F T ) (bd3 h7.F λ_ _ _ _ _ _ _ _ _=>rfl);have v3:=fg X G e2 (oP (P:=l.prog) (w:=w) (base:=base) e2.F T ) (bd2 e2.F λ_ _ _ _ _ _ _ _=>rfl);have t1:=fg X G e5 (xm (P:=l.prog) (w:=w) (base:=base) e5.F T ) (bd2 e5.F λ_ _ _ _ _ _ _ _=>rfl);have s8:=fg X G h1 (qY (P:=l.prog) (w:=w) (base:=base) h1.F T ) (bd3 h1.F λ_ _ _ _ _ _ _ _ _=>rfl);have Y1:=fg X G h' (uL (P:=l.prog) (w:=w) (base:=base) h'.F T ) (bd2 h'.F λ_ _ _ _ _ _ _ _=>rfl);have Y0:=fg X G f' (qP (P:=l.prog) (w:=w) (base:=base) f'.F T ) (bd1 f'.F λ_ _ _ _ _ _ _=>rfl);have gb6:=fg X G h5 (vO (P:=l.prog) (w:=w) (base:=base) h5.F T ) (bd1 h5.F λ_ _ _ _ _ _ _=>rfl);have ga2:=fg X G e0 (o6 (P:=l.prog) (w:=w) (base:=base) e0.F T Y3) (bd3 e0.F λ_ _ _ _ _ _ _ _ _=>rfl);have y3:=fg X G d' (pW (P:=l.prog) (w:=w) (base:=base) d'.F T G0 G3) (bd2 d'.F λ_ _ _ _ _ _ _ _=>rfl);have G7:=fg X G g2 (mZ (P:=l.prog) (w:=w) (base:=base) g2.F T Y2 G2) (bd2 g2.F λ_ _ _ _ _ _ _ _=>rfl);have s6:=fg X G e6 (qK (P:=l.prog) (w:=w) (base:=base) e6.F T Y4) (bd5 e6.F λ_ _ _ _ _ _ _ _ _ _ _=>rfl);have y4:=fg X G g3 (qA (P:=l.prog) (w:=w) (base:=base) g3.F T Y4) (bd3 g3.F λ_ _ _ _ _ _ _ _ _=>rfl);have Y9:=fg X G h0 (kH (P:=l.prog) (w:=w) (base:=base) h0.F T ga2) (bd4 h0.F λ_ _ _ _ _ _ _ _ _ _=>rfl);have q5:=fg X G e3 (m7 (P:=l.prog) (w:=w) (base:=base) e3.F T y3) (bd2 e3.F λ_ _ _ _ _ _ _ _=>rfl);have i:=fg X G b2 (mW (P:=l.prog) (w:=w) (base:=base) b2.F T G7 G2) (bd2 b2.F λ_ _ _ _ _ _ _ _=>rfl);have q3:=fgY X G b2 (mV (P:=l.prog) (w:=w) (base:=base) b2.F T Y (vh k4 Y.p0) l1 ⟨_,j',rfl⟩ G7 G2) (bd2 b2.F λ_ _ _ _ _ _ _ _=>rfl);have ga6:=fg X G c3 (m3 (P:=l.prog) (w:=w) (base:=base) c3.F T Y6 v3 s6 t1 t0 s8) (bd1 c3.F λ_ _ _ _ _ _ _=>rfl);have Y8:=fg X G h9 (kO (P:=l.prog) (w:=w) (base:=base) h9.F T Y0 y4) (bd3 h9.F λ_ _ _ _ _ _ _ _ _=>rfl);have gb0:=fg X G g8 (pA (P:=l.prog) (w:=w) (base:=base) g8.F T Y9) (bd3 g8.F λ_ _ _ _ _ _ _ _ _=>rfl);have G4:=fgY X G g7 (fM (P:=l.prog) (w:=w) (base:=base) g7.F T Y q3) (bd2 g7.F λ_ _ _ _ _ _ _ _=>rfl);have G5:=fg X G e8 (m8 (P:=l.prog) (w:=w) (base:=base) e8.F T i u0) (bd3 e8.F λ_ _ _ _ _ _ _ _ _=>rfl);have t2:=fg X G e1 (lU (P:=l.prog) (w:=w) (base:=base) e1.F T G0 G3 i) (bd3 e1.F λ_ _ _ _ _ _ _ _ _=>rfl);have o':=fg X G e4 (qI (P:=l.prog) (w:=w) (base:=base) e4.F T Y8 Y0) (bd3 e4.F λ_ _ _ _ _ _ _ _ _=>rfl);have y7:=fg X G g4 (kM (P:=l.prog) (w:=w) (base:=base) g4.F T q5 Y7 gb0) (bd3 g4.F λ_ _ _ _ _ _ _ _ _=>rfl);have G8:=fg X G c5 (gE (P:=l.prog) (w:=w) (base:=base) c5.F T G0 t2 y7 G5) (bd3 c5.F λ_ _ _ _ _ _ _ _ _=>rfl);have G6:=fgY X G g' (gm (P:=l.prog) (w:=w) (base:=base) g'.F T Y G8) (bd3 g'.F λ_ _ _ _ _ _ _ _ _=>rfl);have G1:FnD l.prog w K mg base "_law_bent" (0+1) 2 (jI 0):=fg X G a xk (bd2 a.F λ_ _ _ _ _ _ _ _=>rfl);replace G1:=fg X G a (eJ (P:=l.prog) (w:=w) (base:=base) a.F T Y1 G1) (bd2 a.F λ_ _ _ _ _ _ _ _=>rfl);replace G1:=fg X G a (eJ (P:=l.prog) (w:=w) (base:=base) a.F T Y1 G1) (bd2 a.F λ_ _ _ _ _ _ _ _=>rfl);replace G1:=fg X G a (eJ (P:=l.prog) (w:=w) (base:=base) a.F T Y1 G1) (bd2 a.F λ_ _ _ _ _ _ _ _=>rfl);replace G1:=fg X G a (eJ (P:=l.prog) (w:=w) (base:=base) a.F T Y1 G1) (bd2 a.F λ_ _ _ _ _ _ _ _=>rfl);replace G1:=fg X G a (eJ (P:=l.prog) (w:=w) (base:=base) a.F T Y1 G1) (bd2 a.F λ_ _ _ _ _ _ _ _=>rfl);replace G1:=fg X G a (eJ (P:=l.prog) (w:=w) (base:=base) a.F T Y1 G1) (bd2 a.F λ_ _ _ _ _ _ _ _=>rfl);have G9:=fgY X G h3 (gD (P:=l.prog) (w:=w) (base:=base) h3.F T Y G4 G6 G5 Y5) (bd3 h3.F λ_ _ _ _ _ _ _ _ _=>rfl);have ga8:=fg X G i0 (uz (P:=l.prog) (w:=w) (base:=base) i0.F T Y G9) (bd3 i0.F λ_ _ _ _ _ _ _ _ _=>rfl);exact BY l2.F T ga6 Y6 o' G1 gb6 ga8
end My
namespace PySem.W.Fast
def tw10034567068081807907:=Nat
def tw10035959155622794808:=Nat
def tw10098427598449157569:=Nat
def tw10099997060415710164:=Nat
def tw10144472173549198001:=Nat
def tw10161168650657670968:=Nat
def tw1016600893141251245:=Nat
def tw10308858623639810904:=Nat
def tw10584523681513849928:=Nat
def tw10733421751867821885:=Nat
def tw10804932549585754245:=Nat
def tw10813068021147341476:=Nat
def tw10851961894849899931:=Nat
def tw10906585319565903588:=Nat
def tw1098596139363113737:=Nat
def tw11140801725638824733:=Nat
def tw11164509203656145482:=Nat
def tw11238066060747806014:=Nat
def tw11254282140044606526:=Nat
def tw11265470161249321845:=Nat
def tw11322687123537870569:=Nat
def tw11322729562521450535:=Nat
def tw11383581136590365534:=Nat
def tw11407644249749121570:=Nat
def tw11467782452904492188:=Nat
def tw11512483322140211705:=Nat
def tw11566271933308373509:=Nat
def tw11629844959486853757:=Nat
def tw11638434396353849912:=Nat
def tw11662114496820238823:=Nat
def tw11673210568433220203:=Nat
def tw11696811858219583099:=Nat
def tw11710014986692292805:=Nat
def tw11793206545386957016:=Nat
def tw11831585732761795880:=Nat
def tw1185193914458328276:=Nat
def tw11855834040011342851:=Nat
def tw1187647337487513426:=Nat
def tw11926591118369670393:=Nat
def tw11980329629111066716:=Nat
def tw12086580875993954048:=Nat
def tw12123385297239589409:=Nat
def tw1213211718481213548:=Nat
def tw12142244944657455421:=Nat
def tw12143608515494328858:=Nat
def tw1216410943092507957:=Nat
def tw12353277838870905110:=Nat
def tw1259377405316291914:=Nat
def tw12596913754900094668:=Nat
def tw12870817412683094051:=Nat
def tw12901310756765641221:=Nat
def tw12903884645970649230:=Nat
def tw12932819421673160221:=Nat
def tw12999342798505917079:=Nat
def tw13007054356650260611:=Nat
def tw13008727782182357244:=Nat
def tw13256351789314279399:=Nat
def tw13269795698826378066:=Nat
def tw13317767218369628422:=Nat
def tw13380706656062470875:=Nat
def tw13413513600064064170:=Nat
def tw1345863519352367170:=Nat
def tw1354459923948058689:=Nat
def tw13555608341860071888:=Nat
def tw1361823731459100338:=Nat
def tw13662947727811077305:=Nat
def tw13675168583409651824:=Nat
def tw13677190641110762851:=Nat
def tw13720077570368385717:=Nat
def tw13843497268755426620:=Nat
def tw14116515424258490116:=Nat
def tw14151412163269499362:=Nat
def tw14162437852447580610:=Nat
def tw14257051719263956294:=Nat
def tw1426897105583073481:=Nat
def tw14316054336184511302:=Nat
def tw14347442868707596892:=Nat
def tw14425316014220010573:=Nat
def tw1445016188391517560:=Nat
def tw14462039347762045333:=Nat
def tw14568094485201423008:=Nat
def tw14582641403201368723:=Nat
def tw14661198301901358644:=Nat
def tw14715555582389535202:=Nat
def tw14757781950468403602:=Nat
def tw14805915982644617278:=Nat
def tw14951286234118529165:=Nat
def tw14986335978432274571:=Nat
def tw15085929728840830763:=Nat
def tw15171198698970791469:=Nat
def tw1521330545159516509:=Nat
def tw15239810917707957871:=Nat
def tw15344675333501036434:=Nat
def tw1539947283092225680:=Nat
def tw15464340565454581391:=Nat
def tw15503241131783762623:=Nat
def tw15527537583930373601:=Nat
def tw15543052840131871190:=Nat
def tw15597786507379637575:=Nat
def tw15607878335945205240:=Nat
def tw15647378682729758088:=Nat
def tw15665642704804825132:=Nat
def tw15727877237562797060:=Nat
def tw15733147488223553687:=Nat
def tw15825371680916094091:=Nat
def tw15879709128476492106:=Nat
def tw16030162890446313563:=Nat
def tw16050769301420261015:=Nat
def tw16144695359278470807:=Nat
def tw16200587416035373586:=Nat
def tw1622633464259343467:=Nat
def tw16251694138534260200:=Nat
def tw16294053507294674709:=Nat
def tw16391469554631299979:=Nat
def tw16453780258432002203:=Nat
def tw1654282165786280335:=Nat
def tw16543336361035283447:=Nat
def tw16699019698146257258:=Nat
def tw16756876100916767473:=Nat
def tw16771856242544377862:=Nat
def tw16775739854624826695:=Nat
def tw16783497386955226675:=Nat
def tw16789442999407186849:=Nat
def tw16889063159494145906:=Nat
def tw17087693844827252143:=Nat
def tw17137918838895817925:=Nat
def tw17154784231320196101:=Nat
def tw17162610974843515868:=Nat
def tw17261051990408577285:=Nat
def tw17331923828902139188:=Nat
def tw17343601825778896374:=Nat
def tw17352856935217419834:=Nat
def tw1735519746932755357:=Nat
def tw17367458194981778616:=Nat
def tw1737949495926620406:=Nat
def tw17382813795243394103:=Nat
def tw17579003028332166036:=Nat
def tw17620403257398359749:=Nat
def tw17739829925635088254:=Nat
def tw1779031120520231734:=Nat
def tw17802192307320482295:=Nat
def tw17805483701878958282:=Nat
def tw17869328478082312029:=Nat
def tw17996671849696559419:=Nat
def tw18001862423272212532:=Nat
def tw18019846179864839936:=Nat
def tw18021960053669212873:=Nat
def tw18075314785935711497:=Nat
def tw18078319820446532911:=Nat
def tw1820746674534925459:=Nat
def tw18280791614394309442:=Nat
def tw18288671763321434202:=Nat
def tw18359754806543033610:=Nat
def tw18361658781607782554:=Nat
def tw1883920673637395755:=Nat
def tw1908055793344852930:=Nat
def tw2023067871291291043:=Nat
def tw2092893294967719405:=Nat
def tw2272956750291102831:=Nat
def tw2426687573839630300:=Nat
def tw245186744602631434:=Nat
def tw2453271078351349026:=Nat
def tw2502728479750093011:=Nat
def tw257145253626919806:=Nat
def tw2579751058142302090:=Nat
def tw26819686588130631:=Nat
def tw2742631314155157485:=Nat
def tw2782319459025317019:=Nat
def tw2980218788651253229:=Nat
def tw3017217593252836908:=Nat
def tw3041733469654765933:=Nat
def tw3128450840114813460:=Nat
def tw3232078689330064092:=Nat
def tw324765641814476353:=Nat
def tw3251673546460108935:=Nat
def tw3340484664112049070:=Nat
def tw3505001487792275305:=Nat
def tw361160821207247339:=Nat
def tw3632332142328510874:=Nat
def tw368844837389187896:=Nat
def tw3696095984514738350:=Nat
def tw3711207017849415960:=Nat
def tw3952200990407192370:=Nat
def tw3997552779406709610:=Nat
def tw4018435795488334240:=Nat
def tw4088425213883323385:=Nat
def tw4131495280223095837:=Nat
def tw4144513841761569855:=Nat
def tw4171502974725162783:=Nat
def tw4214969038246823342:=Nat
def tw4257865291331060686:=Nat
def tw4338801762182295314:=Nat
def tw4450837927119343128:=Nat
def tw4461321905160469611:=Nat
def tw4471815623352790120:=Nat
def tw4488249470038271774:=Nat
def tw4586480238533372290:=Nat
def tw4640069903506775899:=Nat
def tw464651926727186582:=Nat
def tw467741450934607550:=Nat
def tw4690783128647479571:=Nat
def tw4736119165489520526:=Nat
def tw4872561534343553443:=Nat
def tw5028931875504603814:=Nat
def tw5062962075002997922:=Nat
def tw5135930384923917078:=Nat
def tw5142583786029275954:=Nat
def tw5145115575004344415:=Nat
def tw5197683529652977303:=Nat
def tw5236278473786433257:=Nat
def tw5266525993292952076:=Nat
def tw5520724364786020714:=Nat
def tw5554783549309851643:=Nat
def tw5557399529150549848:=Nat
def tw5636630757841693025:=Nat
def tw5754272899410596106:=Nat
def tw5761733167726881557:=Nat
def tw5800693075316379302:=Nat
def tw5941899241247214088:=Nat
def tw594362485700980212:=Nat
def tw6027235376353960526:=Nat
def tw6055546098512836131:=Nat
def tw6269095920539170469:=Nat
def tw630331829892949055:=Nat
def tw6470373549508750482:=Nat
def tw6492984392036022020:=Nat
def tw6507966169786429982:=Nat
def tw6515724213053747088:=Nat
def tw6540406450003152801:=Nat
def tw6540807772431655364:=Nat
def tw6548724528750375620:=Nat
def tw6605597927034203175:=Nat
def tw6662145577891546323:=Nat
def tw6845054589477570900:=Nat
def tw7073553903342473101:=Nat
def tw7244032723713882249:=Nat
def tw7349753529676072079:=Nat
def tw7352904461249079636:=Nat
def tw7417358673015103451:=Nat
def tw7434563071770531725:=Nat
def tw745831143177472836:=Nat
def tw7543080736898420145:=Nat
def tw7553206289163550637:=Nat
def tw7555716206393165066:=Nat
def tw7707774160549270794:=Nat
def tw7731197239286908537:=Nat
def tw7827711947467919103:=Nat
def tw7877154624820950214:=Nat
def tw7878176135901067970:=Nat
def tw7963224975229871686:=Nat
def tw7974169348416273871:=Nat
def tw7991391500561321514:=Nat
def tw8131478483546866867:=Nat
def tw8200102382615559745:=Nat
def tw8208472640993078532:=Nat
def tw8300031468644082588:=Nat
def tw8401465633423695702:=Nat
def tw8494639979278259796:=Nat
def tw8528051794067493468:=Nat
def tw8676657058862630764:=Nat
def tw8782189896261167424:=Nat
def tw8869722980117318490:=Nat
def tw8966230657213710631:=Nat
def tw9013104887054211274:=Nat
def tw9058022318609777555:=Nat
def tw918149930390347618:=Nat
def tw9290576727005982281:=Nat
def tw932124339792367401:=Nat
def tw9322570584283203898:=Nat
def tw9363669343544664451:=Nat
def tw9405320903848307618:=Nat
def tw9444427988842066390:=Nat
def tw9473224735903538388:=Nat
def tw9483733588368850199:=Nat
def tw9570893819613330154:=Nat
def tw9635755973051066741:=Nat
def tw9637758491021021313:=Nat
def tw9660968071629191682:=Nat
def tw9697500638452435675:=Nat
end PySem.W.Fast
open PySem PySem.W PyProof.Rows
set_option maxRecDepth 100000 in
set_option maxHeartbeats 0 in
theorem PySem.Challenge.cw_wordwishes_k51_mirrored_drawings_refused_holds : PySem.Challenge.rw_wordwishes_k51_mirrored_drawings_refused.Holds := by
 w_on;o_law;z_head;(case hw=>w_witness2)
 k_fill
 refine L2.vS (fun _=>rfl) ?_;refine L2.Cv (S:=My.S_law) My.CH (k:=10) (x:="_law_script") (l:=PySem.Challenge.rw_wordwishes_k51_mirrored_drawings_refused) ⟨rfl,by decide,by decide⟩ rfl rfl (fun w h Y=>Y) ?F
 case F =>
  intro w f e h b G a
  refine' My.AA b G a ?_ ?_ ?_ ?_ ?_ ?_ ?_ ?_ ?_ ?_ ?_ ?_ ?_ ?_ ?_ ?_ ?_ ?_ ?_ ?_ ?_ ?_ ?_ ?_ ?_ ?_ ?_ ?_ ?_ ?_ ?_ ?_ ?_ ?_ ?_ ?_ ?_ ?_ ?_ ?_ ?_ ?_ ?_ ?_ ?_ ?_ ?_ ?_ ?_ ?_ ?_ ?_ ?_ ?_ ?_ ?_ ?_ ?_ ?_ ?_ ?_ ?_ ?_ ?_ ?_ ?_ ?_ ?_ ?_ ?_ ?_ ?_ ?_ ?_ ?_ ?_ ?_ ?_ ?_ ?_ ?_ ?_ ?_ ?_ ?_ ?_ ?_ ?_ ?_ ?_ ?_ ?_ ?_ ?_ ?_ ?_ ?_ ?_ ?_ ?_ ?_ ?_ ?_ ?_ ?_ ?_ ?_ ?_ ?_ ?_ ?_ ?_ ?_ ?_ ?_ ?_ ?_ ?_ ?_ ?_ ?_
  all_goals try first|exact L2.DC (by k_is) (by k_is) (by k_is) (by k_is)|exact L2.qQ (by k_is) (by k_is) (by k_is)|k_is|exact rfl
