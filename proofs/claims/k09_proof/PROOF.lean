import PyProof.Rows.All
import Wide.All
import OpenK.AllK
import Wide.FinOn
import Lean
import PyProof.EqAt
import PyProof.EqKinds
import PyProof.TupleCall
import KE.KRevIter
import PyProof.NeKinds
import PyProof.Draws
import PyProof.EnumMake
import KE.KSortTup
import PyProof.ZipIter
import KE.KDictList
import PyProof.AttrMissHeap
import KE.KDictOf
import PyProof.Rows.SetFrom
import PyProof.Rows.SortRunsK
import PyProof.IsRules
import PyProof.SetRoads
import KE.KSortKey
import PyProof.RulesDel
import PyProof.DelItemList
import PyProof.StrCalls6
import PyProof.StrCalls
import PyProof.StrLawsFirst
import PyProof.Rows.StrNews2
import PyProof.Rows.StrLawsPart
import PyProof.Rows.CatFin
import PySem.Challenge.RW_wordwishes_k09_whole_texts_of_lexicons
set_option Elab.async false
set_option linter.all false
set_option maxRecDepth 100000
set_option maxHeartbeats 4000000
set_option bootstrap.genMatcherCode false
set_option compiler.extract_closed false
noncomputable section
open PySem renaming wpAny_bind->o0,Value->s0,wpAny_pure->E1,Shared->E3,Addr->E9,starEach->F0,sizeLine->F2,wpAny->H0,FuncData->J7,Spec->J9,Heap->K0,mainGlobals->K1,Program->K3,Builtin->K6,Around->L6,Expr->L7,model->M8,SetTable->N3,wpAny_holding->O5,World->P4,wpAny_mono->Q5,compareOp->Q6,wpAny_ite_false->R7,wpAny_Call_Name_kw->S5,NameKind->S8,mem_of_lookup->S9,wpAny_loadPart_at->T8,codeAny_call_builtin->U0,backTo->U4,excClassObj->U6,wpAny_newObj_type->U8,codeAny_mono->V8,assignEach->V9,wpAny_pyIter_list->W0,codeAny_builtin->W6,attributeBase->W9,wpAny_truthy_bool->X1,foldedSetIterable->X2,Stmt->X5,keywordEach->X6,binaryOp->X9,eval->Z1,bootBuiltins->Z8,wpAny_loadPart'->ab5,wpAny_setState_of->ab8,Paired->ac0,wpAny_field->ac3,wpAny_callSpecial?_slot->ac4,wpAny_getItem_str_slice->ac6,checkBuiltinCall->ac9,wpAny_call->ad1,scanBound->ad8,codeAny_of_tree->ad9,weight_type_call_type->ae0,behindInMarks->ae1,Scope->ae7,wpAny_call_entry->ae9,wpAny_forIn_list->af1,Keyword->af3,wpAny_isSubtype_exc->af5,call_meets->af8,wpAny_execs_nil->ag1,wpAny_standAt->ag2,letOwnedTupleGo->ag3,wpAny_passesOwn->ag4,backToKw->ag7,wpAny_specialOf->ah0,sliceBounds->ah7,wpAny_storeSet_of->ah9,fits_of_scanBound->ai0,wpAny_ite_true->ai5,PassesOwn->ai6,cLine->ai7,GenState->aj5,Comprehension->aj6,typeIs_str->aj9,wpAny_rule->ak0,holding->ak2,swapsWith->ak3,sizeLine_eq->ak4,post_val_or_str->ak7,assign->al5,wpAny_typeOf->al7,codeAny->am0,wpAny_setField->am1,wpAny_loadPart->am3,wpAny_of_eq->am7,relayAll->am8,setSearchFrom->an0,wpAny_load'->an1,rawInt->an3,setAddHashed->an5,typeIs_int->an9,callerA->ao3,unsupported->ao5,IsPart->ao7,noteFrame->ao8,spliced->ap0,BindsTo->ap1,getItem->ap2,strKind_is->ap4,reduceHash->ap5,Model->ap6,standAt->ap7,pyNext->ap8,pyIter->ap9,cellsFrom->aq0,DictEntry->aq1,valueAt->aq2,seqItems?->aq4,putSet_of->aq5,OwnTail->aq6,Data->aq7,call->aq8,Code->aq9,Result->ar0
open PySem.W renaming Frag->u8,nsIn->M0,mg_of->P3,findIn->R3,mg_none_of->R4,keepIn->U9,fnOf->Z9,hideAll_get->ac1,codeIn->ad2,hideAll_none->ae4,specialIn->ai3,mroIn->aj8,Looks->al3
open PySem.Heap renaming get?_push_of_some->E2,get?_push_size->F6,lt_size->F9,get?_update_other->L8,SameBut->O6,get?_update_self->O7,get?_none_of_le->S2,size_push->T4
open List renaming length_map->E4,replicate->E5,getElem?_eq_getElem->E6,length_append->E8,length_cons->F4,mem_singleton->F5,size_toArray->F7,mem_cons->F8,mem_cons_of_mem->I0,mem_map->J3,getElem?_eq_some_iff->J8,map_cons->K7,getElem?_map->K8,mem_append_right->K9,all_eq_true->L4,nil_append->M9,length_nil->N1,map_append->N4,length_replicate->N6,filterMap_cons->N8,filter_eq_self->N9,getElem?_append_left->O0,mem_of_getElem?->O4,map_map->O9,lookup_cons->P1,getElem?_append_right->P5,length_take->P6,mem_append->P7,getElem?_eq_none->P8,getElem?_cons_succ->P9,getElem_mem->Q0,mem_cons_self->R0,replicate_succ->R5,mem_range->R8,drop_eq_getElem_cons->S0,getElem?_set_self->S4,getElem?_take_of_lt->S6,range->T6,all_map->U1,cons->U2,all_cons->U3,mem_filterMap->V1,getElem?_cons_zero->V4,getElem?_set_ne->V7,map_congr_left->W1,foldl_cons->W5,nodup_append->X4,find?_cons->X7,take_of_length_le->Z0,not_mem_nil->Z6,mem_append_left->ab0,mem_iff_getElem->ab1,append_nil->ab4,flatten_cons->ab7,getElem?_replicate->ac2,any_cons->ac5,drop_eq_nil_of_le->ad3,getElem?_drop->ad5,mem_iff_getElem?->ad7,ext_getElem?->ae2,getElem?_append->ae5,any_eq_true->af0,length_pos_iff->af7,nodup_cons->ag5,reverse_cons->ah8,length_range->ai2,length_drop->aj2,take_length->aj3,length->ak5,map_nil->al8,lookup->ao4,foldl->ap3
open Bool renaming false_eq_true->E7,and_eq_true->F1,false_and->L9,true_and->O1,false_ne_true->R1,eq_iff_iff->R6,and_true->V5,not_true->aa4,and_false->aa9,not_false->am2,false_or->an2
open Nat renaming le_refl->F3,lt_of_lt_of_le->J0,ne_of_lt->K5,le_trans->L5,zero_le->O2,lt_succ_of_lt->R9,lt_or_ge->S3,lt_succ_self->Z5,lt_irrefl->Z7,add_assoc->aa3,ne_of_gt->ad6,le_succ->af4,lt_trichotomy->ai1,mul_comm->ai8,pow_succ->ai9,mod_lt->ak1,le_of_lt->al4,succ_pos->an6,sub_self->an7,pow_add->ao6
open PySem.Txt renaming split->J1,partition->N7,slice->aa0,count->ae8,slice_le->al9
open PySem.Value renaming ref->J4,none->K2,type->M7,bool->ah5,builtin->aj7,str->am4
open PySem.Str renaming ofString->J5,join->N5,length->ah6,empty->ao9
open PySem.F renaming called_set->J6,slot_tuple_iterator_next->Z4,plainAttrs_str->ad4,slot_tuple_hash->ae3,slot_int_rmul->ak6
open Array renaming length_toList->K4,getElem?_eq_some_iff->O3,getElem?_eq_getElem->P0,getD_eq_getD_getElem?->Q8,getElem?_toList->T0,getElem?_setIfInBounds->X0,getD->ag0,forIn_toList->ah1,replicate->ak9
open List.cons renaming injEq->N0
open Or renaming inl->O8
open PySem.StrLaws renaming join_split->P2
open Option renaming some->Q3,isSome_iff_exists->U7,bind_some->ad0,isSome_none->ah3,map_some->ak8
open Option.some renaming inj->Q4,injEq->ab9
open PyProof.Rows renaming slot_tuple_getitem->Q7,callWith_type1->V0,callWith_builtin1->W4,envOfC->ag6,AllBare->aj1,cnt->aj4,kindOf->al6,IsTup->an4
open Bind renaming bind->Q9
open PySem.Builtin.Tuple renaming tupleHashOf->S1,tupleExact->S7,tupleItemsOf->Z3
open PySem.SeqAt renaming EqAt->T5
open False renaming elim->T7
open Ne renaming symm->T9
open PySem.Heap.SameBut renaming update->U5
open ForInStep renaming yield->V2
open PyProof.Rows.F renaming plain_set_update_loop->V3,entry_set_update_loop->ac7
open Int renaming eq_ofNat_of_zero_le->V6,toNat_natCast->ab6
open PySem.NameKind renaming free->W3,cell->ag8
open PySem.Calls renaming spliced_cons->W7,spliced_nil->X3
open PySem.Builtin.Str renaming occurrences->W8,strKind->X8,strSub->ah2
open PySem.Obj renaming data_mapFields->aa1,mapFields->ac8,dropNameByArray->af6,putSet->af9,dropName_eq->al2,mapSeq->an8
open PySem.Code renaming quiet_builtin->aa2,compLoop->am6
open PySem.Builtin.Slice renaming slicePlaces->aa5
open PySem.Builtin.SmallTypes renaming nextOf->aa6
open PySem.SetTable renaming grown->aa7,fresh->ai4
open Classical renaming byContradiction->aa8
open PySem.Around renaming under_plainId->ab3,under_plain->ag9
open Pure renaming pure->ae6
open PySem.Data renaming fields->af2,dict->am5,seq->ao0
open PySem.PassesOwn renaming never->ah4
open PySem.W.Looks renaming here->aj0
open Eq renaming refl->al0
open PySem.Shared renaming TypeIs->am9
open Sum renaming inl->ao1,inr->ao2
open LawfulMonad renaming pure_bind->aq3
set_option compiler.extract_closed false
namespace L2
open PySem PySem.Spec PyProof.Rows
abbrev Key:=Sum Int Str
def zR:Key->s0->Bool
 |.inl k,v=>s0.isInt k v
 |.inr x,v=>s0.isStrOf x v
def Ea(w:P4):Key->Int
 |.inl k=>hashInt k
 |.inr x=>hashStr w x
theorem bt:∀{k:Key}{v:s0},zR k v=true->(∃i t,k=ao1 i/\v=s0.int i t)∨(∃x t,k=ao2 x/\v=am4 x t)
 |.inl i,v,h=>by
  obtain⟨t,e⟩:=s0.isInt_shape (k:=i) (v:=v) h;exact .inl ⟨i,t,rfl,e⟩
 |.inr x,v,h=>by
  obtain⟨t,e⟩:=s0.isStrOf_shape (x:=x) (v:=v) h;exact .inr ⟨x,t,rfl,e⟩
theorem Ap(a b:Int):decide ((ao1 a:Key)=ao1 b)=(a==b):=by
 by_cases e:a=b
 ·subst e;simp
 ·have h:¬ (ao1 a:Key)=ao1 b:=λq=>e (ao1.inj q);rw[decide_eq_false h];exact(beq_eq_false_iff_ne.mpr e).symm
theorem Ae(a b:Str):decide ((ao2 a:Key)=ao2 b)=decide (a=b):=by
 by_cases e:a=b
 ·subst e;simp
 ·have h:¬ (ao2 a:Key)=ao2 b:=λq=>e (ao2.inj q);rw[decide_eq_false h,decide_eq_false e]
theorem BC(a:Int)(b:Str):decide ((ao1 a:Key)=ao2 b)=false:=decide_eq_false (λq=>nomatch q)
theorem Bv(a:Str)(b:Int):decide ((ao2 a:Key)=ao1 b)=false:=decide_eq_false (λq=>nomatch q)
def tI(prog:K3)(w:P4):PySem.KeyKind prog w Key where
 is:=zR
 hash:=Ea w
 inj:=λv a b m g=>by
  rcases bt m with⟨i,t,rfl,rfl⟩|⟨x,t,rfl,rfl⟩
  ·rcases bt g with⟨j,u,rfl,e⟩|⟨y,u,rfl,e⟩
   ·injection e with c _;rw[c]
   ·exact nomatch e
  ·rcases bt g with⟨j,u,rfl,e⟩|⟨y,u,rfl,e⟩
   ·exact nomatch e
   ·injection e with c _;rw[c]
 byValue:=λk v h=>by
  rcases bt h with⟨i,t,rfl,rfl⟩|⟨x,t,rfl,rfl⟩<;>rfl
 pyHash:=λf h=>by
  rcases bt f with⟨i,t,rfl,rfl⟩|⟨x,t,rfl,rfl⟩
  ·exact wpAny_pyHash_int h
  ·exact wpAny_pyHash_str h
 eqBool:=λl f h=>by
  rcases bt l with⟨i,t,rfl,rfl⟩|⟨x,t,rfl,rfl⟩
  ·rcases bt f with⟨j,u,rfl,rfl⟩|⟨y,u,rfl,rfl⟩
   ·rw[Ap]at h;exact wpAny_eqBool_int h
   ·rw[BC]at h;exact T5.int_str i t y u _ _ _ _ h
  ·rcases bt f with⟨j,u,rfl,rfl⟩|⟨y,u,rfl,rfl⟩
   ·rw[Bv]at h;exact T5.str_int x t j u _ _ _ _ h
   ·rw[Ae]at h;exact wpAny_eqBool_str h
 «strs»:=λk x t v h=>by
  rcases bt h with⟨i,u,rfl,e⟩|⟨y,u,rfl,e⟩
  ·exact nomatch e
  ·injection e with c _
   subst c;cases v<;>rfl
inductive V where
 |non|bl (b:Bool)|int (i:Int)|str (x:Str)|byt (b:Array UInt8)|flt (b:UInt64)|ref (a:E9)|ty (n:String)
 deriving DecidableEq
def aH:V->s0->Prop
 |.non,u=>u=K2
 |.bl b,u=>u=ah5 b
 |.int i,u=>∃t,u=s0.int i t
 |.str x,u=>∃t,u=am4 x t
 |.byt b,u=>∃t,u=s0.bytes b t
 |.flt b,u=>∃t,u=s0.float b t
 |.ref a,u=>u=J4 a
 |.ty n,u=>u=M7 n
abbrev az:List V->List s0->Prop:=ac0 aH
theorem az.length{xs:List V}{a:List s0}(r:az xs a):xs.length=a.length:=ac0.length r
theorem az.get:∀{xs:List V}{a:List s0}{i:Nat}{x:V},az xs a->xs[i]?=some x->∃u,a[i]?=some u/\aH x u
 |_,_,_,_,.nil,e=>by simp at e
 |_,_,0,_,.cons r _,e=>by simp at e;subst e;exact⟨_,rfl,r⟩
 |_,_,i+1,x,.cons _ t,e=>by
  obtain⟨u,b,c⟩:=az.get (i:=i) (x:=x) t (by simpa using e);exact⟨u,by simpa using b,c⟩
theorem az.set{x:V}{u:s0}(r:aH x u):∀{xs:List V}{a:List s0}(i:Nat),az xs a->az (xs.set i x) (a.set i u)
 |_,_,_,.nil=>.nil
 |_,_,0,.cons _ t=>.cons r t
 |_,_,i+1,.cons q t=>.cons q (az.set r i t)
theorem az.append:∀{xs ys:List V}{a b:List s0},az xs a->az ys b->az (xs++ys) (a++b)
 |_,_,_,_,.nil,s=>s
 |_,_,_,_,.cons r t,s=>.cons r (az.append t s)
theorem az.take:∀{xs:List V}{a:List s0}(n:Nat),az xs a->az (xs.take n) (a.take n)
 |_,_,0,_=>.nil
 |_,_,_+1,.nil=>.nil
 |_,_,n+1,.cons r t=>.cons r (az.take n t)
theorem az.drop:∀{xs:List V}{a:List s0}(n:Nat),az xs a->az (xs.drop n) (a.drop n)
 |_,_,0,r=>r
 |_,_,_+1,.nil=>.nil
 |_,_,n+1,.cons _ t=>az.drop n t
def vZ:Option V->Option s0->Prop
 |some v,some u=>aH v u
 |none,none=>True
 |_,_=>False
def KV{κ:Type}:List (κ×V)->List (κ×s0)->Prop:=ac0 λ(p:κ×V) (q:κ×s0)=>p.1=q.1/\aH p.2 q.2
def kV:Key->V
 |.inl i=>.int i
 |.inr x=>.str x
inductive HO where
 |lst (xs:List V)
 |tup (xs:List V)
 |dK (kvs:List (Key×V))|dT (kvs:List (List Key×V))
 |set (S:Int->Bool) (n:Nat)
 |ins (C dx:E9) (fs:List (Str×V))
 |own (x:E9)
 |xd (fs:List (Str×V))
 |met (f x:E9)
 |rng (lo hi:Int)
 |frz (o:Obj) (u:HO)
 |tbl (ps:Array s0)
 |ext (φ:K0->Prop)
abbrev Hp:=E9->Option HO
def upd(H:Hp)(a:E9)(o:HO):Hp:=λb=>if b=a then some o else H b
theorem aT{H:Hp}{a:E9}{o:HO}:upd H a o a=some o:=by unfold upd;rw[if_pos rfl]
theorem aE{H:Hp}{a b:E9}{o:HO}(h:b≠a):upd H a o b=H b:=by unfold upd;rw[if_neg h]
theorem xZ{H:Hp}{a:E9}{o u:HO}:upd (upd H a o) a u=upd H a u:=by
 funext b;unfold upd;split<;>rfl
theorem cj{H:Hp}{a b:E9}{o:HO}(h:H a=some o)(h':H b=none):a≠b:=by
 intro e;subst e;rw[h]at h';cases h'
def lT(h:K0)(a:E9)(xs:Array s0):Prop:=∃o,h.get? a=some o/\o.cls=.type "tuple"/\(∃n,o.data=.seq xs n)/\o.dict=none
theorem lT.tup{h:K0}{a:E9}{xs:Array s0}(x:lT h a xs):an4 h a xs:=let⟨o,e,c,d,_⟩:=x;⟨o,e,c,d⟩
theorem lT.lt{h:K0}{a:E9}{xs:Array s0}(x:lT h a xs):a<h.objs.size:=let⟨_,e,_⟩:=x;F9 e
theorem lT.new(h:K0)(xs:Array s0):lT (h.push { cls:=.type "tuple",data:=.seq xs }) h.objs.size xs:=⟨_,F6 h rfl,rfl,⟨_,rfl⟩,rfl⟩
section
variable(P:K3) (w:P4)
def cq(H:Hp)(h:K0)(a:E9):HO->Prop
 |.lst e=>e.length<=F2/\∃(b:List s0) (n:Nat),az e b/\h.get? a=some { cls:=.type "list",data:=.seq b.toArray n }
 |.tup e=>e.length<=F2/\∃b:List s0,az e b/\lT h a b.toArray
 |.dK c=>c.length<=F2/\(a==sysModules)=false/\∃l,KV c l/\h.DictOf (tI P w) a l
 | .dT c => c.length ≤ F2 ∧ (a == sysModules) = false ∧ ∃ e:List (List Key × E9 × s0),
   ac0 (λ(p:List Key×V) (q:List Key×E9×s0)=>p.1=q.1/\H q.2.1=some (.tup (p.1.map kV))/\aH p.2 q.2.2) c e /\
   ∃o z B,h.get? a=some o/\o.ExactDict/\o.data=.dict z B/\z.toList=e.map (entryOfKey (tupleKind (tI P w)))/\(e.map (·.1)).Nodup
 |.set S n=>h.SetOf (intKind P w) a S n
 | .ins C i fs => H i = some (.own a) ∧ fs.length ≤ 1000 ∧ i ≠ a ∧ h.get? a = some (PySem.W.instObj C i) ∧
   ∃g,h.Ns1 i g/\(∀f,vZ (fs.lookup f) (g f))/\PySem.Within g (fs.map (·.1))
 |.own _=>∃o,h.get? a=some o
 |.xd fs=>∃g,h.Ns1 a g/\∀f,vZ (fs.lookup f) (g f)
 |.rng lo E=>∃t u v,h.get? a=some { cls:=.type "range",data:=.fields #[.int lo t,.int E u,.int 1 v] }
 |.frz o u=>h.get? a=some o/\cq H h a u
 |.tbl A=>h.get? a=some { cls:=.none,data:=.fields A }
 |.met f x=>h.get? a=some (PySem.W.methodObj (.ref f) (.ref x))
 |.ext j=>j h/\(∃o,h.get? a=some o)/\∀m s:K0,j m->(∀o,m.get? a=some o->s.get? a=some o)->j s
def HOk(H:Hp)(h:K0):Prop:=∀a o,H a=some o->cq P w H h a o
end
section
variable{P:K3}{w:P4}{H I:Hp}{h h':K0}{a:E9}{o:HO}
theorem cq.lt(x:cq P w H h a o):a<h.objs.size:=by
 cases o with
 |lst c=>obtain⟨_,_,_,_,e⟩:=x;exact F9 e
 |tup c=>obtain⟨_,_,_,p⟩:=x;exact p.lt
 |dK b=>obtain⟨_,_,_,_,o,_,_,e,_⟩:=x;exact F9 e
 |dT b=>obtain⟨_,_,_,_,o,_,_,e,_⟩:=x;exact F9 e
 |set S n=>obtain⟨o,_,_,_,e,_⟩:=x;exact F9 e
 |ins C g fs=>obtain⟨_,_,_,e,_⟩:=x;exact F9 e
 |own y=>obtain⟨_,e⟩:=x;exact F9 e
 |xd fs=>obtain⟨_,⟨_,_,_,e,_⟩,_⟩:=x;exact F9 e
 |rng lo m=>obtain⟨_,_,_,e⟩:=x;exact F9 e
 |frz l u=>obtain⟨e,_⟩:=x;exact F9 e
 |tbl j=>exact F9 (show h.get? a=some _ from x)
 |met f y=>exact F9 (show h.get? a=some _ from x)
 |ext i=>obtain⟨_,⟨_,e⟩,_⟩:=x;exact F9 e
theorem ac0.mapP{h g:Type}{F G:h->g->Prop}:∀{e:List h}{c:List g},ac0 F e c->(∀a b,F a b->G a b)->ac0 G e c
 |_,_,.nil,_=>.nil
 |_,_,.cons r t,f=>.cons (f _ _ r) (ac0.mapP t f)
theorem ac0.imp'{h g:Type}{F G:h->g->Prop}(f:∀a b,F a b->G a b){c:List h}{e:List g}(r:ac0 F c e):ac0 G c e:=ac0.mapP r f
theorem cq.stay(x:cq P w H h a o)(k:∀b u,(b=a∨H b=some (.own a))->h.get? b=some u->h'.get? b=some u)
  (L:∀b,H b=some (.own a)->I b=some (.own a)) (J:∀b xs,H b=some (.tup xs)->I b=some (.tup xs)):cq P w I h' a o:=by
 induction o with
 |lst xs=>obtain⟨z,l,n,r,e⟩:=x;exact⟨z,l,n,r,k _ _ (.inl rfl) e⟩
 |tup xs=>obtain⟨z,l,r,g,e,c⟩:=x;exact⟨z,l,r,g,k _ _ (.inl rfl) e,c⟩
 |dK m=>obtain⟨z,y,M,r,g,i,j,e,c⟩:=x;exact⟨z,y,M,r,g,i,j,k _ _ (.inl rfl) e,c⟩
 |dT m =>
  obtain⟨z,y,xs,r,g,i,j,e,c⟩:=x;exact⟨z,y,xs,ac0.mapP r λp q z=>⟨z.1,J _ _ z.2.1,z.2.2⟩,g,i,j,k _ _ (.inl rfl) e,c⟩
 |set S n=>obtain⟨g,i,j,t,e,c⟩:=x;exact⟨g,i,j,t,k _ _ (.inl rfl) e,c⟩
 |ins C N fs =>
  obtain⟨d,z,E,e,A,⟨s,i,j,G,c⟩,r⟩:=x;exact⟨L _ d,z,E,k _ _ (.inl rfl) e,A,⟨s,i,j,k _ _ (.inr d) G,c⟩,r⟩
 |own y=>obtain⟨g,e⟩:=x;exact⟨g,k _ _ (.inl rfl) e⟩
 |xd fs=>obtain⟨A,⟨s,i,j,e,c⟩,r⟩:=x;exact⟨A,⟨s,i,j,k _ _ (.inl rfl) e,c⟩,r⟩
 |rng lo Q=>obtain⟨t,u,v,e⟩:=x;exact⟨t,u,v,k _ _ (.inl rfl) e⟩
 |frz g u ih=>obtain⟨e,q⟩:=x;exact⟨k _ _ (.inl rfl) e,ih q⟩
 |tbl B =>
  have e:h.get? a=some { cls:=.none,data:=.fields B }:=x;show h'.get? a=some { cls:=.none,data:=.fields B };exact k a _ (.inl rfl) e
 |met f y =>
  have e:h.get? a=some (PySem.W.methodObj (.ref f) (.ref y)):=x;show h'.get? a=some (PySem.W.methodObj (.ref f) (.ref y));exact k a _ (.inl rfl) e
 |ext O=>obtain⟨p,⟨o,e⟩,st⟩:=x;exact⟨st _ _ p λo q=>k _ _ (.inl rfl) q,⟨o,k _ _ (.inl rfl) e⟩,st⟩
theorem HOk.lt(x:HOk P w H h)(e:H a=some o):a<h.objs.size:=(x a o e).lt
theorem HOk.fresh(x:HOk P w H h)(e:h.objs.size<=a):H a=none:=by
 cases q:H a with
 |none=>rfl
 |some u=>exact absurd (J0 (x.lt q) e) (Z7 _)
theorem HOk.kept(x:HOk P w H h)(k:∀b u,h.get? b=some u->h'.get? b=some u):HOk P w H h':=λa o e =>
 (x a o e).stay (λb u _ q=>k b u q) (λ_ q=>q) λ_ _ q=>q
theorem HOk.laid(x:HOk P w H h)(k:∀b u,h.get? b=some u->h'.get? b=some u)(i:h.objs.size<=a)(new:cq P w (upd H a o) h' a o):HOk P w (upd H a o) h':=λb u e=>by
 have f:=x.fresh i
 by_cases g:b=a
 ·subst g;rw[aT]at e;cases e;exact new
 ·rw[aE g]at e;exact(x b u e).stay (λc v _ q=>k c v q) (λc q=>by rw[aE (cj q f)];exact q) λc j q=>by rw[aE (cj q f)];exact q
end
def Rd(H:Hp)(a:E9)(u:HO):Prop:=H a=some u∨∃o,H a=some (.frz o u)
theorem Rd.of{H:Hp}{a:E9}{u:HO}(h:H a=some u):Rd H a u:=.inl h
theorem Rd.ok{P:K3}{w:P4}{H:Hp}{h:K0}{a:E9}{u:HO}(r:Rd H a u)(x:HOk P w H h):cq P w H h a u:=by
 rcases r with r|⟨o,r⟩
 ·exact x a u r
 ·obtain⟨_,q⟩:=x a _ r;exact q
def Mut:Option HO->Prop
 |some (.lst _)=>True
 |some (.dK _)=>True
 |some (.dT _)=>True
 |some (.set _ _)=>True
 |some (.ins _ _ _)=>True
 |some (.ext _)=>True
 |_=>False
section
variable{P:K3}{w:P4}{H:Hp}{h h':K0}{x e:E9}{G:HO}
theorem HOk.write(ok:HOk P w H h)(l:Mut (H x))(he:e=x∨H e=some (.own x))(k:∀b u,b≠e->h.get? b=some u->h'.get? b=some u)(n:∃u,h'.get? e=some u)
  (new:cq P w (upd H x G) h' x G):HOk P w (upd H x G) h':=λb u q=>by
 have f:∀c y,H c=some (.own y)->c≠x:=λc y r z=>by subst z;rw[r]at l;exact l
 have g:∀c i,H c=some (.tup i)->c≠x:=λc i r z=>by subst z;rw[r]at l;exact l
 by_cases j:b=x
 ·subst j;rw[aT]at q;cases q;exact new
 ·rw[aE j]at q
  by_cases a:b=e
  ·have o:H b=some (.own x):=by
    rcases he with z|z
    ·exact absurd (a.trans z) j
    ·rw[a];exact z
   rw[q]at o;cases o;obtain⟨v,p⟩:=n;exact⟨v,by rw[a];exact p⟩
  ·refine(ok b u q).stay (λc v m r=>k c v ?_ r) (λc r=>by rw[aE (f c b r)];exact r) λc i r=>by rw[aE (g c i r)];exact r
   rcases m with rfl|m
   ·exact a
   ·rintro rfl;rcases he with z|z
    ·exact f c b m z
    ·rw[m]at z;cases z;exact j rfl
end
structure Un(fs ex:List E9) (H H':Hp) (h h':K0):Prop where
 keep:∀b o,h.get? b=some o->H b=none->b∉fs->b∉ex->h'.get? b=some o
 slot:∀b o,h.get? b=some o->H b=none->b∈fs->b∉ex->∃sl,h'.get? b=some { o with slots:=sl }
 free:∀b o,h.get? b=some o->H b=none->b∉ex->H' b=none
 there:∀b o,h.get? b=some o->b∉ex->∃o',h'.get? b=some o'
 tups:∀b xs,H b=some (.tup xs)->H' b=some (.tup xs)
 frzs:∀b o u,H b=some (.frz o u)->H' b=some (.frz o u)
 tbls:∀b ps,H b=some (.tbl ps)->∃more,H' b=some (.tbl (ps++more))
section
variable{fs J G O:List E9}{H Y H2:Hp}{h I h2 h':K0}{a x e:E9}{o:HO}
theorem Un.any(u:Un fs G H Y h I){b:E9}{a:Obj}(q:h.get? b=some a)(n:H b=none)(e:b∉G):∃f,I.get? b=some { a with slots:=f }:=by
 by_cases c:b∈fs
 ·exact u.slot b a q n c e
 ·exact⟨a.slots,u.keep b a q n c e⟩
theorem Un.kept(k:∀b u,h.get? b=some u->h'.get? b=some u):Un fs G H H h h' :=
 ⟨λb a q _ _ _=>k b a q,λb a q _ _ _=>⟨a.slots,k b a q⟩,λ_ _ _ n _=>n,λb a q _=>⟨a,k b a q⟩,λ_ _ q=>q,λ_ _ _ q=>q,λ_ c q=>⟨#[],by rw[q];simp⟩⟩
theorem Un.refl:Un fs G H H h h:=Un.kept λ_ _ q=>q
theorem Un.laid(k:∀b u,h.get? b=some u->h'.get? b=some u)(e:h.objs.size<=a)(hn:H a=none):Un fs G H (upd H a o) h h' where
 keep:=λb u q _ _ _=>k b u q
 slot:=λb u q _ _ _=>⟨u.slots,k b u q⟩
 free:=λb u q n _=>by rw[aE (K5 (J0 (F9 q) e))];exact n
 there:=λb u q _=>⟨u,k b u q⟩
 tups:=λb c q=>by rw[aE (cj q hn)];exact q
 frzs:=λb u c q=>by rw[aE (cj q hn)];exact q
 tbls:=λb f q=>⟨#[],by rw[aE (cj q hn),q];simp⟩
theorem Un.write(c:Mut (H x))(he:e=x∨H e=some (.own x))(k:∀b u,b≠e->h.get? b=some u->h'.get? b=some u)(f:∃u,h'.get? e=some u):Un fs G H (upd H x o) h h':=by
 have j:∀b,H b=none->b≠x:=λb n z=>by subst z;rw[n]at c;exact c
 have i:∀b,H b=none->b≠e:=λb n z=>by
  subst z;rcases he with r|r
  ·exact j b n r
  ·rw[n]at r;cases r
 have g:∀b u,H b=some u->¬ Mut (some u)->b≠x:=λb u q l z=>by subst z;rw[q]at c;exact l c
 refine⟨λb u q n _ _=>k b u (i b n) q,λb u q n _ _=>⟨u.slots,k b u (i b n) q⟩,λb u q n _=>by rw[aE (j b n)];exact n,λb u q _=>?_,
  λb m q=>by rw[aE (g b _ q λz=>z)];exact q,λb u m q=>by rw[aE (g b _ q λz=>z)];exact q,λb p q=>⟨#[],by rw[aE (g b _ q λz=>z),q];simp⟩⟩
 by_cases a:b=e
 ·subst a;exact f
 ·exact⟨u,k b u a q⟩
end
def trk(h:K0)(H:Hp):List E9:=(T6 h.objs.size).filter λa=>(H a).isSome
def oV(h:K0)(H:Hp):K0:=PySem.W.hideAll h (trk h H)
theorem vk(h:K0)(H:Hp):(oV h H).objs.size=h.objs.size:=PySem.W.hideAll_size _ _
theorem wb{h:K0}{H:Hp}{b:E9}{o:Obj}(e:h.get? b=some o)(n:H b=none):(oV h H).get? b=some o :=
 ac1 _ e λa=>by
  have q:(H b).isSome=true:=(List.mem_filter.mp a).2;rw[n]at q;simp at q
theorem yx{h:K0}{H:Hp}{b:E9}{o:Obj}(e:(oV h H).get? b=some o):h.get? b=some o/\H b=none:=by
 have a:h.get? b=some o:=PySem.W.of_hideAll (trk h H) e;refine⟨a,?_⟩;cases q:H b with
 |none=>rfl
 |some x =>
  have c:b∈trk h H:=List.mem_filter.mpr ⟨R8.mpr (F9 a),by simp[q]⟩;have z:(oV h H).get? b=none:=ae4 (trk h H) c;rw[z]at e;cases e
def yy(g h:K0)(L:E9):List (E9×Obj):=(T6 h.objs.size).filterMap λa=>if a=L∨(g.get? a).isSome=true then none else(h.get? a).map λo=>(a,o)
def rest(g h:K0)(L d:E9):List (E9×Obj):=(yy g h L).filter λp=>decide (p.1≠d)
structure Mod(K:u8) (mg:Str->Option s0) (base:K0):Prop where
 kin:K.In base
 glob:base.Ns K1 mg
 blt:∃mb,base.Ns builtinsNs mb/\∀x:Str,x≠"__name__"->mb x=Z8 x
 nolimit:base.NoLimit
structure Cx where
 prog:K3
 w:P4
 K:u8
 mg:Str->Option s0
 base:K0
 A:L6
 N:List Str
 s₀:E3
 H₀:Hp
 env:Env
 outer:List Env
 stack:List Env
 ex:List E9
 fn:Str->Bool
 calm:Bool
 pn:List (E9×Obj)
 xe:s0->E3->Prop
def frs(l:List Env):List E9:=l.filterMap (·.frame)
abbrev Cx.fs(X:Cx):List E9:=frs X.outer
def Vis(a:ae7)(x:Str):Prop:=a.names.lookup x=some .local∨a.names.lookup x=some .cell∨a.names.lookup x=some .free
def Loc(a:ae7)(x:Str):Prop:=a.names.lookup x=some .local∨a.names.lookup x=some .cell
def Ee(env:Env)(h:K0)(m:Str->Option s0)(x:Str)(u:s0):Prop :=
 (env.kindOf x=some .local/\m x=some u)∨((env.kindOf x=some .cell∨env.kindOf x=some .free)/\∃c,env.cells.lookup x=some c/\h.IsCell c (some u))
structure Cx.Ok(X:Cx):Prop where
 mod:Mod X.K X.mg X.base
 kind:X.env.scope.kind=.function
 glob:X.env.globals=K1
 blt:X.env.builtins=builtinsNs
 above:X.s₀.heap.objs.size<=X.env.locals
 inj:∀x y c,X.env.cells.lookup x=some c->X.env.cells.lookup y=some c->x=y
 has:∀x,(X.env.kindOf x=some .cell∨X.env.kindOf x=some .free)->∃c,X.env.cells.lookup x=some c
 cab:∀x c,X.fn x=true->X.env.cells.lookup x=some c->X.s₀.heap.objs.size<=c
 hd:X.calm=true->X.A.handled=none
 frames:X.A.frames=some X.stack
 stk:X.stack=X.outer∨(X.stack=X.env::X.outer/\X.env.frame=some X.env.locals)
 exf:∀b∈X.ex,b≠X.env.locals/\∀x c,X.env.cells.lookup x=some c->c≠b
 bs:∀b o,X.base.get? b=some o->X.s₀.heap.get? b=some o/\X.H₀ b=none
 bsz:X.base.objs.size<=X.s₀.heap.objs.size
 noex:∀b o,X.base.get? b=some o->b∉X.ex
 exfs:∀b∈X.ex,b∉X.fs
 funs:X.s₀.heap.FunFrames X.base X.outer
 frf:∀b∈X.fs,X.H₀ b=none
structure Inv(X:Cx) (ae:List (E9×Obj)) (σ:List (Option V)) (H:Hp) (s:E3):Prop where
 ok:X.Ok
 os:s.os=X.s₀.os
 bare:aj1 s.gens
 base:Un X.fs X.ex X.H₀ H X.s₀.heap s.heap
 loc:∃m,s.heap.Ns X.env.locals m/\∀(i:Nat) (x:Str) (v:V),X.N[i]?=some x->σ[i]?=some (some v)->Vis X.env.scope x->∃u,aH v u/\Ee X.env s.heap m x u
 cell:∀x c,X.env.cells.lookup x=some c->∃v,s.heap.IsCell c v
 free:H X.env.locals=none
 freeC:∀x c,X.env.cells.lookup x=some c->H c=none
 pin:∀p∈X.pn++ae,s.heap.get? p.1=some p.2/\H p.1=none/\p.1≠X.env.locals/\p.1∉X.fs/\∀v,p.2.data≠.cell v
 hok:HOk X.prog X.w H s.heap
 len:σ.length=X.N.length
section
variable{X:Cx}{G:List (E9×Obj)}{σ:List (Option V)}{H J:Hp}{s:E3}{h':K0}
theorem Cx.Ok.nofr(ok:X.Ok){b:E9}{o:Obj}(e:X.base.get? b=some o):b∉X.fs:=λa=>by
 have:=(ok.funs.mem a).1;rw[e]at this;cases this
theorem Inv.bs(I:Inv X G σ H s):∀b o,X.base.get? b=some o->s.heap.get? b=some o/\H b=none:=λb o e =>
 ⟨I.base.keep b o (I.ok.bs b o e).1 (I.ok.bs b o e).2 (I.ok.nofr e) (I.ok.noex b o e),I.base.free b o (I.ok.bs b o e).1 (I.ok.bs b o e).2 (I.ok.noex b o e)⟩
theorem Inv.bk(I:Inv X G σ H s):∀b o,X.base.get? b=some o->s.heap.get? b=some o:=λb o e=>(I.bs b o e).1
theorem Inv.mod(I:Inv X G σ H s):Mod X.K X.mg X.base:=I.ok.mod
theorem Inv.kIn(I:Inv X G σ H s):X.K.In s.heap:=I.ok.mod.kin.keeps I.bk
theorem Inv.lt(I:Inv X G σ H s):X.env.locals<s.heap.objs.size:=let⟨_,a,_⟩:=I.loc;a.lt
theorem Inv.sz(I:Inv X G σ H s):X.s₀.heap.objs.size<=s.heap.objs.size:=L5 I.ok.above (al4 I.lt)
theorem Inv.nofs(I:Inv X G σ H s){a:E9}(h:s.heap.objs.size<=a):a∉X.fs:=λc=>by
 obtain⟨_,o,b,_⟩:=I.ok.funs.mem c;exact absurd (J0 (F9 b) (L5 I.sz h)) (Z7 _)
theorem Inv.cne(I:Inv X G σ H s):∀x c,X.env.cells.lookup x=some c->c≠X.env.locals:=λx c e z=>by
 obtain⟨v,o,g,f⟩:=I.cell x c e;obtain⟨m,⟨h,j,i,a,b,_⟩,_⟩:=I.loc;rw[z,a]at g;cases g;rw[b]at f;cases f
theorem Inv.funs(I:Inv X G σ H s):s.heap.FunFrames X.base X.outer:=by
 have all:∀(l:List Env),(∀b∈frs l,b∈X.fs)->X.s₀.heap.FunFrames X.base l->s.heap.FunFrames X.base l:=by
  intro l
  induction l with
  |nil=>intro _ _;trivial
  |cons h r ih =>
   intro g m;obtain⟨n,⟨L,o,f,p,q,j⟩,i⟩:=m;have a:L∈X.fs:=g L (by unfold frs;rw[N8,f];exact R0);obtain⟨t,e⟩:=I.base.slot L o q (I.ok.frf L a) a λz=>I.ok.exfs L z a;exact⟨n,⟨L,_,f,p,e,j⟩,ih (λb c=>g b (by unfold frs;rw[N8,f];exact I0 _ c)) i⟩
 exact all X.outer (λ_ c=>c) I.ok.funs
theorem Inv.stack(I:Inv X G σ H s):s.heap.FunFrames X.base X.stack:=by
 rcases I.ok.stk with e|⟨e,a⟩
 ·rw[e];exact I.funs
 ·rw[e];obtain⟨m,b,_⟩:=I.loc;refine .cons (by rw[I.ok.kind];decide) a b ?_ I.funs;exact S2 (L5 I.ok.bsz I.ok.above)
theorem Inv.stkSub(I:Inv X G σ H s):∀b∈frs X.stack,b∈X.env.locals::X.fs:=λb a=>by
 rcases I.ok.stk with e|⟨e,c⟩
 ·rw[e]at a;exact I0 _ a
 ·rw[e]at a;unfold frs at a;rw[N8,c]at a;exact a
theorem Inv.stkFree(I:Inv X G σ H s):∀b∈frs X.stack,H b=none:=λb a=>by
 rcases F8.mp (I.stkSub b a)with e|a
 ·rw[e];exact I.free
 ·obtain⟨_,o,c,_⟩:=I.ok.funs.mem a;exact I.base.free b o c (I.ok.frf b a) λz=>I.ok.exfs b z a
theorem Inv.step{g':Array aj5}{t':Nat}{d':Drawn}{ch:List E9}(I:Inv X G σ H s)
  (f:∀b∈ch,(b∈X.ex∨X.s₀.heap.objs.size<=b)/\b≠X.env.locals/\(∀x c,X.env.cells.lookup x=some c->c≠b)/\∀p∈X.pn++G,p.1≠b)
  (keep:∀b o,b≠X.env.locals->b∉X.fs->b∉ch->s.heap.get? b=some o->H b=none->h'.get? b=some o)
  (slot:∀b o,b≠X.env.locals->b∈X.fs->b∉ch->s.heap.get? b=some o->H b=none->∃P,h'.get? b=some { o with slots:=P }) (free:∀b o,b∉ch->s.heap.get? b=some o->H b=none->J b=none)
  (A:∀b o,b∉ch->s.heap.get? b=some o->∃C,h'.get? b=some C)
  (E:∀b xs,H b=some (.tup xs)->J b=some (.tup xs)) (M:∀b o u,H b=some (.frz o u)->J b=some (.frz o u)) (N:∀b ps,H b=some (.tbl ps)->∃more,J b=some (.tbl (ps++more)))
  (ns:∀m,s.heap.Ns X.env.locals m->h'.Ns X.env.locals m) (R:HOk X.prog X.w J h') (hg:aj1 g') :
  Inv X G σ J { s with heap:=h',gens:=g',drawn:=d',toks:=t' }:=by
 have O:∀b o,X.s₀.heap.get? b=some o->b≠X.env.locals:=λb o e=>K5 (J0 (F9 e) I.ok.above);have j:∀b o,X.s₀.heap.get? b=some o->b∉X.ex->b∉ch:=λb o e a w=>by
  rcases(f b w).1 with z|z
  ·exact a z
  ·exact absurd (J0 (F9 e) z) (Z7 _)
 have g:∀x c,X.env.cells.lookup x=some c->∀v,s.heap.IsCell c v->h'.IsCell c v:=λx c e v ⟨o,B,S⟩=>by
  have h:c∉ch:=λz=>(f c z).2.2.1 x c e rfl
  by_cases Z:c∈X.fs
  ·obtain⟨P,q⟩:=slot c o (I.cne x c e) Z h B (I.freeC x c e);exact⟨_,q,S⟩
  ·exact⟨o,keep c o (I.cne x c e) Z h B (I.freeC x c e),S⟩
 refine⟨I.ok,I.os,hg,⟨λb o e n w a=>?_,λb o e n w a=>?_,λb o e n a=>?_,λb o e a=>?_,λb xs e=>E b xs (I.base.tups b xs e),λb o xs e=>M b o xs (I.base.frzs b o xs e),λb ps e=>?_⟩,?_,λx c e=>?_,?_,λx c e=>?_,λp U=>?_,R,I.len⟩
 ·exact keep b o (O b o e) w (j b o e a) (I.base.keep b o e n w a) (I.base.free b o e n a)
 ·obtain⟨P,t⟩:=I.base.slot b o e n w a;obtain⟨Q,L⟩:=slot b _ (O b o e) w (j b o e a) t (I.base.free b o e n a);exact⟨Q,L⟩
 ·obtain⟨C,t⟩:=I.base.there b o e a;exact free b C (j b o e a) t (I.base.free b o e n a)
 ·obtain⟨C,t⟩:=I.base.there b o e a;exact A b C (j b o e a) t
 ·obtain⟨m1,t⟩:=I.base.tbls b ps e;obtain⟨m2,L⟩:=N b _ t;exact⟨m1++m2,by rw[L,Array.append_assoc]⟩
 ·obtain⟨m,hn,hl⟩:=I.loc;refine⟨m,ns m hn,λi x v t L e3=>?_⟩;obtain⟨u,r,l⟩:=hl i x v t L e3;refine⟨u,r,?_⟩;rcases l with l|⟨k,c,e,z⟩
  ·exact .inl l
  ·exact .inr ⟨k,c,e,g x c e _ z⟩
 ·obtain⟨v,z⟩:=I.cell x c e;exact⟨v,g x c e v z⟩
 ·obtain⟨m,⟨o,_,_,B,_⟩,_⟩:=I.loc;exact free _ o (λz=>(f _ z).2.1 rfl) B I.free
 ·obtain⟨v,o,B,S⟩:=I.cell x c e;exact free c o (λz=>(f c z).2.2.1 x c e rfl) B (I.freeC x c e)
 ·obtain⟨e,n,T,Y,d⟩:=I.pin p U;have h:p.1∉ch:=λz=>(f p.1 z).2.2.2 p U rfl;exact⟨keep p.1 p.2 T Y h e n,free p.1 p.2 h e n,T,Y,d⟩
theorem Inv.un{t':Nat}(I:Inv X G σ H s)(u:Un X.fs [] H J s.heap h')(c:HOk X.prog X.w J h'):Inv X G σ J { s with heap:=h',toks:=t' }:=by
 obtain⟨m,⟨o,t,w,i,r⟩,_⟩:=id I.loc;obtain⟨A,j⟩:=u.any i I.free (by simp);exact I.step (g':=s.gens) (d':=s.drawn) (ch:=[]) (λ_ z=>nomatch z) (λb o _ h _ e n=>u.keep b o e n h (by simp)) (λb o _ h _ e n=>u.slot b o e n h (by simp)) (λb o _ e n=>u.free b o e n (by simp)) (λb o _ e=>u.there b o e (by simp)) u.tups u.frzs u.tbls (λx p=>by
  obtain⟨q,f,g,a,l⟩:=p;rw[i]at a;cases a;exact⟨_,f,g,j,l⟩) c I.bare
theorem Inv.call{g':Array aj5}{t':Nat}{d':Drawn}{ch:List E9}(I:Inv X G σ H s)(u:Un (frs X.stack) ch H J s.heap h')(i:HOk X.prog X.w J h')(hg:aj1 g')
  (f:∀b∈ch,(b∈X.ex∨X.s₀.heap.objs.size<=b)/\b≠X.env.locals/\(∀x c,X.env.cells.lookup x=some c->c≠b)/\∀p∈X.pn++G,p.1≠b) :
  Inv X G σ J { s with heap:=h',gens:=g',drawn:=d',toks:=t' }:=by
 obtain⟨m,⟨o,C,E,q,r⟩,_⟩:=id I.loc;obtain⟨M,h⟩:=u.any q I.free λz=>(f _ z).2.1 rfl;exact I.step (ch:=ch) f (λb o h w a e n=>u.keep b o e n (λz=>(F8.mp (I.stkSub b z)).elim h w) a) (λb o _ _ a e n=>u.any e n a) (λb o a e n=>u.free b o e n a) (λb o a e=>u.there b o e a) u.tups u.frzs u.tbls (λL A=>by
  obtain⟨B,j,l,g,t⟩:=A;rw[q]at g;cases g;exact⟨_,j,l,h,t⟩) i hg
theorem Inv.turned{t':Nat}{it:E9}(I:Inv X G σ H s)(k:∀b o,b≠it->s.heap.get? b=some o->h'.get? b=some o)(hn:H it=none)(g:it≠X.env.locals)
  (i:it∈X.ex∨X.s₀.heap.objs.size<=it) (j:∀x c,X.env.cells.lookup x=some c->c≠it) (h:∀p∈X.pn++G,p.1≠it):Inv X G σ H { s with heap:=h',toks:=t' }:=by
 have f:∀b u,H b=some u->b≠it:=λb u e z=>by rw[z,hn]at e;cases e
 refine I.step (g':=s.gens) (d':=s.drawn) (ch:=[it]) (λb l=>?_) (λb o _ _ a e _=>k b o (λz=>a (by simp[z])) e) (λb o _ _ a e _=>⟨o.slots,k b o (λz=>a (by simp[z])) e⟩) (λ_ _ _ _ n=>n)
  (λb o a e=>⟨o,k b o (λz=>a (by simp[z])) e⟩) (λ_ _ e=>e) (λ_ _ _ e=>e) (λb C e=>⟨#[],by rw[e];simp⟩) (λm A=>?_) (λb u e=>?_) I.bare
 ·have e:b=it:=by simpa using l
  subst e;exact⟨i,g,j,h⟩
 ·obtain⟨o,t,w,B,r⟩:=A;exact⟨o,t,w,k _ o (T9 g) B,r⟩
 ·refine(I.hok b u e).stay (λc v a q=>k c v ?_ q) (λ_ q=>q) λ_ _ q=>q;rcases a with z|z
  ·rw[z];exact f b u e
  ·exact f c _ z
theorem Inv.tok(I:Inv X G σ H s)(t:Nat):Inv X G σ H { s with toks:=t }:=I.un (h':=s.heap) (t':=t) Un.refl I.hok
theorem Inv.kept{t':Nat}(I:Inv X G σ H s)(k:∀b u,s.heap.get? b=some u->h'.get? b=some u):Inv X G σ H { s with heap:=h',toks:=t' }:=I.un (Un.kept k) (I.hok.kept k)
theorem Inv.laid{a:E9}{o:HO}{t':Nat}(I:Inv X G σ H s)(k:∀b u,s.heap.get? b=some u->h'.get? b=some u)(c:s.heap.objs.size<=a)(new:cq X.prog X.w (upd H a o) h' a o):
  Inv X G σ (upd H a o) { s with heap:=h',toks:=t' }:=I.un (Un.laid k c (I.hok.fresh c)) (I.hok.laid k c new)
theorem Inv.write{x e:E9}{o:HO}{t':Nat}(I:Inv X G σ H s)(c:Mut (H x))(he:e=x∨H e=some (.own x))(k:∀b u,b≠e->s.heap.get? b=some u->h'.get? b=some u)(a:∃u,h'.get? e=some u)
  (new:cq X.prog X.w (upd H x o) h' x o):Inv X G σ (upd H x o) { s with heap:=h',toks:=t' }:=I.un (Un.write c he k a) (I.hok.write c he k a new)
theorem Inv.pins_of{a:List (E9×Obj)}(I:Inv X G σ H s)(h:∀p∈a,s.heap.get? p.1=some p.2/\H p.1=none/\p.1≠X.env.locals/\p.1∉X.fs/\∀v,p.2.data≠.cell v):Inv X a σ H s :=
 ⟨I.ok,I.os,I.bare,I.base,I.loc,I.cell,I.free,I.freeC,λp b=>(P7.mp b).elim (λz=>I.pin p (ab0 _ z)) (h p),I.hok,I.len⟩
theorem mm{N:List Str}(f:N.Nodup){i j:Nat}{x:Str}(a:N[i]?=some x)(b:N[j]?=some x):i=j:=by
 obtain⟨g,c⟩:=J8.mp a;obtain⟨h,e⟩:=J8.mp b;exact(List.getElem_inj f).mp (c.trans e.symm)
theorem m9{M:ap6}{A:L6}{E:s0->E3->Prop}{i:Nat}{x:Str}{v:V}{u:s0}{Q:Unit->E3->Prop}(I:Inv X G σ H s)(hN:X.N.Nodup)(Y:X.N[i]?=some x)(w:Loc X.env.scope x)(r:aH v u)
  (h:∀s',Inv X G (σ.set i (some v)) H s'->(∃a,O6 a s.heap s'.heap/\(a=X.env.locals∨X.env.cells.lookup x=some a))->Q () s') (hf:X.fn x=true∨X.env.scope.names.lookup x=some .local:=by first|exact .inl rfl|exact .inr rfl|assumption):H0 M A (storeName X.env x u) Q E s:=by
 obtain⟨m,hn,hl⟩:=id I.loc;have Z:(X.env.scope.kind==.class || (X.env.scope.kind==.module&&X.env.locals != X.env.globals))=false:=by rw[I.ok.kind];rfl
 have L:i<σ.length:=by rw[I.len];exact(J8.mp Y).1
 have cne:=I.cne;have l:∀{a:E9} {h':K0},(∃o,s.heap.get? a=some o/\H a=none)->O6 a s.heap h'->HOk X.prog X.w H h':=λ{a h'} ha f b ob e=>by
  obtain⟨_,_,B⟩:=ha;refine(I.hok b ob e).stay (λc w' t q=>(f.2 c ?_).trans q) (λ_ q=>q) λ_ _ q=>q;rintro rfl;rcases t with rfl|t
  ·rw[B]at e;cases e
  ·rw[B]at t;cases t
 rcases w with J|J
 ·refine wpAny_storeName_local J hn (λh' a0 f=>?_) Z;obtain⟨oL,_,_,a1,_⟩:=id hn;refine h _ ⟨I.ok,I.os,I.bare,⟨λb o e n O w=>?_,λb o e n O w=>?_,I.base.free,λb o e w=>?_,I.base.tups,I.base.frzs,I.base.tbls⟩,⟨_,a0,λj y v' g C e3=>?_⟩,λy c e=>?_,I.free,I.freeC,λp hp=>?_,l ⟨oL,a1,I.free⟩ f,by simpa using I.len⟩ ⟨_,f,.inl rfl⟩
  ·exact(f.2 b (K5 (J0 (F9 e) I.ok.above))).trans (I.base.keep b o e n O w)
  ·obtain⟨sl,g⟩:=I.base.slot b o e n O w;exact⟨sl,(f.2 b (K5 (J0 (F9 e) I.ok.above))).trans g⟩
  ·obtain⟨o',g⟩:=I.base.there b o e w;exact⟨o',(f.2 b (K5 (J0 (F9 e) I.ok.above))).trans g⟩
  ·by_cases N:j=i
   ·subst N;rw[Y]at g;cases g;rw[S4 L]at C;cases C;exact⟨u,r,.inl ⟨J,by simp⟩⟩
   ·rw[V7 (T9 N)]at C;obtain⟨u',r',q⟩:=hl j y v' g C e3;refine⟨u',r',?_⟩;rcases q with⟨k,e⟩|⟨k,c,e,z⟩
    ·refine .inl ⟨k,?_⟩;have:y≠x:=λe=>N (mm hN g (e▸Y));simp[this,e]
    ·exact .inr ⟨k,c,e,z.sameBut f (cne y c e)⟩
  ·obtain⟨w',z⟩:=I.cell y c e;exact⟨w',z.sameBut f (cne y c e)⟩
  ·obtain⟨e,n,ne,nf,d⟩:=I.pin p hp;exact⟨(f.2 p.1 ne).trans e,n,ne,nf,d⟩
 ·have P:X.fn x=true:=by
   rcases hf with z|z
   ·exact z
   ·rw[z]at J;cases J
  obtain⟨c,t⟩:=I.ok.has x (.inl J);obtain⟨w',z⟩:=I.cell x c t;refine wpAny_storeName_cell I.ok.kind J t z (λh' R f=>?_);obtain⟨oc,S,U⟩:=id z;refine h { s with heap:=h' } ⟨I.ok,I.os,I.bare,⟨λb o e n O w=>?_,λb o e n O w=>?_,I.base.free,λb o e w=>?_,I.base.tups,I.base.frzs,I.base.tbls⟩,⟨m,hn.sameBut f (T9 (cne x c t)),λj y v' g C e3=>?_⟩,λy c' e=>?_,I.free,I.freeC,λp hp=>?_,l ⟨oc,S,I.freeC x c t⟩ f,by simpa using I.len⟩ ⟨c,f,.inr t⟩
  ·exact(f.2 b (K5 (J0 (F9 e) (I.ok.cab x c P t)))).trans (I.base.keep b o e n O w)
  ·obtain⟨sl,g⟩:=I.base.slot b o e n O w;exact⟨sl,(f.2 b (K5 (J0 (F9 e) (I.ok.cab x c P t)))).trans g⟩
  ·obtain⟨o',g⟩:=I.base.there b o e w;exact⟨o',(f.2 b (K5 (J0 (F9 e) (I.ok.cab x c P t)))).trans g⟩
  ·by_cases N:j=i
   ·subst N;rw[Y]at g;cases g;rw[S4 L]at C;cases C;exact⟨u,r,.inr ⟨.inl J,c,t,R⟩⟩
   ·rw[V7 (T9 N)]at C;obtain⟨u',r',q⟩:=hl j y v' g C e3;refine⟨u',r',?_⟩;rcases q with q|⟨k,c',e,z'⟩
    ·exact .inl q
    ·refine .inr ⟨k,c',e,z'.sameBut f ?_⟩;rintro rfl;exact N (mm hN g (I.ok.inj _ _ _ e t▸Y))
  ·by_cases T:c'=c
   ·subst T;exact⟨_,R⟩
   ·obtain⟨w2,z2⟩:=I.cell y c' e;exact⟨w2,z2.sameBut f T⟩
  ·obtain⟨e,n,ne,nf,d⟩:=I.pin p hp;refine⟨(f.2 p.1 ?_).trans e,n,ne,nf,d⟩;intro q;rw[q,S]at e;have q':oc=p.2:=Q4 e;exact d w' (by rw[<-q'];exact U)
theorem gQ{M:ap6}{A:L6}{E:s0->E3->Prop}{i:Nat}{x:Str}{v:V}{u:s0}{Q:Unit->E3->Prop}(I:Inv X G σ H s)(a:X.N.Nodup)(e:X.N[i]?=some x)(f:Loc X.env.scope x)(r:aH v u)
  (h:∀s',Inv X G (σ.set i (some v)) H s'->Q () s') (c:X.fn x=true∨X.env.scope.names.lookup x=some .local:=by first|exact .inl rfl|exact .inr rfl|assumption):H0 M A (storeName X.env x u) Q E s :=
 m9 I a e f r (λs' b _=>h s' b) c
theorem Inv.call'{s':E3}{ch:List E9}(I:Inv X G σ H s)(l:s'.os=s.os)(u:Un (frs X.stack) ch H J s.heap s'.heap)(a:HOk X.prog X.w J s'.heap)(hg:aj1 s'.gens)
  (f:∀b∈ch,(b∈X.ex∨X.s₀.heap.objs.size<=b)/\b≠X.env.locals/\(∀x c,X.env.cells.lookup x=some c->c≠b)/\∀p∈X.pn++G,p.1≠b):Inv X G σ J s':=by
 obtain⟨h',i,h,g,j⟩:=s';have e:j=s.os:=l;subst e;exact I.call (g':=i) (t':=g) (d':=h) u a hg f
end
abbrev XK:=s0->Option E9->Hp->Prop
abbrev St:=List (Option V)
abbrev VK:=V->Hp->Prop
abbrev TE:=St->Hp->VK->Prop
abbrev TT:=St->Hp->(Bool->Hp->Prop)->Prop
abbrev TA:=St->Hp->(List V->Hp->Prop)->Prop
structure mE where
 nx:St->Hp->Prop
 rt:VK
 bk:St->Hp->Prop:=λ_ _=>False
 ct:St->Hp->Prop:=λ_ _=>False
abbrev TS:=mE->St->Hp->Prop
def EP(X:Cx)(b:List (E9×Obj))(σ:St)(Q:VK)(u:s0)(s':E3):Prop:=∃v a,Inv X b σ a s'/\aH v u/\Q v a
def TP(X:Cx)(c:List (E9×Obj))(σ:St)(Q:Bool->Hp->Prop)(b:Bool)(s':E3):Prop:=∃a,Inv X c σ a s'/\Q b a
def AP(X:Cx)(c:List (E9×Obj))(σ:St)(Q:List V->Hp->Prop)(e:List s0)(s':E3):Prop:=∃b a,Inv X c σ a s'/\az b e/\Q b a
theorem EP.el{X:Cx}{e:List (E9×Obj)}{σ:St}{Q:VK}{u:s0}{s:E3}{P:Prop}(h:EP X e σ Q u s)(f:∀(v:V) (H:Hp),Inv X e σ H s->aH v u->Q v H->P):P:=by
 obtain⟨i,g,a,b,c⟩:=h;exact f i g a b c
theorem AP.el{X:Cx}{e:List (E9×Obj)}{σ:St}{Q:List V->Hp->Prop}{u:List s0}{s:E3}{P:Prop}(h:AP X e σ Q u s)(f:∀(v:List V) (H:Hp),Inv X e σ H s->az v u->Q v H->P):P:=by
 obtain⟨i,g,a,b,c⟩:=h;exact f i g a b c
theorem TP.el{X:Cx}{c:List (E9×Obj)}{σ:St}{Q:Bool->Hp->Prop}{u:Bool}{s:E3}{P:Prop}(h:TP X c σ Q u s)(f:∀(H:Hp),Inv X c σ H s->Q u H->P):P:=by
 obtain⟨e,a,b⟩:=h;exact f e a b
def SP(X:Cx)(c:List (E9×Obj))(D:mE)(f:Flow)(s':E3):Prop :=
 match f with
 |.next=>∃ a b,Inv X c a b s'/\D.nx a b
 |.brk=>∃ a b,Inv X c a b s'/\D.bk a b
 |.cont=>∃ a b,Inv X c a b s'/\D.ct a b
 |.ret u=>∃v a b,Inv X c a b s'/\aH v u/\D.rt v b
def PE(X:Cx)(e:L7)(t:TE):Prop :=
 ∀(b:List (E9×Obj)) (s:E3) (a:St) (H:Hp) (Q:VK),Inv X b a H s->t a H Q->H0 (M8 X.prog X.w) X.A (Z1 e X.env) (EP X b a Q) X.xe s
def PT(X:Cx)(e:L7)(t:TT):Prop :=
 ∀(b:List (E9×Obj)) (s:E3) (a:St) (H:Hp) (Q:Bool->Hp->Prop),Inv X b a H s->t a H Q->H0 (M8 X.prog X.w) X.A (isTrue e X.env (Z1 e X.env)) (TP X b a Q) X.xe s
def PW(X:Cx)(e:L7)(t:TT):Prop :=
 ∀(a:Sem s0) (c:List (E9×Obj)) (s:E3) (b:St) (H:Hp) (Q:Bool->Hp->Prop),Inv X c b H s->t b H Q->H0 (M8 X.prog X.w) X.A (isTrue e X.env a) (TP X c b Q) X.xe s
theorem PW.pt{X:Cx}{e:L7}{t:TT}(h:PW X e t):PT X e t:=h _
def PA(X:Cx)(e:List L7)(t:TA):Prop :=
 ∀(b:Pos) (c:List (E9×Obj)) (s:E3) (a:St) (H:Hp) (Q:List V->Hp->Prop),Inv X c a H s->t a H Q->H0 (M8 X.prog X.w) X.A (ap0 (U4 b (F0 e X.env))) (AP X c a Q) X.xe s
def PS(X:Cx)(st:X5)(t:TS):Prop :=
 ∀(a:List (E9×Obj)) (s:E3) (b:St) (H:Hp) (D:mE),Inv X a b H s->t D b H->H0 (M8 X.prog X.w) X.A (exec st X.env) (SP X a D) X.xe s
def PSs(X:Cx)(st:List X5)(t:TS):Prop :=
 ∀(a:List (E9×Obj)) (s:E3) (b:St) (H:Hp) (D:mE),Inv X a b H s->t D b H->H0 (M8 X.prog X.w) X.A (execs st X.env) (SP X a D) X.xe s
theorem thn{b:Type}{t:Sem b}{Q c:b->E3->Prop}{M:ap6}{A:L6}{E:s0->E3->Prop}{s:E3}(h:H0 M A t Q E s)(e:∀a s,Q a s->c a s):H0 M A t c E s:=Q5 h e λ_ _ x=>x
section
variable{X:Cx}
def vg(i:Nat):TE:=λa H Q=>∃v,a[i]?=some (some v)/\Q v H
def tC(v:V):TE:=λ_ H Q=>Q v H
theorem wc{i:Nat}{x:Str}{pos:Pos}(A:X.N[i]?=some x)(z:Vis X.env.scope x)(g:(x==("__debug__":Str))=false:=by decide)(j:(x==("__classdict__":Str))=false:=by decide):PE X (.Name x pos) (vg i):=by
 intro q s o H Q I h;obtain⟨v,e,h⟩:=h;obtain⟨m,w,p⟩:=I.loc;obtain⟨u,r,l⟩:=p i x v A e z;have f:EP X q o Q u s:=⟨v,H,I,r,h⟩;rcases l with⟨b,t⟩|⟨b,c,n,a⟩
 ·exact wpAny_Name (wpAny_loadName_local I.ok.kind b w t f) g
 ·rcases b with b|b
  ·exact wpAny_Name (wpAny_loadName_cell I.ok.kind b n a f) g
  ·exact wpAny_Name (wpAny_loadName_free I.ok.kind b n a f j) g
theorem Ba{i j pos}:PE X (.Constant (.int i) j pos) (tC (.int i)):=λ_ _ _ H _ I h=>wpAny_Constant_int ⟨.int i,H,I.tok _,⟨_,rfl⟩,h⟩
theorem Dy{b j pos}:PE X (.Constant (.bool b) j pos) (tC (.bl b)):=λ_ _ _ H _ I h=>Constant_bool ⟨.bl b,H,I,rfl,h⟩
theorem Bh{j pos}:PE X (.Constant .none j pos) (tC .non):=λ_ _ _ H _ I h=>Constant_none ⟨.non,H,I,rfl,h⟩
theorem xq{x j pos}:PE X (.Constant (.str x) j pos) (tC (.str x)):=λ_ _ _ H _ I h=>Calls.Constant_str ⟨.str x,H,I.tok _,⟨_,rfl⟩,h⟩
def Gl(X:Cx)(x:Str):Prop:=X.env.kindOf x=some .globalImplicit
theorem jd{E:s0->E3->Prop}{b:List (E9×Obj)}{s:E3}{σ:St}{H:Hp}{x:Str}{u:s0}{pos:Pos}{Q:s0->E3->Prop}(I:Inv X b σ H s)(hg:Gl X x)(c:X.mg x=some u)(h:Q u s)
  (a:(x==("__debug__":Str))=false:=by decide):H0 (M8 X.prog X.w) X.A (Z1 (.Name x pos) X.env) Q E s :=
 Calls.Name_function_global I.ok.kind hg (Calls.loadGlobal_global (by rw[I.ok.glob];exact I.mod.glob.keeps I.bk) c h) a
theorem eh{E:s0->E3->Prop}{a:List (E9×Obj)}{s:E3}{σ:St}{H:Hp}{x:Str}{u:s0}{pos:Pos}{Q:s0->E3->Prop}(I:Inv X a σ H s)(hg:Gl X x)(g:X.mg x=none)(b:Z8 x=some u)(h:Q u s)
  (hn:x≠"__name__":=by decide) (f:(x==("__debug__":Str))=false:=by decide):H0 (M8 X.prog X.w) X.A (Z1 (.Name x pos) X.env) Q E s:=by
 obtain⟨i,c,e⟩:=I.mod.blt;exact Calls.Name_function_global I.ok.kind hg (Calls.loadGlobal_builtin (by rw[I.ok.glob];exact I.mod.glob.keeps I.bk) g (by rw[I.ok.blt];exact c.keeps I.bk) ((e x hn).trans b) h) f
theorem ua{x:Str}{v:V}{u:s0}{pos:Pos}(hg:Gl X x)(b:X.mg x=some u)(r:aH v u)(a:(x==("__debug__":Str))=false:=by decide):PE X (.Name x pos) (tC v) :=
 λ_ _ _ H _ I h=>jd I hg b ⟨v,H,I,r,h⟩ a
theorem y0{x:Str}{v:V}{u:s0}{pos:Pos}(hg:Gl X x)(b:X.mg x=none)(c:Z8 x=some u)(r:aH v u)(hn:x≠"__name__":=by decide)(a:(x==("__debug__":Str))=false:=by decide):PE X (.Name x pos) (tC v) :=
 λ_ _ _ H _ I h=>eh I hg b c ⟨v,H,I,r,h⟩ hn a
variable{a b:L7}{z G:TE}{pos:Pos}
theorem vE(b:L7){a:CmpOp}(h:a≠.In)(c:a≠.NotIn):ae1 a b=false:=by
 have f:(a==CmpOp.In)=false:=by cases a<;>first|rfl|exact absurd rfl h
 have e:(a==CmpOp.NotIn)=false:=by cases a<;>first|rfl|exact absurd rfl c
 cases b<;>simp[ae1,f,e]
def tB(t:TE):TT:=λa H Q=>t a H λx b=>∃c,x=.bl c/\Q c b
theorem BQ{e:L7}{t:TE}(h:PE X e t)(he:∀a,isTrue e X.env a=(do let v <-a;ap7 e.pos;ak2 [v] (truthy v)):=by intro _;rfl):PT X e (tB t):=by
 intro g s c H Q I f;refine isTrue_plain (thn (h g s c H _ I f) λv n b=>b.el λx i m l j=>?_) (he _);obtain⟨d,rfl,q⟩:=j;cases l;exact X1 ⟨i,m,q⟩
variable{J O:TT}{rest:List L7}
def D7(t u:TT):TT:=λa H Q=>t a H λc b=>if c=true then u a b Q else Q false b
def tOr(t u:TT):TT:=λa H Q=>t a H λc b=>if c=true then Q true b else u a b Q
def DZ(t:TT):TT:=λa H Q=>t a H λc b=>Q (!c) b
theorem yo(ha:PT X a J):PW X (.BoolOp .And [a] pos) J:=by
 intro i f s b H Q I h;refine isTrue_and (thn (ha f s b H Q I h) λc g e=>?_);cases c with
 |true=>exact isTrue_and_nil e
 |false=>exact e
theorem BY(ha:PT X a J):PW X (.BoolOp .Or [a] pos) J:=by
 intro i f s b H Q I h;refine isTrue_or (thn (ha f s b H Q I h) λc g e=>?_);cases c with
 |false=>exact isTrue_or_nil e
 |true=>exact e
theorem AM(ha:PT X a J)(m:PW X (.BoolOp .And (b::rest) pos) O):PW X (.BoolOp .And (a::b::rest) pos) (D7 J O):=by
 intro n g s f H Q I h;refine isTrue_and (thn (ha g s f H _ I h) λc o e=>e.el λi l j=>?_);cases c with
 |true=>exact m n g o f i Q l j
 |false=>exact⟨i,l,j⟩
theorem Dv(ha:PT X a J)(m:PW X (.BoolOp .Or (b::rest) pos) O):PW X (.BoolOp .Or (a::b::rest) pos) (tOr J O):=by
 intro n g s f H Q I h;refine isTrue_or (thn (ha g s f H _ I h) λc o e=>e.el λi l j=>?_);cases c with
 |true=>exact⟨i,l,j⟩
 |false=>exact m n g o f i Q l j
theorem AH(ha:PT X a J):PT X (.UnaryOp .Not a pos) (DZ J):=by
 intro e s b H Q I h;exact isTrue_not (ha e s b H (λc f=>Q (!c) f) I h)
def Dm(z G:TE):TE:=λa H Q=>z a H λx b=>∃c,x=.bl c/\if c=true then G a b Q else Q (.bl false) b
def Ei(z G:TE):TE:=λa H Q=>z a H λx b=>∃c,x=.bl c/\if c=true then Q (.bl true) b else G a b Q
def Cw(z:TE):TE:=λa H Q=>z a H λx b=>∃c,x=.bl c/\Q (.bl (!c)) b
theorem Aw{op}{t:TE}(h:PE X a t):PE X (.BoolOp op [a] pos) t:=λe s b H Q I c=>BoolOp_one (h e s b H Q I c)
theorem AC(ha:PE X a z)(m:PE X (.BoolOp .And (b::rest) pos) G):PE X (.BoolOp .And (a::b::rest) pos) (Dm z G):=by
 intro i s g H Q I h;refine BoolOp_and (thn (ha i s g H _ I h) λv o f=>f.el λx j l n e=>?_);obtain⟨c,rfl,e⟩:=e;cases n;refine X1 ?_;cases c with
 |true=>exact m i o g j Q l e
 |false=>exact⟨.bl false,j,l,rfl,e⟩
theorem DC(ha:PE X a z)(m:PE X (.BoolOp .Or (b::rest) pos) G):PE X (.BoolOp .Or (a::b::rest) pos) (Ei z G):=by
 intro i s g H Q I h;refine BoolOp_or (thn (ha i s g H _ I h) λv o f=>f.el λx j l n e=>?_);obtain⟨c,rfl,e⟩:=e;cases n;refine X1 ?_;cases c with
 |false=>exact m i o g j Q l e
 |true=>exact⟨.bl true,j,l,rfl,e⟩
theorem Be(ha:PE X a z):PE X (.UnaryOp .Not a pos) (Cw z):=by
 intro g s f H Q I h;refine UnaryOp_ (thn (ha g s f H _ I h) λv m e=>e.el λx l i j b=>?_);obtain⟨c,rfl,b⟩:=b;cases j;exact not_of (X1 ⟨.bl (!c),l,i,rfl,b⟩)
def tIf(t:TT)(z G:TE):TE:=λa H Q=>t a H λc b=>if c=true then z a b Q else G a b Q
theorem xI{c:L7}(o:PT X c J)(ha:PE X a z)(n:PE X b G):PE X (.IfExp c a b pos) (tIf J z G):=by
 intro f s e H Q I h;refine wpAny_IfExp (thn (o f s e H _ I h) λd l g=>g.el λi m j=>?_);cases d with
 |true=>exact ha f l e i Q m j
 |false=>exact n f l e i Q m j
end
def SqL(K:u8)(H:Hp)(a:E9)(xs:List V):Prop :=
 Rd H a (.lst xs) ∨
  ∃(o:Obj) (b:Array s0) (n:Nat),K.lookup a=some o/\o.cls=.type "list"/\o.dict=none/\o.data=.seq b n/\b.size<=F2/\az xs b.toList
def SqT(K:u8)(H:Hp)(a:E9)(xs:List V):Prop :=
 Rd H a (.tup xs) ∨
  ∃(o:Obj) (b:Array s0) (n:Nat),K.lookup a=some o/\(o.cls=.type "tuple"/\o.dict=none)/\o.data=.seq b n/\b.size<=F2/\az xs b.toList
def D1:s0->Option V
 |.none=>some .non
 |.bool b=>some (.bl b)
 |.int i _=>some (.int i)
 |.str x _=>some (.str x)
 |.bytes b _=>some (.byt b)
 |.float b _=>some (.flt b)
 |.ref a=>some (.ref a)
 |.type n=>some (.ty n)
 |_=>none
theorem aH.abs{x:V}{u:s0}(r:aH x u):D1 u=some x:=by
 cases x with
 |non=>cases r;rfl
 |bl _=>cases r;rfl
 |int _=>obtain⟨t,rfl⟩:=r;rfl
 |str _=>obtain⟨t,rfl⟩:=r;rfl
 |byt _=>obtain⟨t,rfl⟩:=r;rfl
 |flt _=>obtain⟨t,rfl⟩:=r;rfl
 |ref _=>cases r;rfl
 |ty _=>cases r;rfl
theorem aH.inj{x y:V}{u:s0}(r:aH x u)(q:aH y u):x=y:=Q4 (r.abs.symm.trans q.abs)
theorem az.inj:∀{xs ys:List V}{a:List s0},az xs a->az ys a->xs=ys
 |_,_,_,.nil,.nil=>rfl
 |_,_,_,.cons r t,.cons c b=>by rw[r.inj c,az.inj t b]
section
variable{X:Cx}{G:List (E9×Obj)}{σ:St}{H:Hp}{s:E3}{a:E9}{xs ys:List V}
theorem SqL.of{K:u8}(h:H a=some (.lst xs)):SqL K H a xs:=.inl (.inl h)
theorem SqT.of{K:u8}(h:H a=some (.tup xs)):SqT K H a xs:=.inl (.inl h)
theorem Inv.list(I:Inv X G σ H s)(h:SqL X.K H a xs):∃b:List s0,az xs b/\PlainL s.heap a b.toArray/\xs.length<=F2:=by
 rcases h with h|⟨o,b,n,g,c,f,i,j,r⟩
 ·obtain⟨z,b,n,r,e⟩:=h.ok I.hok;exact⟨b,r,⟨_,n,e,rfl,rfl,rfl⟩,z⟩
 ·refine⟨b.toList,r,⟨o,n,I.kIn a o g,c,f,by simpa using i⟩,?_⟩;have e:=r.length;simp only[K4]at e
  lia
theorem Inv.tuple(I:Inv X G σ H s)(h:SqT X.K H a xs):∃b:List s0,az xs b/\an4 s.heap a b.toArray/\xs.length<=F2:=by
 rcases h with h|⟨o,b,n,f,c,g,i,r⟩
 ·obtain⟨z,b,r,p⟩:=h.ok I.hok;exact⟨b,r,p.tup,z⟩
 ·refine⟨b.toList,r,⟨o,I.kIn a o f,c.1,n,by simpa using g⟩,?_⟩;have e:=r.length;simp only[K4]at e
  lia
theorem Inv.list_inj(I:Inv X G σ H s)(h:SqL X.K H a xs)(h':SqL X.K H a ys):xs=ys:=by
 obtain⟨c,r,⟨o,n,e,_,_,d⟩,_⟩:=I.list h;obtain⟨b,i,⟨l,m,f,_,_,g⟩,_⟩:=I.list h';rw[e]at f;cases f;rw[d]at g;injection g with j _
 have:c=b:=by simpa using congrArg Array.toList j
 subst this;exact r.inj i
theorem Inv.tuple_inj(I:Inv X G σ H s)(h:SqT X.K H a xs)(h':SqT X.K H a ys):xs=ys:=by
 obtain⟨c,r,⟨o,e,_,n,d⟩,_⟩:=I.tuple h;obtain⟨b,i,⟨l,f,_,m,g⟩,_⟩:=I.tuple h';rw[e]at f;cases f;rw[d]at g;injection g with j _
 have:c=b:=by simpa using congrArg Array.toList j
 subst this;exact r.inj i
end
abbrev Cx.wish(X:Cx)(E:s0->E3->Prop):Cx:={ X with xe:=E }
abbrev Cx.nox(X:Cx):Cx:=X.wish λ_ _=>False
theorem Cx.Ok.wish{X:Cx}(ok:X.Ok)(E:s0->E3->Prop):(X.wish E).Ok :=
 ⟨ok.mod,ok.kind,ok.glob,ok.blt,ok.above,ok.inj,ok.has,ok.cab,ok.hd,ok.frames,ok.stk,ok.exf,ok.bs,ok.bsz,ok.noex,ok.exfs,ok.funs,ok.frf⟩
theorem Cx.Ok.unwish{X:Cx}{E:s0->E3->Prop}(ok:(X.wish E).Ok):X.Ok :=
 ⟨ok.mod,ok.kind,ok.glob,ok.blt,ok.above,ok.inj,ok.has,ok.cab,ok.hd,ok.frames,ok.stk,ok.exf,ok.bs,ok.bsz,ok.noex,ok.exfs,ok.funs,ok.frf⟩
section
variable{X:Cx}{G:List (E9×Obj)}{σ:St}{H:Hp}{s:E3}{E:s0->E3->Prop}
theorem Inv.wish(I:Inv X G σ H s)(E:s0->E3->Prop):Inv (X.wish E) G σ H s:=⟨I.ok.wish E,I.os,I.bare,I.base,I.loc,I.cell,I.free,I.freeC,I.pin,I.hok,I.len⟩
theorem Inv.unwish(I:Inv (X.wish E) G σ H s):Inv X G σ H s:=⟨I.ok.unwish,I.os,I.bare,I.base,I.loc,I.cell,I.free,I.freeC,I.pin,I.hok,I.len⟩
theorem SP.unwish{D:mE}{f:Flow}{s':E3}(h:SP (X.wish E) G D f s'):SP X G D f s':=by
 cases f with
 |next=>obtain⟨a,b,I,q⟩:=h;exact⟨a,b,I.unwish,q⟩
 |brk=>obtain⟨a,b,I,q⟩:=h;exact⟨a,b,I.unwish,q⟩
 |cont=>obtain⟨a,b,I,q⟩:=h;exact⟨a,b,I.unwish,q⟩
 |ret u=>obtain⟨v,a,b,I,r,q⟩:=h;exact⟨v,a,b,I.unwish,r,q⟩
theorem PSs.nox{st:List X5}{t:TS}(h:PSs X.nox st t):PSs X st t:=λG s σ H D I a =>
 Q5 (h G s σ H D (I.wish _) a) (λ_ _ q=>q.unwish) λ_ _ z=>T7 z
end
section
variable{X:Cx}{st:X5}{rest:List X5}{t u:TS}{e:L7}{te:TE}{pos:Pos}
def DI:TS:=λD a H=>D.nx a H
def Et(t u:TS):TS:=λD a H=>t { D with nx:=u D } a H
theorem uf:PSs X [] DI:=λ_ _ a H _ I h=>ag1 ⟨a,H,I,h⟩
theorem lQ(e:PS X st t)(g:PSs X rest u):PSs X (st::rest) (Et t u):=by
 intro b s c H D I h;refine wpAny_execs_cons (thn (e b s c H { D with nx:=u D } I h) λf l q=>?_);cases f with
 |next =>
  obtain⟨a,j,i,q⟩:=q;exact g b l a j D i q
 |ret v=>exact q
 |brk=>exact q
 |cont=>exact q
theorem o8(b:PS X st t):PSs X [st] t:=by
 intro c s a H D I h;refine wpAny_execs_cons (thn (b c s a H D I h) λf e q=>?_);cases f with
 |next=>exact ag1 q
 |ret v=>exact q
 |brk=>exact q
 |cont=>exact q
theorem Inv.quiet{a:List (E9×Obj)}{σ:St}{H:Hp}{s:E3}(I:Inv X a σ H s):interactive X.env=false:=by simp[interactive,I.ok.kind]
def CD(te:TE):TS:=λD a H=>te a H λ_ b=>D.nx a b
theorem sY(he:PE X e te)(hs:ak3 e none pos.line X.env=ae6 false:=by rfl):PS X (.Expr e pos) (CD te):=by
 intro f s b H D I h;exact wpAny_Expr_any (thn (he f s b H _ I h) λv j a=>a.el λx i g l c=>⟨b,i,g,c⟩) I.quiet hs
def Ey(te:TE):TS:=λD a H=>te a H D.rt
theorem xb(he:PE X e te):PS X (.Return (some e) pos) (Ey te):=by
 intro f s b H D I h;exact wpAny_Return_some (thn (he f s b H _ I h) λv l a=>a.el λx j g i c=>⟨x,b,j,g,i,c⟩)
def DW(c:TT)(t u:TS):TS:=λD a H=>c a H λb e=>if b=true then t D a e else u D a e
theorem zM{c:L7}{a b:List X5}{tc:TT}(n:PT X c tc)(ha:PSs X a t)(o:PSs X b u):PS X (.If c a b pos) (DW tc t u):=by
 intro f s e H D I h;refine wpAny_If (thn (n f s e H _ I h) λd j g=>g.el λm l i=>?_);cases d with
 |true=>exact ha f j e m D l i
 |false=>exact o f j e m D l i
end
abbrev TG:=V->St->Hp->(St->Hp->Prop)->Prop
abbrev TGs:=List V->St->Hp->(St->Hp->Prop)->Prop
def PG(X:Cx)(a:L7)(t:TG):Prop :=
 ∀(e:List (E9×Obj)) (s:E3) (c:St) (H:Hp) (v:V) (u:s0) (Q:St->Hp->Prop),Inv X e c H s->aH v u->t v c H Q ->
  H0 (M8 X.prog X.w) X.A (al5 a X.env u) (λ_ g=>∃ b f,Inv X e b f g/\Q b f) X.xe s
def PGs(X:Cx)(h:List L7)(t:TGs):Prop :=
 ∀(e:List (E9×Obj)) (s:E3) (b:St) (H:Hp) (g:List V) (c:List s0) (Q:St->Hp->Prop),Inv X e b H s->az g c->t g b H Q ->
  H0 (M8 X.prog X.w) X.A (assignInOrder ((V9 h X.env).map (·.2)) c) (λ_ i=>∃ a f,Inv X e a f i/\Q a f) X.xe s
abbrev BI:=V->V->V->Hp->(Hp->Prop)->Prop
def Dt(X:Cx)(t:BI):Prop :=
 ∀(c:List (E9×Obj)) (s:E3) (a:St) (H:Hp) (o i v:V) (b f u:s0) (Q:Hp->Prop),Inv X c a H s->aH o b->aH i f->aH v u->t o i v H Q ->
  H0 (M8 X.prog X.w) X.A (setItem b f u) (λ_ g=>∃e,Inv X c a e g/\Q e) X.xe s
section
variable{X:Cx}{pos:Pos}
def p8(i:Nat):TG:=λv a H Q=>Q (a.set i (some v)) H
theorem tF{i:Nat}{x:Str}(f:X.N.Nodup)(c:X.N[i]?=some x)(e:Loc X.env.scope x)(b:X.fn x=true∨X.env.scope.names.lookup x=some .local:=by first|exact .inl rfl|exact .inr rfl|assumption):PG X (.Name x pos) (p8 i):=by
 intro j s g H v u Q I r h;exact wpAny_assign_Name (gQ I f c e r (λl a=>⟨_,H,a,h⟩) b)
def Ab:TGs:=λa b H Q=>a=[]/\Q b H
def vW(t:TG)(u:TGs):TGs:=λe b H Q=>∃v r,e=v::r/\t v b H λa c=>u r a c Q
theorem tW:PGs X [] Ab:=by
 intro c s a H f b Q I r h;obtain⟨e,h⟩:=h;subst e;cases r;exact assignInOrder_nil ⟨a,H,I,h⟩
theorem pI{e:L7}{a:List L7}{t:TG}{u:TGs}(j:PG X e t)(m:PGs X a u)
  (hs:(V9 (e::a) X.env).map (·.2)=al5 e X.env::(V9 a X.env).map (·.2):=by rfl):PGs X (e::a) (vW t u):=by
 intro c s g H w q Q I r h;obtain⟨v,x,i,h⟩:=h;subst i;cases r with
 |cons r l =>
  rw[hs];refine assignInOrder_cons (thn (j c s g H _ _ _ I r h) λ_ n ⟨b,p,o,f⟩=>?_);exact m c n b p _ _ Q o l f
def BM(K:u8)(n:Nat)(t:TGs):TG:=λv c H Q=>∃a b,v=.ref a/\SqT K H a b/\b.length=n/\t b c H Q
theorem vR{c:List L7}{k:Nat}{t:TGs}{n:Nat}(A:X.calm=true)(h:PGs X c t)
  (hn:(V9 c X.env).length=n:=by rfl) (g:(V9 c X.env).findIdx? (·.1)=none:=by rfl):PG X (.Tuple c k pos) (BM X.K n t):=by
 intro m s j H v u Q I r f;obtain⟨a,q,z,w,x,f⟩:=f;subst z;cases r;obtain⟨p,l,C,J⟩:=I.tuple w;refine assign_Tuple_tuple (I.ok.hd A) C (by simp[hn,<-x,l.length]) g λB G=>?_;have E:Inv X m j H { s with heap:=B }:=I.kept (t':=s.toks) λb o e=>G b o (K5 (F9 e)) e;exact h m _ j H q _ Q E (by simpa using l) f
def Ex(b c:TE)(t:BI):TG:=λv a H Q=>b a H λo f=>c a f λi g=>t o i v g λe=>Q a e
theorem Al{o i:L7}{j g:TE}{t:BI}(C:PE X o j)(M:PE X i g)(hs:Dt X t)
  (ha:∀ v,al5 (.Subscript o i pos) X.env v = (do
   let b <-ak2 [v] (Z1 o X.env)
   let c <-ak2 [v,b] (Z1 i X.env)
   ap7 pos
   ak2 [v,b,c] (setItem b c v)
   release [v,b,c] []):=by intro _;rfl):PG X (.Subscript o i pos) (Ex j g t):=by
 intro f s e H v u Q I r h;rw[ha];refine o0 (O5 (thn (C f s e H _ I h) λb J a=>a.el λx w L E A=>?_));refine o0 (O5 (thn (M f J e w _ L A) λc l a=>a.el λy n G q p=>?_));refine o0 (ag2 (o0 (O5 (thn (hs f l e n x y v b c u _ G E q r p) λ_ N ⟨m,B,z⟩=>?_))));exact wpAny_release ⟨e,m,B,z⟩
def Bc(te:TE)(g:TG):TS:=λD a H=>te a H λx b=>g x a b D.nx
theorem vQ{a e:L7}{te:TE}{g:TG}(he:PE X e te)(hg:PG X a g)(hs:swapsWithSole [a] e pos.line X.env=ae6 false:=by rfl)(i:swappedStores [a] e X.env=ae6 none:=by rfl)
  (j:(V9 [a] X.env).map (·.2)=[al5 a X.env]:=by rfl):PS X (.Assign [a] e pos) (Bc te g):=by
 intro f s c H D I h;refine wpAny_Assign_stores (thn (he f s c H _ I h) λv o b=>b.el λx l p n m=>?_) hs i;rw[j];exact thn (hg f o c l x v _ p n m) λ_ t q=>q
theorem BW{i:Nat}{x:Str}{e:L7}{te:TE}{a:Pos}(j:X.N.Nodup)(q:X.N[i]?=some x)(t:Loc X.env.scope x)(he:PE X e te)(hs:ak3 e (some (.Name x a)) pos.line X.env=ae6 false:=by rfl)(m:X.fn x=true∨X.env.scope.names.lookup x=some .local:=by first|exact .inl rfl|exact .inr rfl|assumption):
  PS X (.Assign [.Name x a] e pos) (Bc te (p8 i)):=by
 intro f s c H D I h;refine wpAny_Assign_Name (thn (he f s c H _ I h) λv w b=>b.el λy g p n l=>?_) hs;exact gQ p j q t n (λu o=>⟨_,g,o,l⟩) m
end
structure It where
 go:Nat->Hp->Prop
 yld:Nat->Hp->V->Hp->Prop
 stop:Nat->Hp->Prop
def eQ(X:Cx)(a:List (E9×Obj))(H:Hp)(b:E9):Prop :=
 H b=none/\b≠X.env.locals/\b∉X.fs/\(b∈X.ex∨X.s₀.heap.objs.size<=b)/\(∀x c,X.env.cells.lookup x=some c->c≠b)/\∀p∈X.pn++a,p.1≠b
theorem Inv.fpOk{X:Cx}{f:List (E9×Obj)}{σ:St}{H g:Hp}{s:E3}{b:E9}(I:Inv X f σ H s)(a:s.heap.objs.size<=b)(hn:g b=none):eQ X f g b:=by
 refine⟨hn,ad6 (J0 I.lt a),I.nofs a,.inr (L5 I.sz a),λx c e z=>?_,λp h z=>?_⟩
 ·obtain⟨v,q⟩:=I.cell x c e;exact absurd (J0 q.lt (by rw[z];exact a)) (Z7 _)
 ·exact absurd (J0 (F9 (I.pin p h).1) (by rw[z];exact a)) (Z7 _)
structure oH(P:K3) (w:P4) (K:u8) (tg:L7) (J:It) (fp:List E9) (it:E9) (tn:Nat->K0->Prop):Prop where
 mem:it∈fp
 obj:∀i h,tn i h->∀b∈fp,∃o,h.get? b=some o/\∀v,o.data≠.cell v
 keep:∀i h h',tn i h->(∀b∈fp,∀o,h.get? b=some o->h'.get? b=some o)->tn i h'
 item:∀(X:Cx),X.prog=P->X.w=w->X.K=K->X.calm=true->∀(i:Nat) (ae:List (E9×Obj)) (s:E3) (σ:St) (H:Hp) (E:s0->E3->Prop),Inv X ae σ H s->(∀b∈fp,eQ X ae H b)->tn i s.heap->J.go i H ->
  H0 (M8 P w) X.A (ap8 (.ref it)) (λr s1=>∃u,r=some u /\
   H0 (M8 P w) X.A (ag3 tg (.ref it) u) (λ_ s2=>∃x H',Inv X ae σ H' s2/\aH x u/\J.yld i H x H'/\tn (i+1) s2.heap/\∀b∈fp,H' b=none) E s1) E s
 done:∀(X:Cx),X.prog=P->X.w=w->X.K=K->X.calm=true->∀(i:Nat) (ae:List (E9×Obj)) (s:E3) (σ:St) (H:Hp) (E:s0->E3->Prop),Inv X ae σ H s->(∀b∈fp,eQ X ae H b)->tn i s.heap->J.stop i H ->
  H0 (M8 P w) X.A (ap8 (.ref it)) (λr s1=>r=none/\Inv X ae σ H s1) E s
 self:∀(A:L6) (i:Nat) (s:E3) (Q:s0->E3->Prop) (E:s0->E3->Prop),tn i s.heap->Q (.ref it) s->H0 (M8 P w) A (ap9 (.ref it)) Q E s
abbrev TI:=St->Hp->(It->Hp->Prop)->Prop
def PIE(X:Cx)(g:List (E9×Obj))(σ:St)(j:L7)(R:It->Hp->Prop)(a:s0)(i:E3):Prop :=
 ∃(e:E9) (f:List E9) (h:Nat->K0->Prop) (J:It) (c:Hp),a=.ref e/\Inv X g σ c i/\oH X.prog X.w X.K j J f e h/\h 0 i.heap/\(∀b∈f,eQ X g c b)/\R J c
def PI(X:Cx)(e iter:L7)(c:TI):Prop :=
 ∀(b:List (E9×Obj)) (s:E3) (a:St) (H:Hp) (R:It->Hp->Prop),Inv X b a H s->c a H R ->
  H0 (M8 X.prog X.w) X.A (Z1 iter X.env) (λv f=>H0 (M8 X.prog X.w) X.A (ap9 v) (PIE X b a e R) X.xe f) X.xe s
theorem ux{M:ap6}{A:L6}{E:s0->E3->Prop}{s:E3}{b:L7}{it:E9}{u:s0}{o:Obj}{n:String}{c:Array s0}{Q:Unit->E3->Prop}(g:s.heap.get? it=some o)(e:o.cls=.type n)(f:o.data=.fields c)
    (hn:["enumerate","zip","dict_itemiterator","dict_reverseitemiterator","odict_iterator","itertools.zip_longest","itertools.pairwise"].contains n=false) (a:Q () s):H0 M A (ag3 b (.ref it) u) Q E s:=by
  unfold ag3;cases b<;>first
    |exact E1 a
    |(cases u<;>first
        |exact E1 a
        | (refine o0 (wpAny_load g ?_)
           rw[e,f];show H0 M A (if(["enumerate","zip","dict_itemiterator","dict_reverseitemiterator","odict_iterator","itertools.zip_longest","itertools.pairwise"].contains n&&c[0]?==some (an3 _))=true then _ else _) Q E s;rw[if_neg (by intro h;rw[hn,L9]at h;cases h)];exact E1 a))
def Itl(K:u8)(a:E9):It :=
 ⟨λi H=>∃b x,SqL K H a b/\b[i]?=some x,λi H x c=>c=H/\∀b,SqL K H a b->b[i]?=some x,λi H=>∃b,SqL K H a b/\b.length<=i⟩
def Itt(K:u8)(a:E9):It :=
 ⟨λi H=>∃b x,SqT K H a b/\b[i]?=some x,λi H x c=>c=H/\∀b,SqT K H a b->b[i]?=some x,λi H=>∃b,SqT K H a b/\b.length<=i⟩
def Itr(lo:Int)(n:Nat):It:=⟨λi _=>i<n,λi H x a=>a=H/\x=.int (lo+i),λi _=>n<=i⟩
theorem m7{P:K3}{w:P4}{K:u8}{tg:L7}(a it:E9):oH P w K tg (Itl K a) [it] it (λi h=>h.IsListIter it a i) where
 mem:=by simp
 obj:=λi h st b f=>by
  have e:b=it:=by simpa using f
  subst e;obtain⟨o,e,c,d⟩:=st;exact⟨o,e,λv z=>by rw[d]at z;cases z⟩
 keep:=λi h m st k=>st.at λo e=>k it (by simp) o e
 item:=by
  intro X L A hK S i R s Q H E I n st G;subst L A hK;obtain⟨xs,x,l,N⟩:=G;obtain⟨q,J,p,U⟩:=I.list l;obtain⟨u,hu,ru⟩:=J.get N;obtain⟨M,C,f2,B,t,O⟩:=n it (by simp);refine wpAny_pyNext_list_item st p.isList (x:=u) (by simpa using hu) λm j Y=>?_;have Z:Inv X R Q H { s with heap:=m }:=I.turned (t':=s.toks) (λb o f e=>(Y.2 b f).trans e) M C B t O;obtain⟨o,e,c,d⟩:=id j;exact⟨u,rfl,ux (s:={ s with heap:=m }) e c d (by decide) ⟨x,H,Z,ru,⟨rfl,λys T=>by rw[I.list_inj T l];exact N⟩,j,λb f=>(n b f).1⟩⟩
 done:=by
  intro X L A hK S i R s Q H E I n st G;subst L A hK;obtain⟨xs,l,N⟩:=G;obtain⟨q,J,p,U⟩:=I.list l;obtain⟨M,C,f2,B,t,O⟩:=n it (by simp);have hl:=J.length;exact wpAny_pyNext_list_end (I.ok.hd S) st p.isList (by simp;lia) λm eb=>⟨rfl,I.turned (t':=s.toks) (λb o f e=>eb b o f e) M C B t O⟩
 self:=λ_ _ _ _ _ st h=>wpAny_pyIter_listiter st h
theorem sL{P:K3}{w:P4}{K:u8}{tg:L7}(a it:E9):oH P w K tg (Itt K a) [it] it (λi h=>h.IsTupleIter it a i) where
 mem:=by simp
 obj:=λi h st b g=>by
  have e:b=it:=by simpa using g
  subst e;obtain⟨o,e,c,d⟩:=st;exact⟨o,e,λv z=>by rw[d]at z;cases z⟩
 keep:=λi h n st k=>st.at λo e=>k it (by simp) o e
 item:=by
  intro X L A hK S i R s Q H E I q st G;subst L A hK;obtain⟨xs,x,m,N⟩:=G;obtain⟨f,J,p,U⟩:=I.tuple m;obtain⟨u,hu,ru⟩:=J.get N;obtain⟨M,C,f2,B,t,O⟩:=q it (by simp);refine wpAny_pyNext_tuple_item st (show s.heap.IsTuple a f.toArray from p) (x:=u) (by simpa using hu) λn l Y=>?_;have Z:Inv X R Q H { s with heap:=n }:=I.turned (t':=s.toks) (λb o g e=>(Y.2 b g).trans e) M C B t O;obtain⟨o,e,c,d⟩:=id l;exact⟨u,rfl,ux (s:={ s with heap:=n }) e c d (by decide) ⟨x,H,Z,ru,⟨rfl,λys T=>by rw[I.tuple_inj T m];exact N⟩,l,λb g=>(q b g).1⟩⟩
 done:=by
  intro X L A hK S i R s Q H E I q st G;subst L A hK;obtain⟨xs,m,N⟩:=G;obtain⟨f,J,p,U⟩:=I.tuple m;obtain⟨M,C,f2,B,t,O⟩:=q it (by simp);have hl:=J.length;exact wpAny_pyNext_tuple_end (I.ok.hd S) st (show s.heap.IsTuple a f.toArray from p) (by simp;lia) λn eb=>⟨rfl,I.turned (t':=s.toks) (λb o g e=>eb b o g e) M C B t O⟩
 self:=λ_ _ _ _ _ st h=>wpAny_pyIter_tupleiter st h
theorem su{P:K3}{w:P4}{K:u8}{R:L7}(it:E9)(lo:Int)(n:Nat):oH P w K R (Itr lo n) [it] it (λi h=>IsRangeIter h it (lo+(i:Nat)*1) ((n:Int)-(i:Nat)) 1) where
 mem:=by simp
 obj:=λi h st b a=>by
  have e:b=it:=by simpa using a
  subst e;exact⟨_,st,λv z=>by
   have O:af2 _=aq7.cell v:=z;cases O⟩
 keep:=λi h g st k=>k it (by simp) _ st
 item:=by
  intro X x m hK B i L s J H E I j st u;subst x m hK;obtain⟨A,q,S,p,l,C⟩:=j it (by simp);have W:=Walks.range (prog:=X.prog) (w:=X.w) (I.ok.hd B) it lo 1 n;refine W.item i s _ _ u st λv g G N f M=>?_;obtain⟨t,rfl⟩:=N;have Q:Inv X L J H { s with heap:=g,toks:=G }:=I.turned (λb o a e=>M b o (by simpa using a) e) A q p l C;refine⟨_,rfl,ux (s:={ s with heap:=g,toks:=G }) (n:="range_iterator") f rfl rfl (by decide) ⟨.int (lo+i),H,Q,⟨t,?_⟩,⟨rfl,rfl⟩,f,λb a=>(j b a).1⟩⟩;rw[Int.mul_one]
 done:=by
  intro X x m hK B i L s J H E I j st u;subst x m hK;obtain⟨A,q,S,p,l,C⟩:=j it (by simp);exact wpAny_pyNext_range_end (I.ok.hd B) st (by have:n<=i:=u;lia) λg T=>⟨rfl,I.turned (t':=s.toks) (λb o a e=>T b o a e) A q p l C⟩
 self:=λ_ _ _ _ _ st h=>wpAny_pyIter_rangeiter st h
section
variable{X:Cx}{G:L7}
theorem qO{c:List (E9×Obj)}{σ:St}{H:Hp}{s:E3}{R:It->Hp->Prop}{E:s0->E3->Prop}{lo a:Int}{t u v:Tok}{f:Nat}(I:Inv X c σ H s)(i:-(2 ^ 62)<=lo)(j:lo<2 ^ 62)(h:-(2 ^ 62)<=a)(p:a<2 ^ 62)
  (q:R (Itr lo (a-lo).toNat) H):H0 (M8 X.prog X.w) X.A (ap9 (.ref s.heap.objs.size)) (PIE X c σ G R) E { s with heap:=s.heap.push { cls:=.type "range",data:=.fields #[.int lo t,.int a u,.int 1 v] },toks:=f }:=by
 refine wpAny_pyIter_range (IsRange.new ..) (small_one i j h p) ?_;have g:Inv X c σ H { s with heap:=s.heap.push { cls:=.type "range",data:=.fields #[.int lo t,.int a u,.int 1 v] },toks:=f }:=I.kept λb o e=>E2 _ e;refine⟨(s.heap.push { cls:=.type "range",data:=.fields #[.int lo t,.int a u,.int 1 v] }).objs.size,[(s.heap.push { cls:=.type "range",data:=.fields #[.int lo t,.int a u,.int 1 v] }).objs.size],_,_,H,rfl,
  g.kept (t':=f) λb o e=>E2 _ e,su _ lo (a-lo).toNat,?_,λb m=>?_,q⟩
 ·have n:lo+((0:Nat):Int)*1=lo:=by simp
  have l:(((a-lo).toNat:Nat):Int)-((0:Nat):Int)=K6.Range.rangeSize lo a 1:=by rw[rangeSize_one];split<;>lia
  show IsRangeIter _ _ (lo+((0:Nat):Int)*1) ((((a-lo).toNat:Nat):Int)-((0:Nat):Int)) 1;rw[n,l];exact F6 _ rfl
 ·have e:b=(s.heap.push { cls:=.type "range",data:=.fields #[.int lo t,.int a u,.int 1 v] }).objs.size:=by simpa using m
  subst e;exact g.fpOk (F3 _) (g.hok.fresh (F3 _))
def CO(b:TA):TI:=λa H R=>b a H λc e=>∃j:Int,c=[.int j]/\-(2 ^ 62)<=j/\j<2 ^ 62/\R (Itr 0 j.toNat) e
def DB(b:TA):TI:=λa H R=>b a H λc e=>∃i j:Int,c=[.int i,.int j]/\(-(2 ^ 62)<=i/\i<2 ^ 62/\-(2 ^ 62)<=j/\j<2 ^ 62)/\R (Itr i (j-i).toNat) e
theorem vc{a:L7}{f:TA}{p pos:Pos}(hg:Gl X "range")(l:X.mg "range"=none)(ha:PA X [a] f)(hs:F0 [a] X.env=[(false,Z1 a X.env)]:=by rfl):PI X G (.Call (.Name "range" p) [a] [] pos) (CO f):=by
 intro i s g H R I h;refine Call_ (eh I hg l boot_range (V0 (thn (ha pos i s g H _ I h) λw z c=>c.el λx A u m b=>?_) hs rfl));obtain⟨j,e,b,n,q⟩:=b;subst e;cases m with
 |cons r o =>
  cases o;obtain⟨t,rfl⟩:=r;exact call_range_1 (qO u (by lia) (by lia) b n (by simpa using q))
theorem vm{a b:L7}{m:TA}{p pos:Pos}(hg:Gl X "range")(A:X.mg "range"=none)(ha:PA X [a,b] m)(hs:F0 [a,b] X.env=[(false,Z1 a X.env),(false,Z1 b X.env)]:=by rfl)(c:F0 [b] X.env=[(false,Z1 b X.env)]:=by rfl):
  PI X G (.Call (.Name "range" p) [a,b] [] pos) (DB m):=by
 intro u s n H R I h;refine Call_ (eh I hg A boot_range (V0 (thn (ha pos u s n H _ I h) λL N f=>f.el λM E C B g=>?_) (by rw[hs,c]) (by rw[c];rfl)));obtain⟨i,j,e,⟨g,w,z,o⟩,q⟩:=g;subst e;cases B with
 |cons r l =>
  cases l with
  |cons x l =>
   cases l;obtain⟨t,rfl⟩:=r;obtain⟨J,rfl⟩:=x;exact call_range_2 (qO C g w z o q)
def D5(h:TI)(g:TG)(j:TS):TS:=λD a H=>h a H λJ l=>∃W:Nat->Nat->St->Hp->Prop,(∃m,W 0 m a l)/\∀i m a H,W i m a H ->
 (J.stop i H/\D.nx a H)∨(J.go i H/\∃N:St->Hp->Prop,(∀ b c,N b c->∃f,f<m/\W (i+1) f b c)/\∀x c,J.yld i H x c->g x a c λe n=>j { D with nx:=N,ct:=N,bk:=D.nx } e n)
def il(a:List E9)(h:K0):List (E9×Obj):=a.filterMap λb=>(h.get? b).map λo=>(b,o)
theorem fm{a:List E9}{h:K0}{b:E9}{o:Obj}(c:b∈a)(e:h.get? b=some o):(b,o)∈il a h:=V1.mpr ⟨b,c,by rw[e];rfl⟩
theorem mR{a:List E9}{h:K0}{p:E9×Obj}(f:p∈il a h):p.1∈a/\h.get? p.1=some p.2:=by
 obtain⟨b,g,e⟩:=V1.mp f;cases q:h.get? b with
 |none=>rw[q]at e;cases e
 |some o =>
  rw[q]at e;have c:(b,o)=p:=Q4 e;subst c;exact⟨g,q⟩
theorem Inv.pinned{c:List (E9×Obj)}{σ:St}{H:Hp}{s:E3}{a:List E9}(I:Inv X c σ H s)(j:∀b∈a,eQ X c H b)(n:∀b∈a,∃o,s.heap.get? b=some o/\∀v,o.data≠.cell v):Inv X (c++il a s.heap) σ H s :=
 I.pins_of λp h=>(P7.mp h).elim (λz=>I.pin p (K9 _ z)) λz=>by
  obtain⟨g,e⟩:=mR z;obtain⟨i,m,l,_⟩:=j p.1 g;obtain⟨o,f,d⟩:=n p.1 g;rw[e]at f;cases f;exact⟨e,i,m,l,d⟩
theorem Inv.unpinned{a pl:List (E9×Obj)}{σ:St}{H:Hp}{s:E3}(I:Inv X (a++pl) σ H s):Inv X a σ H s:=I.pins_of λp b=>I.pin p (K9 _ (ab0 _ b))
theorem wa{iter:L7}{z:List X5}{wi:TI}{g:TG}{tb:TS}{pos:Pos}(Q:ai6 (M8 X.prog X.w) X.A X.env X.xe)(hc:X.calm=true)(hi:PI X G iter wi)(hg:PG X G g)(p:PSs X z tb)
  (hs:∀x,X2 iter X.env x=ae6 x:=by intro _;rfl):PS X (.For G iter z [] pos) (D5 wi g tb):=by
 intro C s σ H D I h;refine wpAny_For (thn (hi C s σ H _ I h) λv s1 h1=>thn h1 λa1 s2 h2=>?_) hs;obtain⟨it,P,tn,J,H2,e,I2,T,st2,f2,W,⟨m0,w0⟩,O⟩:=h2;subst e
 -- what stays true of the iterator's objects through the loop
 have l:∀{w:Hp},(∀b∈P,w b=none)->∀b∈P,eQ X C w b:=λhn b p=>⟨hn b p,(f2 b p).2⟩;refine codeAny_forLoop_any (λn s'=>∃i q w,Inv X C q w s'/\tn i s'.heap/\(∀b∈P,w b=none)/\W i n q w) ?_ m0 ⟨0,σ,H2,I2,st2,λb p=>(f2 b p).1,w0⟩;rintro n s3 ⟨i,c,R,I3,L,M,w3⟩;rcases O i n c R w3 with⟨stop,qn⟩|⟨go,N,hN,step⟩
 ·refine ag4 Q (thn (T.done X rfl rfl rfl hc i C s3 c R X.xe I3 (l M) L stop) λr s4 ⟨Z,I4⟩=>?_);subst Z;exact ag1 ⟨c,R,I4,qn⟩
 ·refine ag4 Q (thn (T.item X rfl rfl rfl hc i C s3 c R X.xe I3 (l M) L go) λr s4 ⟨u,Z,h4⟩=>?_);subst Z;refine ag4 Q (thn h4 λ_ s5 ⟨x,H5,I5,r5,y5,B,Y⟩=>?_);have a0:=I5.pinned (l Y) (T.obj _ _ B);refine ag4 Q (thn (hg _ s5 c H5 x u _ a0 r5 (step x H5 y5)) λ_ s6 ⟨U,H6,I6,q6⟩=>?_);refine ag4 Q (thn (p _ s6 U H6 _ I6 q6) λf S A=>?_);have again:∀{a:St} {j:Hp},Inv X (C++il P s5.heap) a j S->N a j->∃m,m<n/\∃i q w,Inv X C q w S/\tn i S.heap/\(∀b∈P,w b=none)/\W i m q w:=λ{a j} t E=>by
   obtain⟨m',hm,w7⟩:=hN a j E;refine⟨m',hm,i+1,a,j,t.unpinned,T.keep _ _ _ B λb p o e=>(t.pin (b,o) (K9 _ (K9 _ (fm p e)))).1,λb p=>?_,w7⟩;obtain⟨o,e,d⟩:=T.obj _ _ B b p;exact(t.pin (b,o) (K9 _ (K9 _ (fm p e)))).2.1
  cases f with
  |next=>obtain⟨a,j,t,E⟩:=A;exact again t E
  |cont=>obtain⟨a,j,t,E⟩:=A;exact again t E
  |brk=>obtain⟨a,j,t,A⟩:=A;exact⟨a,j,t.unpinned,A⟩
  |ret v=>obtain⟨x7,a,j,t,r7,A⟩:=A;exact⟨x7,a,j,t.unpinned,r7,A⟩
end
abbrev R2:=V->V->Hp->VK->Prop
def OpR(X:Cx)(f:s0->s0->Sem s0)(r:R2):Prop :=
 ∀(b:List (E9×Obj)) (s:E3) (a:St) (H:Hp) (x y:V) (v u:s0) (Q:VK),Inv X b a H s->aH x v->aH y u->r x y H Q ->
  H0 (M8 X.prog X.w) X.A (f v u) (EP X b a Q) X.xe s
def UnR(X:Cx)(f:s0->Sem s0)(r:V->Hp->VK->Prop):Prop :=
 ∀(b:List (E9×Obj)) (s:E3) (a:St) (H:Hp) (x:V) (v:s0) (Q:VK),Inv X b a H s->aH x v->r x H Q ->
  H0 (M8 X.prog X.w) X.A (f v) (EP X b a Q) X.xe s
def dg(X:Cx)(f:s0)(r:List V->Hp->VK->Prop):Prop :=
 ∀(e:List (E9×Obj)) (s:E3) (a:St) (H:Hp) (b:List V) (c:List s0) (Q:VK),Inv X e a H s->az b c->r b H Q ->
  H0 (M8 X.prog X.w) X.A (aq8 f c) (EP X e a Q) X.xe s
def tOp(r:R2)(b c:TE):TE:=λa H Q=>b a H λx e=>c a e λy f=>r x y f Q
def tUn(r:V->Hp->VK->Prop)(b:TE):TE:=λa H Q=>b a H λx c=>r x c Q
def rI(C:Int->Int->Prop)(g:Int->Int->V):R2:=λx y H Q=>∃i j,x=.int i/\y=.int j/\C i j/\Q (g i j) H
def rI0(g:Int->Int->V):R2:=λx y H Q=>∃i j,x=.int i/\y=.int j/\Q (g i j) H
def rU(g:Int->V):V->Hp->VK->Prop:=λx H Q=>∃i,x=.int i/\Q (g i) H
section
variable{X:Cx}{a b c:L7}{z G tc:TE}{pos:Pos}
theorem Bz(ha:PE X a z)(o:PE X b G){j:List (E9×Obj)}{s:E3}{σ:St}{H:Hp}{R:V->V->Hp->Prop}(I:Inv X j σ H s)
  (h:z σ H λx m=>G σ m λy e=>R x y e) {Q:s0->E3->Prop} {f:s0->s0->Sem s0}
  (t:∀v u l x y e,Inv X j σ e l->aH x v->aH y u->R x y e->H0 (M8 X.prog X.w) X.A (f v u) Q X.xe l) :
  H0 (M8 X.prog X.w) X.A (Z1 a X.env) (λv i=>H0 (M8 X.prog X.w) X.A (Z1 b X.env) (λu g=>H0 (M8 X.prog X.w) X.A (f v u) Q X.xe g) X.xe i) X.xe s:=by
 refine thn (ha j s σ H _ I h) λv B c=>c.el λx m C w q=>?_;refine thn (o j B σ m _ C q) λu l c=>c.el λy e A p n=>?_;exact t v u l x y e A w p n
theorem CQ{c:Operator}{r:R2}(j:OpR X (X9 c) r)(ha:PE X a z)(o:PE X b G):PE X (.BinOp a c b pos) (tOp r z G):=by
 intro f s e H Q I h;exact wpAny_BinOp (Bz ha o I h λv u g x y i l m n q=>j f g e i x y v u Q l m n q)
theorem CU{f:UnaryOp}{r:V->Hp->VK->Prop}(l:UnR X (unaryOp f) r)(ha:PE X a z):PE X (.UnaryOp f a pos) (tUn r z):=by
 intro e s c H Q I h;exact UnaryOp_ (thn (ha e s c H _ I h) λv m b=>b.el λx g n j i=>l e m c g x v Q n j i)
theorem opI{f:s0->s0->Sem s0}{C:Int->Int->Prop}{g:Int->Int->Int}
  (rule:∀(i j:Int) (t u:Tok) (s:E3) (Q:s0->E3->Prop) (E:s0->E3->Prop),C i j->Q (.int (g i j) s.toks) { s with toks:=s.toks+1 }->H0 (M8 X.prog X.w) X.A (f (.int i t) (.int j u)) Q E s) :
  OpR X f (rI C λi j=>.int (g i j)):=by
 intro e s c H x y v u Q I rx ry h;obtain⟨i,j,rfl,rfl,b,q⟩:=h;obtain⟨t,rfl⟩:=rx;obtain⟨a,rfl⟩:=ry;exact rule i j t a s _ _ b ⟨.int (g i j),H,I.tok _,⟨_,rfl⟩,q⟩
theorem Er{f:s0->s0->Sem s0}{g:Int->Int->Int}
  (rule:∀(i j:Int) (t u:Tok) (s:E3) (Q:s0->E3->Prop) (E:s0->E3->Prop),Q (.int (g i j) s.toks) { s with toks:=s.toks+1 }->H0 (M8 X.prog X.w) X.A (f (.int i t) (.int j u)) Q E s) :
  OpR X f (rI0 λi j=>.int (g i j)):=by
 intro c s b H x y v u Q I rx ry h;obtain⟨i,j,rfl,rfl,q⟩:=h;obtain⟨t,rfl⟩:=rx;obtain⟨a,rfl⟩:=ry;exact rule i j t a s _ _ ⟨.int (g i j),H,I.tok _,⟨_,rfl⟩,q⟩
theorem yV{f:s0->s0->Sem s0}{g:Int->Int->Bool}
  (rule:∀(i j:Int) (t u:Tok) (s:E3) (Q:s0->E3->Prop) (E:s0->E3->Prop),Q (.bool (g i j)) s->H0 (M8 X.prog X.w) X.A (f (.int i t) (.int j u)) Q E s) :
  OpR X f (rI0 λi j=>.bl (g i j)):=by
 intro c s b H x y v u Q I rx ry h;obtain⟨i,j,rfl,rfl,q⟩:=h;obtain⟨t,rfl⟩:=rx;obtain⟨a,rfl⟩:=ry;exact rule i j t a s _ _ ⟨.bl (g i j),H,I,rfl,q⟩
def n9(i j:Int):Prop:=0<j/\j<1073741824
def pW(i j:Int):Prop:=0<=j/\j<=1000000/\i.natAbs<2 ^ 64
def jM(i j:Int):Prop:=(-(2 ^ 64)<i/\i<2 ^ 64)∨(-(2 ^ 64)<j/\j<2 ^ 64)
theorem jM.ok{i j:Int}(h:jM i j):IntMulOk i j:=by
 rcases h with⟨a,b⟩|⟨a,b⟩
 ·exact .of_left (intBits_le_64 a b)
 ·exact .of_right (intBits_le_64 a b)
theorem BH:OpR X (X9 .Add) (rI0 λi j=>.int (i+j)):=Er λ_ _ _ _ _ _ _ q=>add_int q
theorem AR:OpR X (X9 .Mult) (rI jM λi j=>.int (i*j)):=opI λ_ _ _ _ _ _ _ a q=>mul_int q a.ok
theorem zi:OpR X (X9 .FloorDiv) (rI n9 λi j=>.int (i / j)):=opI λi j _ _ _ _ _ a q=>by
 have b:(0:Int)<j:=a.1;have c:j<1073741824:=a.2;exact floordiv_int (by lia) (by rw[Int.fdiv_eq_ediv_of_nonneg i (by lia)];exact q) (.inl (PyProof.noPylong_small (by lia)))
theorem A6:OpR X (X9 .Mod) (rI (λ_ j=>0<j) λi j=>.int (i % j)):=opI λi j _ _ _ _ _ a q=>by
 have b:(0:Int)<j:=a;exact mod_int' (by lia) (by rw[Int.fmod_eq_emod_of_nonneg i (by lia)];exact q)
theorem AD:OpR X (X9 .Pow) (rI pW λi j=>.int (i ^ j.toNat)):=opI λ_ _ _ _ _ _ _ a q=>pow_int_small a.1 a.2.1 a.2.2 q
theorem unI{f:s0->Sem s0}{g:Int->Int}
  (rule:∀(i:Int) (t:Tok) (s:E3) (Q:s0->E3->Prop) (E:s0->E3->Prop),Q (.int (g i) s.toks) { s with toks:=s.toks+1 }->H0 (M8 X.prog X.w) X.A (f (.int i t)) Q E s) :
  UnR X f (rU λi=>.int (g i)):=by
 intro b s a H x v Q I rx h;obtain⟨i,rfl,q⟩:=h;obtain⟨t,rfl⟩:=rx;exact rule i t s _ _ ⟨.int (g i),H,I.tok _,⟨_,rfl⟩,q⟩
theorem AU:UnR X (unaryOp .USub) (rU λi=>.int (-i)):=unI λ_ _ _ _ _ q=>neg_int q
end
section
variable{X:Cx}{a b c:L7}{G J tc:TE}{pos:Pos}
theorem rV{a:List (E9×Obj)}{σ:St}{H:Hp}{s:E3}{Q:VK}{k k':Bool}(I:Inv X a σ H s)(q:Q (.bl k) H)(e:k=k'):EP X a σ Q (.bool k') s:=by
 subst e;exact⟨.bl k,H,I,rfl,q⟩
theorem Dw:OpR X (Q6 .Lt) (rI0 λi j=>.bl (decide (i<j))):=yV λ_ _ _ _ _ _ _ q=>lt_int q
theorem Cp:OpR X (Q6 .LtE) (rI0 λi j=>.bl (decide (i<=j))):=yV λ_ _ _ _ _ _ _ q=>le_int q
theorem CL:OpR X (Q6 .Gt) (rI0 λi j=>.bl (decide (j<i))):=yV λ_ _ _ _ _ _ _ q=>gt_int q
theorem C8:OpR X (Q6 .GtE) (rI0 λi j=>.bl (decide (j<=i))):=yV λ_ _ _ _ _ _ _ q=>ge_int q
theorem uL:OpR X (Q6 .In) (λx y H Q=>∃i j,x=.str i/\y=.str j/\Q (.bl (!(W8 j i 0 j.length 1).isEmpty)) H):=by
 intro c s b H x y v u Q I rx ry h;obtain⟨i,j,rfl,rfl,q⟩:=h;obtain⟨t,rfl⟩:=rx;obtain⟨a,rfl⟩:=ry;exact in_str (rV I q rfl)
theorem Ad:OpR X (Q6 .Is) (λx y H Q=>y=.non/\Q (.bl (decide (x=.non))) H):=by
 intro b s a H x y v u Q I rx ry h;obtain⟨rfl,q⟩:=h;cases ry;refine is_none_gen (rV I q ?_);cases x<;>first
  |(cases rx;rfl)
  |(obtain⟨t,rfl⟩:=rx;rfl)
theorem yP:OpR X (Q6 .IsNot) (λx y H Q=>y=.non/\Q (.bl (!decide (x=.non))) H):=by
 intro b s a H x y v u Q I rx ry h;obtain⟨rfl,q⟩:=h;cases ry;refine isnot_none_gen (rV I q ?_);cases x<;>first
  |(cases rx;rfl)
  |(obtain⟨t,rfl⟩:=rx;rfl)
theorem y8{c:CmpOp}{r:R2}(l:OpR X (Q6 c) r)(ha:PE X a G)(p:PE X b J)(i:ae1 c b=false):PE X (.Compare a [c] [b] pos) (tOp r G J):=by
 intro f s e H Q I h;exact wpAny_Compare1 (Bz ha p I h λv u g x y j m n o q=>l f g e j x y v u Q m n o q) i
def zB(t:TE):TT:=λa H Q=>t a H λx b=>∃k,x=.bl k/\Q k b
theorem y3{j:CmpOp}{r:R2}(A:OpR X (Q6 j) r)(ha:PE X a G)(N:PE X b J)(q:ae1 j b=false):PT X (.Compare a [j] [b] pos) (zB (tOp r G J)):=by
 intro i s g H Q I h;refine wpAny_isTrue_Compare1 (thn (ha i s g H _ I h) λv L f=>f.el λx P M B m=>thn (N i L g P _ M m) λu p f=>f.el λy w C O E =>
  thn (A i p g w x y v u _ C B O E) λc R ⟨z,t,n,o,k,e,l⟩=>?_) q
 subst e;cases o;exact X1 ⟨t,n,l⟩
def Aq(r e:R2)(G J tc:TE):TE:=λa H Q=>G a H λx g=>J a g λy h=>r x y h λz b=>∃k,z=.bl k /\
 (if k=true then tc a b λf c=>e y f c Q else Q (.bl false) b)
theorem xH{l g:CmpOp}{r o:R2}(Z:OpR X (Q6 l) r)(m:OpR X (Q6 g) o)(ha:PE X a G)(O:PE X b J)(Y:PE X c tc)
  (T:lastMarks [l,g] [b,c]=false:=by with_unfolding_all rfl):PE X (.Compare a [l,g] [b,c] pos) (Aq r o G J tc):=by
 intro j s i H Q I h;refine Compare_chain (thn (ha j s i H _ I h) λv s1 f=>f.el λx P I1 r1 R=>chain_link (thn (O j s1 i P _ I1 R) λu B f=>f.el λy E I2 p L =>
  thn (Z j B i E x y v u _ I2 r1 p L) λd M ⟨z,n,t,S,k,e,q⟩=>?_)) T
 subst e;cases S;refine X1 ?_;cases k with
 |false=>exact ite_ff ⟨.bl false,n,t,rfl,q⟩
 |true=>exact ite_tt (chain_last (thn (Y j M i n _ t q) λN s4 ⟨z',A,U,C,w⟩=>m j s4 i A y z' u N Q U p C w))
theorem js:(F2:Nat)<2 ^ 63:=by rw[ak4];decide
theorem rL:OpR X (X9 .Add) (λx y H Q=>∃i j,x=.str i/\y=.str j/\i.length+j.length<=F2/\Q (.str (i++j)) H):=by
 intro e s c H x y v u Q I rx ry h;obtain⟨i,j,rfl,rfl,b,q⟩:=h;obtain⟨t,rfl⟩:=rx;obtain⟨a,rfl⟩:=ry;exact add_str (λa f=>⟨.str (i++j),H,I.tok _,⟨_,rfl⟩,q⟩) b
theorem tG{x:V}{a:List s0}(r:az [x] a):∃u,a=[u]/\aH x u:=by
 cases r with
 |cons c b=>cases b;exact⟨_,rfl,c⟩
theorem xu:dg X (.builtin "abs") (λxs H Q=>∃i,xs=[.int i]/\Q (.int (if i<0 then -i else i)) H):=by
 intro c s a H xs b Q I r h;obtain⟨i,rfl,q⟩:=h;obtain⟨u,rfl,t,rfl⟩:=tG r;exact call_abs_int λu e=>⟨.int (if i<0 then -i else i),H,I.tok _,⟨_,rfl⟩,q⟩
end
theorem uO{v:V}{u:s0}(r:aH v u):PySem.W.handedIn u=true:=by
 cases v with
 |non=>cases(show u=K2 from r);rfl
 |bl b=>cases(show u=ah5 b from r);rfl
 |int i=>obtain⟨t,e⟩:=(show ∃t,u=s0.int i t from r);cases e;rfl
 |str x=>obtain⟨t,e⟩:=(show ∃t,u=am4 x t from r);cases e;rfl
 |byt b=>obtain⟨t,e⟩:=(show ∃t,u=s0.bytes b t from r);cases e;rfl
 |flt b=>obtain⟨t,e⟩:=(show ∃t,u=s0.float b t from r);cases e;rfl
 |ref a=>cases(show u=J4 a from r);rfl
 |ty n=>cases(show u=M7 n from r);rfl
section
variable{X:Cx}{z:List (E9×Obj)}{σ:St}{H:Hp}{s:E3}{a C G:E9}{fs:List (Str×V)}{f:Str}{v:V}{A:L6}{E:s0->E3->Prop}
theorem yO{prog:K3}{w:P4}{env:Env}{e:L7}{f:Str}{pos:Pos}{s:E3}{Q:s0->E3->Prop}(b:W9 e f env (Z1 e env)=Z1 e env)
  (h:H0 (M8 prog w) A (Z1 e env) (λo a=>H0 (M8 prog w) A (getAttr o f true) Q E a) E s):H0 (M8 prog w) A (Z1 (.Attribute e f pos) env) Q E s :=
 Attribute_any_ h (by rw[arm_eval_Attribute,b])
end
structure cg(k:Nat) (A:L6):Prop where
 hd:A.handled=none
 dp:A.depth+3*k+5<recursionLimit
 un:A.units+16*k+200<ai7
theorem cg.mono{j k:Nat}{A:L6}(r:cg k A)(h:j<=k):cg j A:=⟨r.hd,by have:=r.dp;lia,by have:=r.un;lia⟩
theorem cg.deeper{k:Nat}{A:L6}(r:cg (k+1) A)(env:Env):cg k (A.deeper env) :=
 ⟨r.hd,by have:=r.dp;show A.depth+1+3*k+5<_;lia,by have:=r.un;show A.units+3+16*k+200<_;lia⟩
theorem sj{A:L6}{C:E9}{a:List s0}{kw:List (Str×s0)}:(A.under (.builtin "type.__call__" ⟨.ref C::a,kw⟩)).depth=A.depth+1:=by
 first|rfl|simp[L6.under,aq9.weight,aq9.isCreation,aq9.isGuard,aq9.isCaller,aq9.frames,aq9.isFrame,guardIds]
theorem sA{A:L6}{C:E9}{a:List s0}{kw:List (Str×s0)}:(A.under (.builtin "type.__call__" ⟨.ref C::a,kw⟩)).units=A.units+1:=by
 first|rfl|simp[L6.under,aq9.cUnits,aq9.frames,aq9.isFrame]
theorem cg.make{k:Nat}{A:L6}(r:cg (k+1) A)(C:E9)(a:List s0)(kw:List (Str×s0)):cg k (A.under (.builtin "type.__call__" ⟨.ref C::a,kw⟩)) :=
 ⟨r.hd,by have:=r.dp;rw[sj];lia,by have:=r.un;rw[sA];lia⟩
theorem cg.depth{k:Nat}{A:L6}(r:cg k A):A.depth<recursionLimit:=by have:=r.dp;lia
theorem cg.units{k:Nat}{A:L6}(r:cg k A):A.units+64<ai7:=by have:=r.un;lia
def BS:TA:=λ_ H Q=>Q [] H
def uw(b:TE)(e:TA):TA:=λa H Q=>b a H λx g=>e a g λc f=>Q (x::c) f
section
variable{X:Cx}{e:L7}{G:List L7}{te:TE}{t:TA}{pos:Pos}
theorem fH:PA X [] BS:=λ_ _ _ _ H Q I h=>X3 ⟨[],H,I,.nil,h⟩
theorem cu(ha:PE X e te)(hr:PA X G t)(hs:F0 (e::G) X.env=(false,Z1 e X.env)::F0 G X.env:=by rfl):PA X (e::G) (uw te t):=by
 intro pos c s b H Q I h;rw[hs];show H0 _ _ (ap0 ((false,Z1 e X.env)::U4 pos (F0 G X.env))) _ _ s;refine W7 (thn (ha c s b H _ I h) λu n a=>a.el λx q o i f=>?_);exact thn (hr pos c n b q _ o f) λw z a=>a.el λg j l p m=>⟨x::g,j,l,.cons i p,m⟩
def Eg(t:TA):TE:=λc H Q=>t c H λa b=>a.length<=F2/\∀p,b p=none->Q (.ref p) (upd b p (.tup a))
def Eo(t:TA):TE:=λc H Q=>t c H λa b=>a.length<=F2/\∀p,b p=none->Q (.ref p) (upd b p (.lst a))
theorem Bm{x1}(h:PA X G t):PE X (.Tuple G x1 pos) (Eg t):=by
 intro l s g H Q I j;refine wpAny_Tuple_spliced (thn (h pos l s g H _ I j) λn a ⟨i,c,f,r,z,q⟩=>⟨by rw[<-r.length];exact z,?_⟩);have m:c a.heap.objs.size=none:=f.hok.fresh (F3 _);refine⟨.ref a.heap.objs.size,upd c a.heap.objs.size (.tup i),f.laid (t':=a.toks) (λb u e=>E2 _ e) (F3 _) ?_,rfl,q _ m⟩;exact⟨z,n,r,⟨_,F6 _ rfl,rfl,⟨_,rfl⟩,rfl⟩⟩
theorem vv(h:PA X G t):PE X (.List G pos) (Eo t):=by
 intro l s g H Q I j;refine wpAny_List_spliced (thn (h pos l s g H _ I j) λn a ⟨i,c,f,r,z,q⟩=>⟨by rw[<-r.length];exact z,?_⟩);have m:c a.heap.objs.size=none:=f.hok.fresh (F3 _);refine⟨.ref a.heap.objs.size,upd c a.heap.objs.size (.lst i),f.laid (t':=a.toks) (λb u e=>E2 _ e) (F3 _) ?_,rfl,q _ m⟩;exact⟨z,n,0,r,F6 _ rfl⟩
end
abbrev Sp:=List V->Hp->VK->XK->Prop
abbrev CXT:=List Env->Hp->E3->XK->s0->E3->Prop
structure rC(P:K3) (w:P4) (K:u8) (mg:Str->Option s0) (base:K0) (A:L6) (outer:List Env) (s:E3) (H:Hp):Prop where
 frames:A.frames=some outer
 mod:Mod K mg base
 bs:∀b o,base.get? b=some o->s.heap.get? b=some o/\H b=none
 bsz:base.objs.size<=s.heap.objs.size
 funs:s.heap.FunFrames base outer
 frf:∀b∈frs outer,H b=none
 hok:HOk P w H s.heap
 bare:aj1 s.gens
def CE(a:List Env)(P:K3)(w:P4)(H:Hp)(s:E3)(Q:VK)(u:s0)(s':E3):Prop :=
 ∃v b,s'.os=s.os/\aj1 s'.gens/\Un (frs a) [] H b s.heap s'.heap/\HOk P w b s'.heap/\aH v u/\Q v b
def CR(CX:CXT)(a:List Env)(P:K3)(w:P4)(H:Hp)(s:E3)(Q:VK)(E:XK)(r:ar0)(s':E3):Prop :=
 match r with
 |.ok (.ret u)=>CE a P w H s Q u s'
 |.ok _=>False
 |.error e=>CX a H s E e s'
structure aO(P:K3) (w:P4) (K:u8) (mg:Str->Option s0) (base:K0) (CX:CXT) (k:Nat) (f:E9) (fd:J7) (ps:List Str) (sp:Sp):Prop where
 len:∀vs H Q E,sp vs H Q E->vs.length=ps.length
 run:∀(A:L6) (outer:List Env) (s:E3) (H:Hp) (args:Args) (us:List s0) (vs:List V) (Q:VK) (E:XK),cg k A->rC P w K mg base A outer s H->ap1 s fd args (ps.zip us)->az vs us->sp vs H Q E ->
  am0 (M8 P w) A (.call (.ref f) args) (CR CX outer P w H s Q E) s
theorem rC.make{P:K3}{w:P4}{K:u8}{b:Str->Option s0}{base:K0}{A:L6}{a:List Env}{s:E3}{H:Hp}(e:rC P w K b base A a s H)(C:E9)(c:List s0)(kw:List (Str×s0)):
  rC P w K b base (A.under (.builtin "type.__call__" ⟨.ref C::c,kw⟩)) a s H:=⟨by first|exact e.frames|(simpa[L6.under,aq9.envs,aq9.isFrame,pushEnvs]using e.frames),e.mod,e.bs,e.bsz,e.funs,e.frf,e.hok,e.bare⟩
section
variable{X:Cx}{G:List (E9×Obj)}{σ:St}{H:Hp}{s s':E3}
theorem Inv.env0(I:Inv X G σ H s):rC X.prog X.w X.K X.mg X.base X.A X.stack s H :=
 ⟨I.ok.frames,I.ok.mod,I.bs,L5 I.ok.bsz I.sz,I.stack,I.stkFree,I.hok,I.bare⟩
theorem Inv.after{Q:VK}{u:s0}(I:Inv X G σ H s)(h:CE X.stack X.prog X.w H s Q u s'):EP X G σ Q u s':=by
 obtain⟨v,i,os,a,un,c,r,q⟩:=h;obtain⟨f,g,d,t,e⟩:=s';obtain rfl:e=s.os:=os;exact⟨v,i,I.call (h':=f) (g':=g) (d':=d) (t':=t) (ch:=[]) un c a (λb z=>absurd z (by simp)),r,q⟩
end
def CT(sp:Sp)(a:List V)(E:XK)(t:TA):TE:=λb H Q=>t b H λc e=>sp (c++a) e Q E
def cY(K:u8)(b:J7)(ps:List Str)(ds:List s0):Prop :=
 ∀(s:E3) (a:List s0),K.In s.heap->(a++ds).length=ps.length->ap1 s b ⟨a,[]⟩ (ps.zip (a++ds))
theorem cY.all{K:u8}{c:J7}{ps:List Str}(h:∀a:List s0,a.length=ps.length->bindArgs c ⟨a,[]⟩=ae6 (ps.zip a)):cY K c ps []:=λs a _ b=>by
 rw[ab4]at b ⊢;exact .of_eq (h a b)
def rG(CX:CXT)(X:Cx)(E:XK):Prop:=∀(c:List (E9×Obj)) (b:St) (H:Hp) (s:E3) (e:s0) (a:E3),Inv X c b H s->CX X.stack H s E e a->X.xe e a
section
variable{X:Cx}{CX:CXT}{k:Nat}{f C:E9}{J:J7}{ps:List Str}{sp:Sp}{z:List V}{ds:List s0}{E:XK}{x m:Str}{p pos O:Pos}{e o:L7}{G:List L7}{Y:TE}{t:TA}
theorem A9{g:List (E9×Obj)}{σ:St}{H:Hp}{s:E3}{Q:VK}{a:List s0}{c:List V}(F:aO X.prog X.w X.K X.mg X.base CX k f J ps sp)(hr:cg k X.A)(l:cY X.K J ps ds)(m:az z ds)(p:rG CX X E)
  (I:Inv X g σ H s) (r:az c a) (h:sp (c++z) H Q E):H0 (M8 X.prog X.w) X.A (aq8 (.ref f) a) (EP X g σ Q) X.xe s:=by
 have i:az (c++z) (a++ds):=r.append m;have n:(a++ds).length=ps.length:=by rw[<-i.length];exact F.len _ _ _ _ h
 refine ad1 (V8 (F.run X.A X.stack s H ⟨a,[]⟩ (a++ds) (c++z) Q E hr I.env0 (l s a I.kIn n) i h) λr o b=>?_);cases r with
 |error e=>exact p g σ H s e o I b
 |ok j =>
  cases j with
  |ret u=>exact I.after b
  |next=>exact T7 b
  |brk=>exact T7 b
  |cont=>exact T7 b
theorem yr(F:aO X.prog X.w X.K X.mg X.base CX k f J ps sp)(hr:cg k X.A)(hg:Gl X x)(m:X.mg x=some (.ref f))(l:U9 X.K (.ref f)=true)(i:cY X.K J ps ds)(j:az z ds)(n:rG CX X E)
  (ha:PA X (e::G) t) (hdb:(x==("__debug__":Str))=false:=by decide) (he:F0 (e::G) X.env=(false,Z1 e X.env)::F0 G X.env:=by rfl) (hpl:(U4 pos (F0 G X.env)).any (·.1)=false:=by rfl) :
  PE X (.Call (.Name x p) (e::G) [] pos) (CT sp z E t):=by
 intro g s c H Q I h;refine S5 (jd I hg m ?_ hdb);refine PySem.W.callWith_K (h₀:=X.base) I.ok.mod.kin l (thn (ha pos g s c H _ I h) λu A a=>a.el λw o b r q=>⟨b.kIn,?_⟩) he hpl;exact A9 F hr i j n b r q
end
structure au(N P:List Str) (sc:ae7):Prop where
 kind:sc.kind=.function
 co:sc.isCoroutine=false
 gen:sc.isGenerator=false
 nd:N.Nodup
 pre:N.take P.length=P
 par:∀x∈P,sc.names.lookup x=some .local∨sc.names.lookup x=some .cell
 nofree:∀y∈sc.names,y.2≠.free
theorem nE{al6:Str->Option S8}{x:Str}:∀{binds:List (Str×s0)}{m:Str->Option s0},(∀v,(x,v)∉binds)->bindL al6 binds m x=m x
 |[],_,_=>rfl
 |(n,v)::r,m,h=>by
  unfold bindL;rw[nE λw a=>h w (I0 _ a)]
  split
  ·have:x≠n:=by rintro rfl;exact h v R0
   simp[this]
  ·rfl
theorem mY{al6:Str->Option S8}{x:Str}:∀{binds:List (Str×s0)}{m:Str->Option s0},(∀v,(x,v)∉binds)->bindC al6 binds m x=m x
 |[],_,_=>rfl
 |(n,v)::r,m,h=>by
  unfold bindC;rw[mY λw a=>h w (I0 _ a)]
  split
  ·rfl
  ·have:x≠n:=by rintro rfl;exact h v R0
   simp[this]
theorem ng{al6:Str->Option S8}{x:Str}{v:s0}:∀{P:List Str}{a:List s0}{i:Nat}{m:Str->Option s0},P.Nodup->P[i]?=some x->a[i]?=some v->al6 x=some .local ->
  bindL al6 (P.zip a) m x=some v
 |[],_,_,_,_,h,_,_=>by simp at h
 |_::_,[],_,_,_,_,h,_=>by simp at h
 |p::P,w::a,0,m,f,b,c,e=>by
  simp at b c;subst b;subst c;show bindL al6 ((p,w)::P.zip a) m p=_;unfold bindL;rw[nE λv g=>(ag5.mp f).1 (List.of_mem_zip g).1,if_pos e];simp
 |p::P,w::a,i+1,m,f,b,c,e=>by
  show bindL al6 ((p,w)::P.zip a) m x=_;unfold bindL;exact ng (i:=i) (ag5.mp f).2 (by simpa using b) (by simpa using c) e
theorem nB{al6:Str->Option S8}{x:Str}{v:s0}:∀{P:List Str}{a:List s0}{i:Nat}{m:Str->Option s0},P.Nodup->P[i]?=some x->a[i]?=some v->al6 x≠some .local ->
  bindC al6 (P.zip a) m x=some v
 |[],_,_,_,_,h,_,_=>by simp at h
 |_::_,[],_,_,_,_,h,_=>by simp at h
 |p::P,w::a,0,m,f,b,c,e=>by
  simp at b c;subst b;subst c;show bindC al6 ((p,w)::P.zip a) m p=_;unfold bindC;rw[mY λv g=>(ag5.mp f).1 (List.of_mem_zip g).1,if_neg e];simp
 |p::P,w::a,i+1,m,f,b,c,e=>by
  show bindC al6 ((p,w)::P.zip a) m x=_;unfold bindC;exact nB (i:=i) (ag5.mp f).2 (by simpa using b) (by simpa using c) e
def fO(N:List Str)(a:List V):St:=a.map some++E5 (N.length-a.length) none
def kL(CX:CXT)(P:K3)(w:P4)(K:u8)(h:Str->Option s0)(base:K0)(N:List Str)(c:Str)(a:ae7)(f:E9)(cd:s0)(A:L6)(b:List Env)(s:E3)(H:Hp)(E:XK):Cx where
 prog:=P
 w:=w
 K:=K
 mg:=h
 base:=base
 A:=A.deeper (ag6 c a s.heap.objs.size f cd)
 N:=N
 s₀:=s
 H₀:=H
 env:=ag6 c a s.heap.objs.size f cd
 outer:=b
 stack:=ag6 c a s.heap.objs.size f cd::b
 ex:=[]
 calm:=true
 fn:=λ_=>true
 pn:=[]
 xe:=λe j=>H0 (M8 P w) (A.deeper (ag6 c a s.heap.objs.size f cd)) (leaving (ag6 c a s.heap.objs.size f cd) e) (λ_ g=>CX b H s E e g) (λi g=>CX b H s E i g) j
theorem pK{a:ae7}{n:Nat}{x:Str}(h:a.names.lookup x=some .cell):∃c,(aq0 n a.names []).lookup x=some c:=by
 have q:=PySem.W.cellsFrom_some a.names n [] (.inl h);exact U7.mp q
theorem u4{CX:CXT}{P:K3}{w:P4}{K:u8}{O:Str->Option s0}{base:K0}{N ps:List Str}{l:Str}{g:ae7}{f:E9}{cd:s0}{A:L6}{j:List Env}{s T:E3}{H:Hp}{E:XK}{M:List s0}{C:List V}
  (S:au N ps g) (Z:A.handled=none) (o:rC P w K O base A j s H) (hl:C.length=ps.length) (r:az C M)
  (x:InCallC s s.heap.objs.size (bindL (ag6 l g s.heap.objs.size f cd).kindOf (ps.zip M) λ_=>none) (aq0 (s.heap.objs.size+1) g.names []) (bindC (ag6 l g s.heap.objs.size f cd).kindOf (ps.zip M) λ_=>none) T) :
  Inv (kL CX P w K O base N l g f cd A j s H E) [] (fO N C) H T:=by
 have U:ps.length<=N.length:=by have:=congrArg ak5 S.pre;rw[P6]at this;lia
 obtain⟨J,tk,rfl,Q⟩:=x.done;have B:∀b:E9,b∉(kL CX P w K O base N l g f cd A j s H E).ex:=λb z=>absurd (show b∈([]:List E9)from z) (by simp);refine⟨⟨o.mod,S.kind,rfl,rfl,F3 _,λy z c J m=>?_,λy t=>?_,λy c _ h=>?_,λ_=>Z,L6.frames_deeper o.frames,.inr ⟨rfl,rfl⟩,λb z=>absurd z (B b),o.bs,o.bsz,λb _ _=>B b,λb z=>absurd z (B b),o.funs,o.frf⟩,
  rfl,o.bare,Un.kept Q,⟨_,x.toInCall.ns,λi y v J m h3=>?_⟩,λy c h=>⟨_,x.cell y c h⟩,o.hok.fresh (F3 _),λy c h=>?_,λp I=>absurd (show p∈([]:List (E9×Obj))from I) (by simp),o.hok.kept Q,?_⟩
 ·exact name_of_addr x.apart (S9 J) (S9 m)
 ·have t:g.names.lookup y=some .cell∨g.names.lookup y=some .free:=t;rcases t with t|t
  ·exact pK t
  ·exact absurd rfl (S.nofree _ (S9 t))
 ·exact al4 (x.above y c (S9 h))
 ·have L:i<C.length:=by
   unfold fO at m
   by_cases L:i<C.length
   ·exact L
   ·rw[P5 (by simpa using L)]at m;rw[ac2]at m
    split at m<;>cases m
  have X:C[i]?=some v:=by
   unfold fO at m;rw[O0 (by simpa using L),K8]at m;cases e:C[i]? with
   |none=>rw[e]at m;cases m
   |some a=>rw[e]at m;cases m;rfl
  obtain⟨u,R,Y⟩:=r.get X;have I:ps[i]?=some y:=by
   rw[<-S.pre,S6 (by lia)];exact J
  have G:ps.Nodup:=by rw[<-S.pre];exact S.nd.sublist (List.take_sublist _ _)
  refine⟨u,Y,?_⟩;rcases S.par y (O4 I)with k|k
  ·exact .inl ⟨k,ng G I R k⟩
  ·obtain⟨c,e⟩:=pK (n:=s.heap.objs.size+1) k;refine .inr ⟨.inl k,c,e,?_⟩;have q:=x.cell y c e;rw[nB G I R (by show g.names.lookup y≠_;rw[k];decide)]at q;exact q
 ·exact o.hok.fresh (al4 (x.above y c (S9 h)))
 ·unfold fO;show _=N.length;rw[E8,E4,N6]
  lia
theorem zy{CX:CXT}{P:K3}{w:P4}{K:u8}{R:Str->Option s0}{base:K0}{k:Nat}{f:E9}{name g:Str}{i:Arguments}{j:List X5}{a:ae7}{dV kV L pm h ct oc:s0}{an od:Option E9}
  {Y:Array (Option s0)} {N ps:List Str} {sp:Sp} (lk:K.lookup f=some ⟨oc,od,.func (Z9 name g i j a dV kV L pm an h ct),Y⟩) (U:ad2 K h g=true) (S:au N ps a)
  (len:∀l H Q E,sp l H Q E->l.length=ps.length)
  (B:∀ (A:L6) (c:List Env) (s:E3) (H:Hp) (l:List V) (Q:VK) (E:XK),cg k (A.deeper (ag6 g a s.heap.objs.size f h)) → sp l H Q E →
   ∃t,PSs (kL CX P w K R base N g a f h A c s H E) j t/\t { nx:=λ_ p=>Q .non p,rt:=Q } (fO N l) H) :
  aO P w K R base CX (k+1) f (Z9 name g i j a dV kV L pm an h ct) ps sp:=by
 refine⟨len,λA c s H a0 us l Q E X O hb r G=>?_⟩;have hl:=len _ _ _ _ G;have KX:K.In s.heap:=O.mod.kin.keeps λb o e=>(O.bs b o e).1;have T:s.heap.NoLimit:=O.mod.nolimit.keeps λb o e=>(O.bs b o e).1;have z:∀y∈ps.zip us,a.names.lookup y.1=some .local∨(a.names.lookup y.1=some .cell/\((aq0 (s.heap.objs.size+1) a.names []).lookup y.1).isSome=true):=λ⟨n,v⟩ hy=>by
  rcases S.par n (List.of_mem_zip hy).1 with q|q
  ·exact .inl q
  ·exact .inr ⟨q,PySem.W.cellsFrom_some _ _ _ (.inl q)⟩
 refine codeAny_call_function X.depth (KX _ _ lk) rfl S.co S.gen rfl (PySem.W.codeRec_of KX U) (hb _ _ _ _ ?_);refine wpAny_newFunctionEnv_cells S.kind z λa1 he s1 x=>?_;subst he;refine⟨T.keeps x.toInCall.keep,codeAny_func ?_⟩;obtain⟨t,ht,hq⟩:=B A c s H l Q E (X.deeper _) G;have I:Inv (kL CX P w K R base N g a f h A c s H E) [] (fO N l) H s1:=u4 S X.hd O hl r x;refine Q5 (ht [] s1 (fO N l) H _ I hq) (λfl s' C=>?_) λe s' C=>C;have M:∀{m:St} {p:Hp} {v:V} {u:s0},Inv (kL CX P w K R base N g a f h A c s H E) [] m p s'->aH v u->Q v p->CE c P w H s Q u s' :=
  λ{m p v u} J Z q=>⟨v,p,J.os,J.bare,J.base,J.hok,Z,q⟩
 cases fl with
 |ret u =>
  obtain⟨v,m,p,J,Z,q⟩:=C;exact M J Z q
 |next =>
  obtain⟨m,p,J,q⟩:=C;exact M (v:=V.non) (u:=K2) J rfl q
 |brk =>
  obtain⟨_,_,_,q⟩:=C;exact T7 q
 |cont =>
  obtain⟨_,_,_,q⟩:=C;exact T7 q
section
variable{X:Cx}{x:Str}{p pos:Pos}{e:L7}{z:List L7}{t:TA}{id T:String}{r:List V->Hp->VK->Prop}
def tCB(r:List V->Hp->VK->Prop)(t:TA):TE:=λa H Q=>t a H λb c=>r b c Q
theorem qA(n:dg X (.builtin id) r)(hg:Gl X x)(l:X.mg x=none)(f:Z8 x=some (.builtin id))(ha:PA X (e::z) t)(hn:x≠"__name__":=by decide)(hdb:(x==("__debug__":Str))=false:=by decide)
  (he:F0 (e::z) X.env=(false,Z1 e X.env)::F0 z X.env:=by rfl) (hpl:(U4 pos (F0 z X.env)).any (·.1)=false:=by rfl):PE X (.Call (.Name x p) (e::z) [] pos) (tCB r t):=by
 intro c s b H Q I h;refine S5 (eh I hg l f ?_ hn hdb);exact W4 (thn (ha pos c s b H _ I h) λj q a=>a.el λm g u o i=>n c q b g m j Q u o i) he hpl
theorem u7(n:dg X (.type T) r)(hg:Gl X x)(l:X.mg x=none)(f:Z8 x=some (.type T))(ha:PA X (e::z) t)(hn:x≠"__name__":=by decide)(hdb:(x==("__debug__":Str))=false:=by decide)
  (he:F0 (e::z) X.env=(false,Z1 e X.env)::F0 z X.env:=by rfl) (hpl:(U4 pos (F0 z X.env)).any (·.1)=false:=by rfl):PE X (.Call (.Name x p) (e::z) [] pos) (tCB r t):=by
 intro c s b H Q I h;refine S5 (eh I hg l f ?_ hn hdb);exact V0 (thn (ha pos c s b H _ I h) λj q a=>a.el λm g u o i=>n c q b g m j Q u o i) he hpl
end
end L2
namespace HT
open PySem PyProof.Rows
section
open PySem.SeqAt
open PySem.AutoSeq1 (wpAny_loadPart')
open PySem.MeetsSeq PySem.MeetsSeq2 PySem.MeetsSeq3
end
section
variable{prog:K3}{w:P4}{A:L6}{E:s0->E3->Prop}{s:E3}
theorem cat_tup{t b:E9}{f a:List s0}{Q:s0->E3->Prop}(H:an4 s.heap t f.toArray)(I:an4 s.heap b a.toArray)(q:f≠[])
  (C:a=[]->Q (.ref t) s) (G:a≠[]->Q (.ref s.heap.objs.size) { s with heap:=s.heap.push { cls:=.type "tuple",data:=.seq (f++a).toArray } })
  (hsz:f.length+a.length<=F2):H0 (M8 prog w) A (X9 .Add (.ref t) (.ref b)) Q E s:=by
 obtain⟨⟨cls,o,data,B⟩,m,x,n,u⟩:=id H;obtain⟨⟨p,h,data2,i⟩,c,j,z,g⟩:=id I;simp only at x u j g;subst x u j g;have e:f.toArray++a.toArray=(f++a).toArray:=by simp
 by_cases l:a=[]
 ·exact concat_meets ⟨_,m,rfl⟩ ⟨_,c,rfl⟩ noFill_tuple_add seq_tuple_add PySem.F.slot_tuple_add PySem.F.entry_tuple_add (PySem.F.args_tuple_add_2 _ _)
   (tuple_addW1 t b f.toArray a.toArray n z o h B i (by simpa using q) (by simp[l])) ⟨m,c,C l⟩
 ·refine concat_meets ⟨_,m,rfl⟩ ⟨_,c,rfl⟩ noFill_tuple_add seq_tuple_add PySem.F.slot_tuple_add PySem.F.entry_tuple_add (PySem.F.args_tuple_add_2 _ _)
   (tuple_addW2 t b f.toArray a.toArray n z o h B i (by simpa using q) (by simpa using l) (by rw[F7,F7];exact hsz)) ⟨m,c,?_⟩
  rw[e];exact G l
def sIx(n d:Nat):Option Int->Nat
 |none=>d
 |some v=>if v<0 then(v+(n:Int)).toNat else min v.toNat n
theorem sIx_none(n d:Nat):sIx n d none=d:=rfl
theorem sIx_nat(n d k:Nat):sIx n d (some (k:Int))=min k n:=by
 show(if(k:Int)<0 then((k:Int)+(n:Int)).toNat else min (k:Int).toNat n)=min k n;rw[if_neg (by lia),ab6]
theorem Ao(n d:Nat)(b:d<=n)(o:Option Int):sIx n d o<=n:=by
 cases o with
 |none=>exact b
 |some v =>
  show(if v<0 then(v+(n:Int)).toNat else min v.toNat n)<=n
  by_cases a:v<0
  ·rw[if_pos a];lia
  ·rw[if_neg a];exact Nat.min_le_right _ _
theorem tN(v:Int)(n d:Nat):(if v<0 then max (v+(n:Int)) 0 else min v (n:Int))=((sIx n d (some v):Nat):Int):=by
 show(if v<0 then max (v+(n:Int)) 0 else min v (n:Int))=(((if v<0 then(v+(n:Int)).toNat else min v.toNat n):Nat):Int)
 by_cases a:v<0
 ·simp only[if_pos a];lia
 ·simp only[if_neg a];lia
theorem so(lo a:Option Int)(n:Nat):K6.Slice.sliceAdjust lo a 1 (n:Int)=(((sIx n 0 lo:Nat):Int),((sIx n n a:Nat):Int)):=by
 have b:¬ ((1:Int)<0):=by lia
 unfold K6.Slice.sliceAdjust;simp only[b,if_false];refine Prod.ext ?_ ?_
 ·cases lo with
  |none=>rfl
  |some v=>exact tN v n 0
 ·cases a with
  |none=>rfl
  |some v=>exact tN v n n
theorem sf(i j:Nat):aa5 (i:Int) (j:Int) 1=j-i:=by
 unfold aa5;have a:(1:Int) > 0:=by lia
 simp only[a,if_true,Int.ediv_one]
 split<;>lia
theorem lb{v:s0}{o:Option Int}{Q:Option Int->E3->Prop}(p:ao7 v o)(h:Q o s):H0 (M8 prog w) A (K6.Slice.slicePartIndex v) Q E s:=by
 cases p with
 |none=>exact slicePart_none h
 |int i t=>exact slicePart_int h
theorem eR{g:E9}{e f:s0}{lo c:Option Int}{n:Nat}{Q:Int×Int×Nat->E3->Prop}(hs:s.heap.IsSliceOf g e f .none)(pl:ao7 e lo)(i:ao7 f c)
  (h:Q (((sIx n 0 lo:Nat):Int),1,sIx n n c-sIx n 0 lo) s):H0 (M8 prog w) A (K6.Slice.sliceApplied (.ref g) (ae6 (n:Int))) Q E s:=by
 obtain⟨os,a,j,b⟩:=id hs;unfold K6.Slice.sliceApplied K6.Slice.sliceFields;refine o0 (o0 (ac3 a b (x:=e) rfl (o0 (ac3 a b (x:=f) rfl (o0 (ac3 a b (x:=.none) rfl (E1 ?_)))))));refine o0 (slicePart_none ?_);show H0 _ _ (if((1:Int)==0)=true then _ else _) _ _ s;rw[if_neg (by decide)];refine o0 (lb pl (o0 (lb i (o0 (E1 ?_)))));show H0 _ _ (match K6.Slice.sliceAdjust lo c 1 (n:Int)with|(lo,c)=>ae6 (lo,(1:Int),aa5 lo c 1)) _ _ s;rw[so lo c n];show H0 _ _ (ae6 (((sIx n 0 lo:Nat):Int),(1:Int),aa5 ((sIx n 0 lo:Nat):Int) ((sIx n n c:Nat):Int) 1)) _ _ s;rw[sf];exact E1 h
theorem vX(xs:Array s0)(i k:Nat):((T6 k).filterMap λ(m:Nat)=>xs[((i:Int)+(m:Int)*1).toNat]?).toArray=((xs.toList.drop i).take k).toArray:=by
 have e:(λ(m:Nat)=>xs[((i:Int)+(m:Int)*1).toNat]?)=λm=>xs[i+m]?:=by
  funext m;have:((i:Int)+(m:Int)*1).toNat=i+m:=by lia
  rw[this]
 rw[e];have:=pick_run xs i k;rw[List.filterMap_map]at this;have a:((λx=>xs[x]?)∘λx=>i+x)=λm=>xs[i+m]?:=rfl;rw[a]at this;rw[this]
theorem getItem_tuple_cut{t l:E9}{a:Array s0}{n o:s0}{lo c:Option Int}{Q:s0->E3->Prop}(e:an4 s.heap t a)(hs:s.heap.IsSliceOf l n o .none)(pl:ao7 n lo)(x:ao7 o c)
  (p:¬ (sIx a.size 0 lo=0/\sIx a.size a.size c=a.size))
  (h:Q (.ref s.heap.objs.size) { s with heap:=s.heap.push { cls:=.type "tuple",data:=.seq ((a.toList.drop (sIx a.size 0 lo)).take (sIx a.size a.size c-sIx a.size 0 lo)).toArray } })
  (hsz:a.size<=F2):H0 (M8 prog w) A (ap2 (.ref t) (.ref l)) Q E s:=by
 have b:sizeOk (.seq ((a.toList.drop (sIx a.size 0 lo)).take (sIx a.size a.size c-sIx a.size 0 lo)).toArray):=by
  show((a.toList.drop (sIx a.size 0 lo)).take (sIx a.size a.size c-sIx a.size 0 lo)).toArray.size<=F2;rw[F7,P6,aj2,K4]
  lia
 have B:sIx a.size a.size c<=a.size:=Ao _ _ (F3 _) c;obtain⟨os,f,j,u⟩:=id hs;have i:s.TypeIs (.ref l) "slice":=⟨os,f,j⟩;unfold ap2
 try with_reducible refine O5 ?_
 first|refine o0 (E1 ?_)|skip
 refine o0 (wpAny_sequenceKey e.typeIs (by decide) ?_);refine o0 (ac4 (name:=J5 "__getitem__") e.typeIs Q7
  (ae9 Q7 e.typeIs entry_tuple_getitem ?_ (args_tuple_getitem _ _)))
 show H0 _ _ (Z3 (.ref t) >>= _) _ _ s;refine o0 (tupleItemsOf_ e ?_);refine o0 (al7 i ?_);rw[if_pos (by decide)];refine o0 (eR hs pl x ?_);have g:¬ ((((sIx a.size 0 lo:Nat):Int)==0&&(1:Int)==1&&(sIx a.size a.size c-sIx a.size 0 lo)==a.size)=true):=by
  intro q;rw[F1,F1]at q;have C:((sIx a.size 0 lo:Nat):Int)=0:=eq_of_beq q.1.1;have z:sIx a.size a.size c-sIx a.size 0 lo=a.size:=eq_of_beq q.2;exact p ⟨by lia,by lia⟩
 show H0 _ _ (if(((sIx a.size 0 lo:Nat):Int)==0&&(1:Int)==1&&(sIx a.size a.size c-sIx a.size 0 lo)==a.size)=true then _ else _) _ _ s;rw[if_neg g,vX]
 first
  |exact o0 (m:=S7 _) (U8 (E1 ⟨_,rfl,E1 h⟩) b)
  |exact o0 (m:=S7 _) (U8 (o0 (E1 (E1 ⟨_,rfl,E1 h⟩))) b)
  |exact o0 (o0 (m:=S7 _) (U8 (E1 (E1 ⟨_,rfl,E1 h⟩)) b))
  |exact o0 (o0 (m:=S7 _) (U8 (E1 ⟨_,rfl,E1 h⟩) b))
end
end HT
namespace L2
open PySem PySem.Spec PyProof.Rows
abbrev TO:=St->Hp->(Option Int->Hp->Prop)->Prop
def PO(X:Cx)(e:Option L7)(t:TO):Prop :=
 ∀(b:List (E9×Obj)) (s:E3) (a:St) (H:Hp) (Q:Option Int->Hp->Prop),Inv X b a H s->t a H Q ->
  H0 (M8 X.prog X.w) X.A (evalPart e X.env) (λu f=>∃o c,Inv X b a c f/\ao7 u o/\Q o c) X.xe s
def y4:TO:=λ_ H Q=>Q none H
def DD(t:TE):TO:=λa H Q=>t a H λx b=>∃i,x=.int i/\Q (some i) b
section
variable{X:Cx}{e:L7}{te:TE}{lo G:Option L7}{J O:TO}{pos Y:Pos}
theorem yg:PO X none y4:=by
 intro b s a H Q I h;rw[evalPart_none];exact E1 ⟨none,H,I,.none,h⟩
theorem zj(h:PE X e te):PO X (some e) (DD te):=by
 intro f s b H Q I c;rw[evalPart_some];refine thn (h f s b H _ I c) λu n a=>a.el λx g m l j=>?_;obtain⟨i,rfl,q⟩:=j;obtain⟨t,rfl⟩:=l;exact⟨some i,g,m,.int i t,q⟩
def SlR(X:Cx)(r:V->Option Int->Option Int->Hp->VK->Prop):Prop :=
 ∀(b:List (E9×Obj)) (s:E3) (a:St) (H:Hp) (x:V) (v vl vu:s0) (lo G:Option Int) (c:E9) (Q:VK),Inv X b a H s->aH x v->s.heap.IsSliceOf c vl vu .none->ao7 vl lo->ao7 vu G->r x lo G H Q ->
  ∃T id,typeLookup (.type T) "__getitem__"=ae6 (some (.builtin id))/\s.TypeIs v T/\H0 (M8 X.prog X.w) X.A (ap2 v (.ref c)) (EP X b a Q) X.xe s
theorem SlR.or{r b:V->Option Int->Option Int->Hp->VK->Prop}(h:SlR X r)(h':SlR X b):SlR X (λx lo G H Q=>r x lo G H Q∨b x lo G H Q):=by
 intro c s a H x v vl vu lo G sl Q I rx hs pl pu q;rcases q with q|q
 ·exact h c s a H x v vl vu lo G sl Q I rx hs pl pu q
 ·exact h' c s a H x v vl vu lo G sl Q I rx hs pl pu q
def tSl(r:V->Option Int->Option Int->Hp->VK->Prop)(te:TE)(J O:TO):TE:=λa H Q=>te a H λx c=>J a c λl e=>O a e λu b=>r x l u b Q
theorem xh{r:V->Option Int->Option Int->Hp->VK->Prop}(hr:SlR X r)(he:PE X e te)(E:PO X lo J)(U:PO X G O):PE X (.Subscript e (.Slice lo G none Y) pos) (tSl r te J O):=by
 intro g s f H Q I h;refine Subscript_ (thn (he g s f H _ I h) λv s1 m=>m.el λx w N L A=>?_);refine wpAny_Slice (thn (E g s1 f w _ N A) λj o ⟨l,R,I2,P,p⟩=>thn (U g o f R _ I2 p) λi a ⟨u,n,S,B,z⟩=>?_);rw[evalPart_none];refine E1 ?_;have Z:Inv X g f n { a with heap:=a.heap.push { cls:=.type "slice",data:=.fields #[j,i,.none] } }:=S.kept (t':=a.toks) λb ob q=>E2 _ q;obtain⟨T,id,C,t,M⟩:=hr g { a with heap:=a.heap.push { cls:=.type "slice",data:=.fields #[j,i,.none] } } f n x v j i l u a.heap.objs.size Q Z L (K0.IsSliceOf.new ..) P B z;show H0 (M8 X.prog X.w) X.A (subscriptTail e (.Slice lo G none Y) v (.ref a.heap.objs.size)) (EP X g f Q) X.xe { a with heap:=a.heap.push { cls:=.type "slice",data:=.fields #[j,i,.none] } };exact tail_any (ops:=[.ref a.heap.objs.size,v]) t C M (by with_unfolding_all rfl)
def oZ(xs:List V)(lo G:Option Int):List V:=(xs.drop (HT.sIx xs.length 0 lo)).take (HT.sIx xs.length xs.length G-HT.sIx xs.length 0 lo)
theorem jV(xs:List V)(lo G:Option Int):(oZ xs lo G).length<=xs.length:=by
 unfold oZ;rw[P6,aj2]
 lia
def En(K:u8):V->Option Int->Option Int->Hp->VK->Prop:=λx lo G H Q=>∃a b,x=.ref a/\SqT K H a b /\
 ¬ (HT.sIx b.length 0 lo=0/\HT.sIx b.length b.length G=b.length)/\∀p,H p=none->Q (.ref p) (upd H p (.tup (oZ b lo G)))
theorem AE:SlR X (En X.K):=by
 intro p s m H x v vl vu lo G sl Q I rx hs pl pu h;obtain⟨a,c,rfl,l,j,q⟩:=h;cases rx;obtain⟨f,r,g,i⟩:=I.tuple l;have e:f.toArray.size=c.length:=by rw[F7];exact r.length.symm
 refine⟨"tuple",_,Q7.lookup,g.typeIs,?_⟩;refine HT.getItem_tuple_cut g hs pl pu (by rw[e];exact j) ?_ (by rw[e];exact i);rw[e];refine⟨.ref s.heap.objs.size,_,I.laid (t':=s.toks) (o:=.tup (oZ c lo G)) (λb n q=>E2 _ q) (F3 _) ?_,rfl,q _ (I.hok.fresh (F3 _))⟩;exact⟨L5 (jV c lo G) i,_,(r.drop (HT.sIx c.length 0 lo)).take (HT.sIx c.length c.length G-HT.sIx c.length 0 lo),lT.new _ _⟩
def DM(K:u8):R2:=λx y H Q=>∃a b e c,x=.ref a/\y=.ref b/\SqT K H a e/\SqT K H b c/\e≠[]/\e.length+c.length<=F2 /\
 (c=[]->Q (.ref a) H)/\(c≠[]->∀p,H p=none->Q (.ref p) (upd H p (.tup (e++c))))
theorem az.nil_iff{xs:List V}{a:List s0}(r:az xs a):a=[]↔xs=[]:=by
 cases r with
 |nil=>simp
 |cons _ _=>simp
theorem yS:OpR X (X9 .Add) (DM X.K):=by
 intro E s C H x y v u Q I rx ry h;obtain⟨a,b,j,t,rfl,rfl,B,m,A,f,p,l⟩:=h;cases rx;cases ry;obtain⟨i,e,n,_⟩:=I.tuple B;obtain⟨g,c,Y,_⟩:=I.tuple m;refine HT.cat_tup n Y (λz=>A (e.nil_iff.mp z)) (λz=>⟨.ref a,H,I,rfl,p (c.nil_iff.mp z)⟩) (λz=>?_) (by rw[<-e.length,<-c.length];exact f);refine⟨.ref s.heap.objs.size,_,I.laid (t':=s.toks) (o:=.tup (j++t)) (λb G q=>E2 _ q) (F3 _) ?_,rfl,l (λw=>z (c.nil_iff.mpr w)) _ (I.hok.fresh (F3 _))⟩;exact⟨by rw[E8];exact f,_,e.append c,lT.new _ _⟩
end
def ixN(n:Nat)(i:Int):Option Nat:=if 0<=i then(if i<n then some i.toNat else none)else if -(n:Int)<=i then some (i+n).toNat else none
def atI{a:Type}(xs:List a)(i:Int):Option a:=(ixN xs.length i).bind λj=>xs[j]?
theorem tM{n:Nat}{i:Int}{j:Nat}(h:ixN n i=some j):seqIndex? i n=some j/\j<n/\-(n:Int)<=i/\i<n:=by
 unfold ixN at h
 by_cases b:0<=i
 ·rw[if_pos b]at h
  by_cases a:i<n
  ·rw[if_pos a]at h;have e:i.toNat=j:=Q4 h;exact⟨by rw[seqIndex_of b a,e],by lia,by lia,a⟩
  ·rw[if_neg a]at h;cases h
 ·rw[if_neg b]at h
  by_cases a:-(n:Int)<=i
  ·rw[if_pos a]at h;have e:(i+n).toNat=j:=Q4 h;exact⟨by rw[seqIndex_neg (by lia) a,e],by lia,a,by lia⟩
  ·rw[if_neg a]at h;cases h
theorem nU{a:Type}{xs:List a}{i:Int}{v:a}(h:atI xs i=some v):∃j,seqIndex? i xs.length=some j/\xs[j]?=some v/\j<xs.length/\-(xs.length:Int)<=i/\i<xs.length:=by
 unfold atI at h;cases e:ixN xs.length i with
 |none=>rw[e]at h;cases h
 |some j =>
  rw[e]at h;obtain⟨c,f,b,g⟩:=tM e;exact⟨j,c,h,f,b,g⟩
theorem cQ{a:Type}{xs:List a}{j:Nat}{v:a}(h:xs[j]?=some v):atI xs (j:Int)=some v:=by
 have b:j<xs.length:=(J8.mp h).1;have e:ixN xs.length (j:Int)=some j:=by
  unfold ixN;rw[if_pos (by lia),if_pos (by lia)];simp
 unfold atI;rw[e];exact h
def tE(b:L7):Prop:=∀o i,subscripted b false o i=operate [o,i] (ap2 o i)
def IxR(X:Cx)(r:R2):Prop :=
 ∀(a slice:L7) (c:List (E9×Obj)) (s:E3) (b:St) (H:Hp) (x y:V) (v u:s0) (Q:VK),Inv X c b H s->aH x v->aH y u->r x y H Q ->
  subscripted slice false v u=operate [v,u] (ap2 v u)->H0 (M8 X.prog X.w) X.A (subscriptTail a slice v u) (EP X c b Q) X.xe s
def MtR(X:Cx)(id:String)(r:V->List V->Hp->VK->Prop):Prop :=
 ∀(e:List (E9×Obj)) (s:E3) (a:St) (H:Hp) (x:V) (b:List V) (v:s0) (c:List s0) (Q:VK),Inv X e a H s->aH x v->az b c->r x b H Q ->
  H0 (M8 X.prog X.w) X.A (aq8 (.builtin id) (v::c)) (EP X e a Q) X.xe s
section
variable{X:Cx}{a b:L7}{Y tb:TE}{pos:Pos}
theorem CY{r:R2}(hr:IxR X r)(ha:PE X a Y)(m:PE X b tb)(hs:tE b):PE X (.Subscript a b pos) (tOp r Y tb):=by
 intro e s c H Q I h;exact Subscript_ (Bz ha m I h λv u f x y g i j l q=>hr a b e f c g x y v u Q i j l q (hs _ _))
def D8(K:u8):R2:=λx y H Q=>∃p a i v,x=.ref p/\y=.int i/\SqL K H p a/\atI a i=some v/\Q v H
def Ef(K:u8):R2:=λx y H Q=>∃p a i v,x=.ref p/\y=.int i/\SqT K H p a/\atI a i=some v/\Q v H
def Eb:R2:=λx y H Q=>∃z i c,x=.str z/\y=.int i/\z.length<=F2/\atI z.cps.toList i=some c/\Q (.str ⟨#[c]⟩) H
theorem ud:IxR X (D8 X.K):=by
 intro e slice n s m H x y v u Q I rx ry h hs;obtain⟨p,O,i,z,rfl,rfl,B,G,q⟩:=h;cases rx;obtain⟨t,rfl⟩:=ry;obtain⟨c,r,l,P⟩:=I.list B;obtain⟨j,b,C,N,L,E⟩:=nU G;obtain⟨w,A,g⟩:=r.get C;have J:=r.length;have R:=js;have a:EP X n m Q w s:=⟨z,H,I,g,q⟩
 by_cases o:0<=i
 ·have f:i.toNat=j:=by
   rw[seqIndex_of o E]at b;exact Q4 b
  exact item_listR l.isList o (by lia) (by rw[f];simpa using A) a hs
 ·have f:(i+(c.toArray.size:Int)).toNat=j:=by
   rw[seqIndex_neg (by lia) L]at b;rw[F7,<-J];exact Q4 b
  exact subscriptTail_builtinR (x:=w) l.isList.typeIs slot_list_getitem.lookup
   (wpAny_getItem_list_neg (Q:=λr M=>r=w/\EP X n m Q r M) l.isList (by lia) (by rw[F7]<;>lia) (by lia) (by rw[f];simpa using A) ⟨rfl,a⟩) hs
theorem AA:IxR X (Ef X.K):=by
 intro a slice f s e H x y v u Q I rx ry h hs;obtain⟨p,J,i,z,rfl,rfl,m,A,q⟩:=h;cases rx;obtain⟨t,rfl⟩:=ry;obtain⟨l,r,g,M⟩:=I.tuple m;obtain⟨j,n,o,G,O,L⟩:=nU A;obtain⟨w,B,c⟩:=r.get o;have C:=r.length;have N:=js;have b:EP X f e Q w s:=⟨z,H,I,c,q⟩;exact subscriptTail_builtinR (x:=w) g.typeIs slot_tuple_getitem.lookup
  (getItem_tuple (j:=j) (Q:=λr E=>r=w/\EP X f e Q r E) g (by lia) (by lia) (by rw[F7,<-C];exact n) (by simpa using B) ⟨rfl,b⟩) hs
theorem Bp:IxR X Eb:=by
 intro a slice A s w H x y v u Q I rx ry h hs;obtain⟨z,i,c,rfl,rfl,C,l,q⟩:=h;obtain⟨t,rfl⟩:=rx;obtain⟨B,rfl⟩:=ry;obtain⟨j,b,e,p,o,g⟩:=nU l;have m:z.cps.toList.length=z.length:=by simp[ah6]
 rw[m]at b o g;have E:=js;exact tail_any (aj9 s z t) slot_str_getitem.lookup (getItem_str (c:=c) (by
  have n:decide (i < -(2 ^ 63:Int))=false:=decide_eq_false (by lia);have f:decide (i>=2 ^ 63)=false:=decide_eq_false (by lia);rw[n,f,Bool.or_false]) (by rw[b];simpa using e) ⟨.str ⟨#[c]⟩,H,I.tok _,⟨_,rfl⟩,q⟩) hs
theorem sI(a:List s0)(n j:Nat)(u:s0):an8 (·.setIfInBounds j u) { cls:=.type "list",data:=.seq a.toArray n }={ cls:=.type "list",data:=.seq (a.set j u).toArray n }:=by
 simp[an8]
theorem Inv.lst{b:List (E9×Obj)}{σ:St}{H:Hp}{s:E3}{p:E9}{xs:List V}(I:Inv X b σ H s)(h:H p=some (.lst xs)):
  ∃(a:List s0) (n:Nat),az xs a/\s.heap.get? p=some { cls:=.type "list",data:=.seq a.toArray n }/\xs.length<=F2:=by
 obtain⟨z,a,n,r,e⟩:=I.hok p _ h;exact⟨a,n,r,e,z⟩
theorem Inv.lstUpd{i:List (E9×Obj)}{σ:St}{H:Hp}{s:E3}{p:E9}{xs ys:List V}{a its':List s0}{n c:Nat}{f:Obj->Obj}(I:Inv X i σ H s)(h:H p=some (.lst xs))
  (l:s.heap.get? p=some { cls:=.type "list",data:=.seq a.toArray n }) (g:f { cls:=.type "list",data:=.seq a.toArray n }={ cls:=.type "list",data:=.seq its'.toArray c }) (r:az ys its') (j:ys.length<=F2) (t:Nat) :
  Inv X i σ (upd H p (.lst ys)) { s with heap:=s.heap.update p f,toks:=t }:=by
 have e:(s.heap.update p f).get? p=some { cls:=.type "list",data:=.seq its'.toArray c }:=by
  rw[O7 f l (by rw[g]<;>rfl),g]
 refine I.write (x:=p) (e:=p) (by rw[h];trivial) (.inl rfl) (λb u m q=>(L8 _ _ (T9 m)).trans q) ⟨_,e⟩ ?_;exact⟨j,its',c,r,e⟩
def CP:V->V->V->Hp->(Hp->Prop)->Prop:=λo i v H Q=>∃p a k j,o=.ref p/\i=.int k/\H p=some (.lst a)/\ixN a.length k=some j/\Q (upd H p (.lst (a.set j v)))
theorem xa:Dt X CP:=by
 intro C s A H o i v ov iv u Q I ro ri rv h;obtain⟨p,B,k,j,rfl,rfl,l,E,q⟩:=h;cases ro;obtain⟨t,rfl⟩:=ri;obtain⟨a,n,r,f,G⟩:=I.lst l;obtain⟨b,J,g,z⟩:=tM E;have c:=r.length;have L:=js;have x:Inv X C A (upd H p (.lst (B.set j v))) { s with heap:=s.heap.update p (an8 (·.setIfInBounds j u)) } :=
  I.lstUpd l f (sI a n j u) (r.set rv j) (by rw[List.length_set];exact G) s.toks
 by_cases m:0<=k
 ·have e:k.toNat=j:=by
   rw[seqIndex_of m z]at b;exact Q4 b
  exact PySem.W.ki_setAt f m (by lia) (by rw[F7,<-c];exact z) (by rw[e];exact⟨_,x,q⟩)
 ·have e:(k+(a.toArray.size:Int)).toNat=j:=by
   rw[seqIndex_neg (by lia) g]at b;rw[F7,<-c];exact Q4 b
  exact PySem.W.ki_setBack f (by lia) (by rw[F7,<-c];exact g) (by lia) (by rw[e];exact⟨_,x,q⟩)
theorem oB(lo a:Option Int)(n:Nat):(ah7 lo a none n).1=((HT.sIx n 0 lo:Nat):Int)/\(ah7 lo a none n).2.1=((HT.sIx n n a:Nat):Int)/\(ah7 lo a none n).2.2=1:=by
 refine⟨?_,?_,rfl⟩
 ·cases lo with
  |none=>simp[ah7,HT.sIx]
  |some i =>
   simp only[ah7,HT.sIx,Option.getD_none,show(1:Int) > 0 by decide,if_true]
   by_cases h:i<0
   ·simp only[h,if_true]<;>lia
   ·simp only[h,if_false]<;>lia
 ·cases a with
  |none=>simp[ah7,HT.sIx]
  |some i =>
   simp only[ah7,HT.sIx,Option.getD_none,show(1:Int) > 0 by decide,if_true]
   by_cases h:i<0
   ·simp only[h,if_true]<;>lia
   ·simp only[h,if_false]<;>lia
theorem mJ(a:List s0)(lo b:Option Int):slicePick a.toArray lo b none=((a.drop (HT.sIx a.length 0 lo)).take (HT.sIx a.length a.length b-HT.sIx a.length 0 lo)).toArray:=by
 obtain⟨e,f,c⟩:=oB lo b a.toArray.size;unfold slicePick;rw[e,f,c];simp only[sliceRange_one,pick_run,F7]<;>rfl
def DP(K:u8):V->Option Int->Option Int->Hp->VK->Prop:=λx lo c H Q=>∃a b,x=.ref a/\SqL K H a b/\∀p,H p=none->Q (.ref p) (upd H p (.lst (oZ b lo c)))
theorem xU:SlR X (DP X.K):=by
 intro n s l H x v vl vu lo hi sl Q I rx hs pl pu h;obtain⟨a,c,rfl,j,q⟩:=h;cases rx;obtain⟨g,r,e,i⟩:=I.list j;have f:=r.length;refine⟨"list",_,slot_list_getitem.lookup,e.isList.typeIs,?_⟩;refine wpAny_getItem_list_slice e.isList hs pl pu .none (by simp) ?_ (by rw[F7]<;>lia);rw[mJ,<-f];refine⟨.ref s.heap.objs.size,_,I.laid (t':=s.toks) (o:=.lst (oZ c lo hi)) (λb m q=>E2 _ q) (F3 _) ?_,rfl,q _ (I.hok.fresh (F3 _))⟩;exact⟨L5 (jV c lo hi) i,_,0,(r.drop (HT.sIx c.length 0 lo)).take (HT.sIx c.length c.length hi-HT.sIx c.length 0 lo),F6 _ rfl⟩
def gq:V->Bool
 |.non=>true
 |.bl _=>true
 |.int _=>true
 |.str _=>true
 |_=>false
def eqV:V->V->Bool
 |.non,.non=>true
 |.bl a,.bl b=>a==b
 |.bl a,.int b=>(if a then 1 else 0)==b
 |.int a,.bl b=>a==(if b then 1 else 0)
 |.int a,.int b=>a==b
 |.str a,.str b=>a==b
 |_,_=>false
theorem AO{A:L6}{s:E3}{y x:V}{u v:s0}(g:aH y u)(c:aH x v)(h:gq y=true)(f:gq x=true):T5 A s u v (eqV y x):=by
 cases y with
 |non =>
  cases g;cases x with
  |non=>cases c;exact T5.same _
  |bl b=>cases c;exact T5.none_bool b
  |int b=>obtain⟨t,rfl⟩:=c;exact T5.none_int b t
  |str b=>obtain⟨t,rfl⟩:=c;exact T5.none_str b t
  |_=>exact absurd (show false=true from f) R1
 |bl a =>
  cases g;cases x with
  |non=>cases c;exact T5.bool_none a
  |bl b=>cases c;exact T5.bool_bool a b
  |int b=>obtain⟨t,rfl⟩:=c;exact T5.bool_int a b t
  |str b=>obtain⟨t,rfl⟩:=c;exact T5.bool_str a b t
  |_=>exact absurd (show false=true from f) R1
 |int a =>
  obtain⟨e,rfl⟩:=g;cases x with
  |non=>cases c;exact T5.int_none a e
  |bl b=>cases c;exact T5.int_bool a e b
  |int b=>obtain⟨t,rfl⟩:=c;exact T5.int_int a e b t
  |str b=>obtain⟨t,rfl⟩:=c;exact T5.int_str a e b t
  |_=>exact absurd (show false=true from f) R1
 |str a =>
  obtain⟨e,rfl⟩:=g;cases x with
  |non=>cases c;exact T5.str_none a e
  |bl b=>cases c;exact T5.str_bool a e b
  |int b=>obtain⟨t,rfl⟩:=c;exact T5.str_int a e b t
  |str b=>obtain⟨t,rfl⟩:=c;exact T5.str_str a e b t
  |_=>exact absurd (show false=true from f) R1
 |_=>exact absurd (show false=true from h) R1
def eqU(x:V)(u:s0):Bool:=match u with
 |.none=>eqV .non x
 |.bool b=>eqV (.bl b) x
 |.int i _=>eqV (.int i) x
 |.str z _=>eqV (.str z) x
 |_=>false
theorem wz{x y:V}{u:s0}(r:aH y u)(f:gq y=true):eqU x u=eqV y x:=by
 cases y with
 |non=>cases r;rfl
 |bl b=>cases r;rfl
 |int i=>obtain⟨t,rfl⟩:=r;rfl
 |str z=>obtain⟨t,rfl⟩:=r;rfl
 |_=>exact absurd (show false=true from f) R1
theorem oC{x:V}:∀{xs:List V}{a:List s0},az xs a->xs.all gq=true->a.any (eqU x)=xs.any λy=>eqV y x
 |_,_,.nil,_=>rfl
 |y::xs,u::a,.cons r t,f=>by
  rw[U3,F1]at f;rw[ac5,ac5,wz r f.1,oC t f.2]
theorem lw{A:L6}{s:E3}{x:V}{v:s0}(e:aH x v)(c:gq x=true):∀{xs:List V}{b:List s0},az xs b->xs.all gq=true->∀u∈b,T5 A s u v (eqU x u)
 |_,_,.nil,_=>λu a=>by cases a
 |y::xs,u::b,.cons r t,f=>λg a=>by
  rw[U3,F1]at f;rcases F8.mp a with rfl|a
  ·rw[wz r f.1];exact AO r e f.1 c
  ·exact lw e c t f.2 g a
def inV(x:V)(xs:List V):Bool:=xs.any λy=>eqV y x
def rIn(K:u8)(b:Bool):R2:=λx y H Q=>∃p a,y=.ref p/\(SqL K H p a∨SqT K H p a)/\gq x=true/\a.all gq=true/\Q (.bl (if b then !inV x a else inV x a)) H
theorem uN:OpR X (Q6 .In) (rIn X.K false):=by
 intro l s i H x y v u Q I rx ry h;obtain⟨p,j,rfl,b,f,fs,q⟩:=h;cases ry;rcases b with b|b
 ·obtain⟨a,r,e,g⟩:=I.list b;refine SeqAt.in_listAt (eqU x) e.isList (λw c=>lw rx f r fs w (by simpa using c)) ⟨.bl _,H,I,rfl,?_⟩;rw[show a.toArray.any (eqU x)=a.any (eqU x)by simp,oC r fs];exact q
 ·obtain⟨a,r,e,g⟩:=I.tuple b;refine SeqAt.in_tupleAt (eqU x) e (λw c=>lw rx f r fs w (by simpa using c)) ⟨.bl _,H,I,rfl,?_⟩;rw[show a.toArray.any (eqU x)=a.any (eqU x)by simp,oC r fs];exact q
theorem o5:dg X (.builtin "len") (λxs H Q=>∃p ys,xs=[.ref p]/\(SqL X.K H p ys∨SqT X.K H p ys)/\Q (.int ys.length) H):=by
 intro l s j H xs m Q I r h;obtain⟨p,ys,rfl,a,q⟩:=h;obtain⟨u,rfl,i⟩:=tG r;cases i;have n:=js;rcases a with a|a
 ·obtain⟨b,e,f,g⟩:=I.list a;have c:=e.length;exact Calls.call_len_list f.isList (by simp only[F7]<;>lia) ⟨.int ys.length,H,I.tok _,⟨s.toks+1,by rw[F7,c]⟩,q⟩
 ·obtain⟨b,e,f,g⟩:=I.tuple a;have c:=e.length;exact len_tuple f (by simp only[F7]<;>lia) ⟨.int ys.length,H,I.tok _,⟨s.toks+1,by rw[F7,c]⟩,q⟩
theorem oR:dg X (.builtin "len") (λxs H Q=>∃z,xs=[.str z]/\z.length<=F2/\Q (.int z.length) H):=by
 intro c s a H xs b Q I r h;obtain⟨z,rfl,e,q⟩:=h;obtain⟨u,rfl,t,rfl⟩:=tG r;have f:=js;exact len_str (by lia) ⟨.int z.length,H,I.tok _,⟨_,rfl⟩,q⟩
theorem dg.or{f:s0}{r e:List V->Hp->VK->Prop}(h:dg X f r)(h':dg X f e):dg X f (λxs H Q=>r xs H Q∨e xs H Q):=by
 intro c s a H xs b Q I rs q;rcases q with q|q
 ·exact h c s a H xs b Q I rs q
 ·exact h' c s a H xs b Q I rs q
theorem mP:dg X (.type "tuple") (λxs H Q=>∃p ys,xs=[.ref p]/\((SqL X.K H p ys/\∀l,H l=none->Q (.ref l) (upd H l (.tup ys)))∨(SqT X.K H p ys/\Q (.ref p) H))):=by
 intro n s m H xs B Q I r h;obtain⟨p,ys,rfl,h⟩:=h;obtain⟨u,rfl,z⟩:=tG r;cases z;rcases h with⟨g,q⟩|⟨g,q⟩
 ·obtain⟨a,i,j,t⟩:=I.list g;have A:=i.length;refine call_tuple_list j.isList (λf kp=>?_) (by simp only[F7]<;>lia);have w:Inv X n m H { s with heap:=f }:=I.kept (t':=s.toks) kp;have x:Inv X n m (upd H f.objs.size (.tup ys)) { s with heap:=f.push { cls:=.type "tuple",data:=.seq a.toArray } } :=
   w.laid (t':=s.toks) (λb o e=>E2 _ e) (F3 _) (show cq X.prog X.w _ _ _ (.tup ys)from⟨t,a,i,lT.new _ _⟩)
  exact⟨.ref f.objs.size,_,x,rfl,q _ (w.hok.fresh (F3 _))⟩
 ·obtain⟨a,i,j,t⟩:=I.tuple g;exact call_tuple_same j ⟨.ref p,H,I,rfl,q⟩
def tyV(K:u8)(T:String)(x:V)(H:Hp):Prop:=match x with
 |.str _=>T="str"
 |.int _=>T="int"
 | .ref p => (T = "list" ∧ ∃ b,SqL K H p b) ∨ (T = "tuple" ∧ ∃ o,K.lookup p = some o ∧ o.cls = .type "tuple" ∧ o.dict = none) ∨
   (T="dict"/\((∃a,H p=some (.dK a))∨∃a,H p=some (.dT a)))∨(T="set"/\∃S n,H p=some (.set S n))
 |_=>False
theorem z7{w:List (E9×Obj)}{σ:St}{H:Hp}{s:E3}{T:String}{x:V}{v:s0}(I:Inv X w σ H s)(r:aH x v)(ty:tyV X.K T x H):
  s.TypeIs v T/\∀a,v=.ref a->∃l,s.heap.get? a=some l/\l.dict=none:=by
 cases x with
 |str z =>
  obtain⟨t,rfl⟩:=r;cases(show T="str" from ty);exact⟨aj9 s z t,λ_ e=>nomatch e⟩
 |int i =>
  obtain⟨t,rfl⟩:=r;cases(show T="int" from ty);exact⟨an9 s i t,λ_ e=>nomatch e⟩
 |ref p =>
  cases r;rcases ty with⟨rfl,B,u⟩|⟨rfl,o,b,A,j⟩|⟨rfl,b⟩|⟨rfl,S,n,b⟩
  ·obtain⟨q,_,m,_⟩:=I.list u;refine⟨m.isList.typeIs,λa e=>?_⟩;cases e;obtain⟨o,n,e,c,j,_⟩:=m;exact⟨o,e,j⟩
  ·refine⟨⟨o,I.kIn p o b,A⟩,λa e=>?_⟩;cases e;exact⟨o,I.kIn _ o b,j⟩
  ·have z:∃o,s.heap.get? p=some o/\o.ExactDict:=by
    rcases b with⟨g,b⟩|⟨g,b⟩
    ·obtain⟨_,_,_,_,o,_,_,e,f,_⟩:=I.hok p _ b;exact⟨o,e,f⟩
    ·obtain⟨_,_,_,_,o,_,_,e,f,_⟩:=I.hok p _ b;exact⟨o,e,f⟩
   obtain⟨o,e,f⟩:=z;refine⟨⟨o,e,f.1⟩,λa h=>?_⟩;cases h;exact⟨o,e,f.2.1⟩
  ·obtain⟨o,_,_,_,e,f,_⟩:=I.hok p _ b;refine⟨⟨o,e,f.1⟩,λa h=>?_⟩;cases h;exact⟨o,e,f.2.1⟩
 |_=>exact T7 ty
def tBM(K:u8)(T:String)(r:V->List V->Hp->VK->Prop)(O:TE)(t:TA):TE:=λa H Q=>O a H λx b=>tyV K T x b/\t a b λc e=>r x c e Q
variable{o e:L7}{G:List L7}{O:TE}{t:TA}{name:Str}{dM J:Pos}{T id:String}{r:V->List V->Hp->VK->Prop}
theorem qR(M:PlainAttrs T)(slot:Slot T name id)(f:typeOf (.builtin id)=ae6 (.type "method_descriptor"))(E:MtR X id r)(P:PE X o O)(ha:PA X (e::G) t)
  (m:W9 o name X.env (Z1 o X.env)=Z1 o X.env:=by rfl)
  (l:((U4 J (F0 (e :: G) X.env)).all (λx => !x.1) && (ag7 J (X6 [] X.env)).all (λx => x.1.isSome)
  &&decide ((e::G).length+([]:List af3).length+(if([]:List af3).isEmpty then 0 else 1)<30))=true:=by rfl)
  (U:(dM.endLine==J.line)=true:=by rfl) (hs:F0 (e::G) X.env=(false,Z1 e X.env)::F0 G X.env:=by rfl) (L:(U4 J (F0 G X.env)).any (·.1)=false:=by rfl) :
  PE X (.Call (.Attribute o name dM) (e::G) [] J) (tBM X.K T r O t):=by
 intro b s a H Q I h;refine wpAny_Call_method_late m l U rfl (thn (P b s a H _ I h) λv S ⟨x,A,j,i,ty,B⟩=>?_);obtain⟨q,w⟩:=z7 j i ty;refine⟨T,id,M,slot,f,q,w,?_⟩;have g:=ha J b S a A _ j B;rw[hs]at g ⊢;refine Calls.callWith_builtin (by show(false || (U4 J (F0 G X.env)).any (·.1))=false;rw[L]<;>rfl) (Calls.evalArgs_plain ?_);exact thn g λC n c=>c.el λN p R z u=>E b n a p x N v C Q R i z u
end
def MtM(X:Cx)(id:String)(r:V->List V->Hp->VK->Prop):Prop :=
 ∀(e:List (E9×Obj)) (s:E3) (a:St) (H:Hp) (x:V) (b:List V) (v:s0) (c:List s0) (Q:VK),Inv X e a H s->aH x v->az b c->r x b H Q ->
  H0 (M8 X.prog X.w) X.A (aq8 (.builtin id) (v::c)) (EP X e a Q) X.xe s
theorem az.un{x:V}{xs:List V}{a:List s0}(h:az (x::xs) a):∃u b,a=u::b/\aH x u/\az xs b:=by
 cases h with
 |cons r t=>exact⟨_,_,rfl,r,t⟩
theorem az.one{x:V}{a:List s0}(h:az [x] a):∃u,a=[u]/\aH x u:=by
 obtain⟨u,b,rfl,r,t⟩:=h.un;cases t;exact⟨u,rfl,r⟩
theorem az.two{x y:V}{a:List s0}(h:az [x,y] a):∃u v,a=[u,v]/\aH x u/\aH y v:=by
 obtain⟨u,b,rfl,r,t⟩:=h.un;obtain⟨v,rfl,q⟩:=t.one;exact⟨u,v,rfl,r,q⟩
theorem az.reverse{xs:List V}{a:List s0}(h:az xs a):az xs.reverse a.reverse:=by
 induction h with
 |nil=>exact .nil
 |cons r t ih=>rw[ah8,ah8];exact az.append ih (.cons r .nil)
theorem az.rep{xs:List V}{a:List s0}(h:az xs a):∀k:Nat,az (E5 k xs).flatten (E5 k a).flatten
 |0=>.nil
 |k+1=>by
  rw[R5,R5,ab7,ab7];exact az.append h (az.rep h k)
theorem jJ(b:List s0):∀(k:Nat) (a:List s0),
  ap3 (λg f=>g++f) a.toArray (E5 k b.toArray)=(a++(E5 k b).flatten).toArray
 |0,a=>by simp
 |k+1,a=>by
  have e:a.toArray++b.toArray=(a++b).toArray:=by simp
  have c:(a++b)++(E5 k b).flatten=a++(E5 (k+1) b).flatten:=by
   rw[R5,ab7,List.append_assoc]
  rw[<-c,<-jJ b k (a++b),<-e,R5,W5]
section
variable{X:Cx}{G:List (E9×Obj)}{σ:St}{H:Hp}{s:E3}{l b:E9}{xs ys J:List V}
theorem Inv.lset{a its':List s0}{n:Nat}{f:Array s0->Array s0}{t':Nat}(I:Inv X G σ H s)(c:H l=some (.lst xs))
  (e:s.heap.get? l=some { cls:=.type "list",data:=.seq a.toArray n }) (b:f a.toArray=its'.toArray) (j:az ys its') (h:ys.length<=F2) :
  Inv X G σ (upd H l (.lst ys)) { s with heap:=s.heap.update l (an8 f),toks:=t' }:=by
 have q:=PySem.IsL.update e f;rw[b]at q;refine I.write (x:=l) (e:=l) (by rw[c];exact trivial) (.inl rfl) (λm u i g=>(L8 s.heap (an8 f) (T9 i)).trans g) ⟨_,q⟩ ?_;exact⟨h,its',_,j,q⟩
theorem Inv.lnew{a:List s0}{t':Nat}(I:Inv X G σ H s)(c:az ys a)(b:ys.length<=F2):
  Inv X G σ (upd H s.heap.objs.size (.lst ys)) { s with heap:=s.heap.push { cls:=.type "list",data:=.seq a.toArray },toks:=t' } :=
 I.laid (λ_ _ q=>E2 _ q) (F3 _) ⟨b,a,0,c,F6 _ rfl⟩
theorem Inv.fresh(I:Inv X G σ H s):H s.heap.objs.size=none:=I.hok.fresh (F3 _)
theorem Inv.lstM(I:Inv X G σ H s)(b:H l=some (.lst xs)):xs.length<=F2/\∃(a:List s0) (n:Nat),az xs a/\xs.length=a.length/\s.heap.get? l=some { cls:=.type "list",data:=.seq a.toArray n }:=by
 obtain⟨z,a,n,r,e⟩:=I.hok l _ b;exact⟨z,a,n,r,r.length,e⟩
theorem v4{n:Nat}(h:n<=F2):K6.List.listTooLong n=false:=by
 unfold K6.List.listTooLong;exact decide_eq_false (by lia)
end
section
variable{X:Cx}
def ue:V->List V->Hp->VK->Prop:=λx b H Q=>∃l a y,x=.ref l/\b=[y]/\H l=some (.lst a)/\a.length<F2/\Q .non (upd H l (.lst (a++[y])))
theorem vo:MtM X "list.append" ue:=by
 intro i s f H x o v us Q I rx rv h;obtain⟨l,g,y,rfl,rfl,b,m,q⟩:=h;cases rx;obtain⟨u,rfl,c⟩:=rv.one;obtain⟨z,a,n,r,j,e⟩:=I.lstM b;refine af8 F.slot_list_append ⟨_,e,rfl⟩ F.entry_list_append (F.args_list_append_2 _ _) (PySem.list_append l a.toArray n u (by rw[F7];lia)) ⟨e,?_⟩;refine⟨.non,_,I.lset (its':=a++[u]) b e (by simp) (r.append (.cons c .nil)) ?_,rfl,q⟩;rw[E8,List.length_singleton]
 lia
def D6:R2:=λx y H Q=>∃l b a c,x=.ref l/\y=.ref b/\H l=some (.lst a)/\H b=some (.lst c)/\a.length+c.length<=F2/\∀p,H p=none->Q (.ref p) (upd H p (.lst (a++c)))
theorem BO:OpR X (X9 .Add) D6:=by
 intro w s p H x y v u Q I rx ry h;obtain⟨l,b,t,E,rfl,rfl,g,o,C,q⟩:=h;cases rx;cases ry;obtain⟨z,c,n,r,B,e⟩:=I.lstM g;obtain⟨A,a,G,i,j,f⟩:=I.lstM o;refine PySem.P.add_list e f ?_ (by rw[F7,F7];lia);have m:c.toArray++a.toArray=(c++a).toArray:=by simp
 rw[m];exact⟨.ref _,_,I.lnew (t':=s.toks) (r.append i) (by rw[E8];lia),rfl,q _ I.fresh⟩
def DS:R2:=λx y H Q=>∃l k a,x=.ref l/\y=.int k/\H l=some (.lst a)/\-(2 ^ 63)<=k/\k<2 ^ 63/\a.length*k.toNat<=F2 /\
 ∀p,H p=none->Q (.ref p) (upd H p (.lst (E5 k.toNat a).flatten))
theorem og{a:Type}(xs:List a)(k:Nat):(E5 k xs).flatten.length=k*xs.length:=by
 induction k with
 |zero=>simp
 |succ k ih=>rw[R5,ab7,E8,ih,Nat.succ_mul,Nat.add_comm]
theorem AF:OpR X (X9 .Mult) DS:=by
 intro N s L H x y v u Q I rx ry h;obtain⟨l,k,M,rfl,rfl,E,B,C,p,q⟩:=h;cases rx;obtain⟨t,rfl⟩:=ry;obtain⟨z,b,n,r,G,e⟩:=I.lstM E;have w:b.toArray.size*k.toNat<=F2:=by rw[F7,<-G];exact p
 have f:¬ b.toArray.size*k.toNat > (2 ^ 63-1) / 8:=by
  have:(F2:Nat)<=(2 ^ 63-1) / 8:=by decide
  lia
 have i:¬ (!Builtin.List.listFitsIndex k)=true:=by
  rw[fitsIndex_both B C];exact R1
 have c:¬ K6.List.listTooLong (b.toArray.size*k.toNat)=true:=by
  rw[v4 w];exact R1
 have g:ap3 (λo j=>o++j) #[] (E5 (if b.toArray.isEmpty=true then 0 else k.toNat) b.toArray)=(E5 k.toNat b).flatten.toArray:=by
  have A:∀m:Nat,ap3 (λo j=>o++j) #[] (E5 m b.toArray)=(E5 m b).flatten.toArray:=λm=>by
   have:=jJ b m [];rw[M9]at this;exact this
  rw[A];cases b with
  |nil=>simp
  |cons a O=>rw[if_neg (by simp)]
 refine wpAny_binaryOp_repeat_ref (T:="list") (U:="int") (by decide) ⟨_,e,rfl⟩ (λJ=>an9 J k t) noFill_list_mul F.fills_int_mul ak6 repeat_list F.slot_int_index.lookup
  (af8 ak6 (an9 s k t) F.entry_int_rmul (F.args_int_rmul_2 _ _) (int___rmul___int_list k t l b.toArray n)
   ⟨e,rfl,⟨_,e,rfl⟩,af8 F.slot_list_mul ⟨_,e,rfl⟩ F.entry_list_mul (F.args_list_mul_2 _ _) (AutoListH.list___mul___list_int_3 l b.toArray n k t i f c) ⟨e,?_⟩⟩)
 rw[g];exact⟨.ref _,_,I.lnew (t':=s.toks) (r.rep k.toNat) (by rw[og,ai8];exact p),rfl,q _ I.fresh⟩
end
end L2
namespace Att
open PySem PySem.W PySem.Calls PyProof.Rows
theorem kf{P:Params}{h:K0}:∀(ns:List Int) (c:List s0),WellAll P h c (ns.map WData.int)->IntsAre c ns:=by
 intro ns
 induction ns with
 |nil =>
  intro c w;rw[al8]at w;cases w;exact .nil
 |cons n ns ih =>
  intro c w;rw[K7]at w;cases w with
  |cons a b =>
   cases a;exact .cons _ _ (ih _ b)
theorem u6{l:OpenLaw}{n:Nat}(hn:l.most=some n){P:Params}{h:K0}{args:List WData}{c:List s0}
  (b:l.row.toRowW.claim.pre args=true) (j:WellAll P h c args) :
  ∃a m ns,c=[J4 a]/\args=[WData.list (ns.map WData.int)]/\h.get? a=some { cls:=.type "list",data:=.seq m.toArray }/\IntsAre m ns/\ns.length<=n:=by
 have i:WShape.hasAll [] args [.list .int]=true:=(pre_splitW b).1;have o:l.pre.holds [] { args:=args }=true:=(pre_splitW b).2;obtain⟨d,r,rfl,u,w⟩:=hasAllW_cons i;obtain rfl:=hasAllW_nil w;obtain⟨B,rfl,p⟩:=hasW_list u;obtain⟨ns,rfl⟩:=items_int p;have s:ns.length<=n:=by
  unfold OpenLaw.pre at o;have g:(WTm.not (.lt (.lit (.int (n:Int))) (.len (.arg 0)))).holds [] { args:=[.list (ns.map .int)] }=true:=by
   have g:=(holds_andW o).1;rw[hn]at g;exact g
  have f:=condW_of g (w_not (w_lt w_lit (w_len_list (w_arg rfl))));rw[E4]at f;refine Nat.le_of_not_lt λq=>?_;have x:(n:Int)<((ns.length:Nat):Int):=by lia
  first
   |(rw[decide_eq_true x]at f;exact absurd f (by decide))
   |(simp at f;lia)
 cases j with
 |cons t A =>
  cases A;cases t with
  |list z e=>exact⟨_,_,ns,rfl,rfl,z,kf ns _ e,s⟩
theorem u0(l:OpenLaw)(args:List WData):l.row.toRowW.claim.post args (.bool true) args=true :=
 postW_of (r:=l.row.toRowW) (X:=(true==true))
  (show WShape.has [] (.bool true) .bool=true by first|rfl|decide|simp[WShape.has,WShape.arms,WShape.armsAll])
  (show(WTm.eq .res (.lit (.bool true))).value [] { args:=args,res:=some (.bool true),after:=args }=some (.bool (true==true))from w_eq_bool (w_res rfl) w_lit) rfl
theorem attach_call{l:OpenLaw}{n:Nat}{q:K3}{e:List Str}{L:(Str->Option s0)->K0->Prop}{E:P4->K0->Prop}{d:DefRec}
  (hn:l.most=some n) (A:d.params.defaults=[])
  (aq8:∀ (w:P4) (c b:E3) (s B:Str → Option s0) (p:E9) (o:Obj) (x cd g:s0) (a:E9) (i:List s0) (ns:List Int),
   Ground q e [] L w c s B b.heap->E w b.heap ->
   b.heap.get? p=some o->o.data=.func (docDef d.name d.params d.body d.scope x cd g)->b.heap.CodeRec cd d.name->s d.name=some (.ref p) ->
   b.heap.get? a=some { cls:=.type "list",data:=.seq i.toArray }->IntsAre i ns->ns.length<=n->b.gens=#[] ->
   am0 (M8 l.prog w) ao3 (.call (.ref p) ⟨[.ref a],[]⟩) (λr s'=>r=.ok (.ret (.bool true))/\OldK b.heap s'.heap/\s'.os=b.os/\aj1 s'.gens) b) :
  WalkO q e L E l.row.toRowW d [] (λf i=>PySem.call f i):=by
 intro w c b s B G Y p o x cd g X kV S Z u H z T I J as j C R t a0;obtain rfl:X=.none:=Dflts.none H A;obtain rfl:kV=.none:=Dflts.noKw H;obtain⟨a,i,ns,rfl,rfl,m,h,N⟩:=u6 hn j t;refine enter_call (V8 (aq8 w c b s B p o x cd g a i ns G Y S (fd_plain Z) u z m h N T) λr s' U=>?_);obtain⟨rfl,O,M,Q⟩:=U;exact⟨.inl ⟨.bool true,.bool true,[],rfl,λ_=>rfl,.bool true,u0 l _,λ_=>⟨List.Pairwise.nil,λ_ P=>(nomatch P)⟩⟩,O,M,Q⟩
section
variable{prog:K3}{w:P4}{A:L6}{E:s0->E3->Prop}{s:E3}{K:Frag}
end
end Att
namespace L2
open PySem PySem.Spec PyProof.Rows
theorem mT:∀{a:List s0}{ns:List Int},IntsAre a ns->az (ns.map V.int) a
 |_,_,.nil=>.nil
 |_,_,.cons n t h=>.cons ⟨t,rfl⟩ (mT h)
def yk(H:Hp):Prop:=∀b,H b=none∨∃o a,H b=some (.frz o (.lst a))
theorem vD{P:K3}{w:P4}{K:u8}{L Y:Str->Option s0}{CX:CXT}{k:Nat}{X a:E9}{fd:J7}{x:Str}{sp:Sp}{c:E3}{l:List s0}{ns:List Int}
  (KX:K.In c.heap) (A:c.heap.Ns K1 L) (g:c.heap.Ns builtinsNs Y) (R:∀x:Str,x≠"__name__"->Y x=Z8 x) (N:c.heap.NoLimit) (hg:c.gens=#[])
  (ha:c.heap.get? a=some { cls:=.type "list",data:=.seq l.toArray }) (hi:IntsAre l ns) (hl:ns.length<=F2) (hr:cg k ao3)
  (F:∀base:K0,K.In base->base.Ns K1 L->aO P w K L base CX k X fd [x] sp) (p:∀(s:E3) (u:s0),ap1 s fd ⟨[u],[]⟩ [(x,u)])
  (O:∀H:Hp,yk H->SqL K H a (ns.map V.int)->sp [.ref a] H (λv _=>v=.bl true) λ_ _ _=>False)
  (S:∀H e s',CX [] H c (λ_ _ _=>False) e s'->False) :
  am0 (M8 P w) ao3 (.call (.ref X) ⟨[.ref a],[]⟩) (λr s'=>r=.ok (.ret (.bool true))/\OldK c.heap s'.heap/\s'.os=c.os/\aj1 s'.gens) c:=by
 have rv:=mT hi;have t:=hi.length
 -- from an abstract heap in which nothing but the script may be tracked
 have j:∀H:Hp,yk H->SqL K H a (ns.map V.int)->HOk P w H c.heap->(∀b,H b≠none->b=a)->(H a≠none->K.lookup a=none) ->
   am0 (M8 P w) ao3 (.call (.ref X) ⟨[.ref a],[]⟩) (λr s'=>r=.ok (.ret (.bool true))/\OldK c.heap s'.heap/\s'.os=c.os/\aj1 s'.gens) c:=by
  intro H Z hS I hA hK;have f:∀{b:E9} {o:Obj},c.heap.get? b=some o->H b=none->(oV c.heap H).get? b=some o:=λe n=>wb e n;have U:∀{b:E9} {o:Obj} {B:Array aq1} {M:Nat},c.heap.get? b=some o->o.data=.dict B M->H b=none:=λ{b o B M} e d=>by
   cases q:H b with
   |none=>rfl
   |some u =>
    have T:b=a:=hA b (by rw[q];simp);subst T;rw[ha]at e;cases e;have d':ao0 l.toArray _=am5 B M:=d;cases d'
  have i:∀{b:E9} {m:Str->Option s0},c.heap.Ns b m->(oV c.heap H).Ns b m:=λ{b m} ⟨o,B,M,e,d,r⟩=>⟨o,B,M,f e (U e d),d,r⟩;have C:K.In (oV c.heap H):=λb o e=>f (KX b o e) (by
   cases q:H b with
   |none=>rfl
   |some u =>
    have T:b=a:=hA b (by rw[q];simp);subst T;rw[hK (by rw[q];simp)]at e;cases e)
  have hM:Mod K L (oV c.heap H):=⟨C,i A,⟨Y,i g,R⟩,let⟨mc,h1,h2⟩:=N;⟨mc,i h1,h2⟩⟩;have e0:rC P w K L (oV c.heap H) ao3 [] c H:=⟨rfl,hM,λb o e=>yx e,Nat.le_of_eq (vk _ _),trivial,λb g=>absurd (show b∈([]:List E9)from g) (by simp),I,.of_eq hg⟩;refine V8 ((F _ C (i A)).run ao3 [] c H ⟨[.ref a],[]⟩ [.ref a] [.ref a] _ _ hr e0 (p c (.ref a)) (.cons rfl .nil) (O H Z hS)) λr s' h=>?_;cases r with
  |error e=>exact(S H e s' h).elim
  |ok fl =>
   cases fl with
   |next=>exact T7 h
   |brk=>exact T7 h
   |cont=>exact T7 h
   |ret u =>
    obtain⟨v,H',os,E,un,J,r',q⟩:=h;have q':v=.bl true:=q;subst q';obtain rfl:u=ah5 true:=r';refine⟨rfl,OldK.of_keep λb o e=>?_,os,E⟩;cases q:H b with
    |none=>exact un.keep b o e q (by intro z;exact absurd (show b∈([]:List E9)from z) (by simp)) (by simp)
    |some u =>
     rcases Z b with z|⟨ob,xs,z⟩
     ·rw[q]at z;cases z
     ·have z2:=un.frzs b ob _ z;obtain⟨e1,_⟩:=I b _ z;obtain⟨e2,_⟩:=J b _ z2;rw[e]at e1;cases e1;exact e2
 cases Q:K.lookup a with
 |some o =>
  -- the script is one of the module's own objects
  have e:=KX a o Q;rw[ha]at e;cases e;refine j (λ_=>none) (λ_=>.inl rfl) (.inr ⟨_,l.toArray,_,Q,rfl,rfl,rfl,by rw[F7,t];exact hl,by simpa using rv⟩) (λb u z=>by have G:(none:Option HO)=some u:=z;cases G) (λb z=>absurd rfl z) λz=>absurd rfl z
 |none =>
  refine j (λb=>if b=a then some (.frz { cls:=.type "list",data:=.seq l.toArray } (.lst (ns.map V.int)))else none) (λb=>?_) (.inl (.inr ⟨{ cls:=.type "list",data:=.seq l.toArray },if_pos rfl⟩)) (λb u z=>?_) (λb z=>?_) λ_=>Q
  ·by_cases g:b=a
   ·exact .inr ⟨_,_,if_pos g⟩
   ·exact .inl (if_neg g)
  ·by_cases g:b=a
   ·have G:=(if_pos g).symm.trans z;cases G;subst g;exact⟨ha,by rw[E4];exact hl,l,_,rv,ha⟩
   ·have G:=(if_neg g).symm.trans z;cases G
  ·by_cases g:b=a
   ·exact g
   ·exact absurd (if_neg g) z
theorem tT{l:PySem.W.OpenLaw}{n k:Nat}{q:K3}{c:List Str}{U:(Str->Option s0)->K0->Prop}{L:P4->K0->Prop}{d:DefRec}{K:Params->u8}{CX:P4->CXT}{sp:P4->Sp}{x:Str}
  (hn:l.most=some n) (C:n<=F2) (B:d.params.defaults=[]) (hr:cg k ao3)
  (Q:∀(w:P4) (h:K0),L w h->(K w.params).In h)
  (F:∀ (w:P4) (g:Str → Option s0) (m:E9) (h:K0),(K w.params).In h → h.Ns K1 g → g d.name = some (.ref m) →
   ∃t:J7,(∀(s:E3) (u:s0),ap1 s t ⟨[u],[]⟩ [(x,u)]) /\
    ∀base:K0,(K w.params).In base->base.Ns K1 g->aO l.prog w (K w.params) g base (CX w) k m t [x] (sp w))
  (p:∀(w:P4) (H:Hp) (a:E9) (ns:List Int),ns.length<=n->yk H->SqL (K w.params) H a (ns.map V.int)->sp w [.ref a] H (λv _=>v=.bl true) λ_ _ _=>False)
  (z:∀(w:P4) (H:Hp) (s:E3) (e:s0) (s':E3),CX w [] H s (λ_ _ _=>False) e s'->False) :
  PySem.W.WalkO q c U L l.row.toRowW d [] (λf M=>PySem.call f M):=by
 refine Att.attach_call hn B λw I i g mb m o pm Z O a M ns G Y ho hd S A j b E R=>?_;have J:=Q w _ Y;obtain⟨t,P,X⟩:=F w g m _ J G.T.g A;exact vD J G.T.g G.T.b G.T.builtins G.T.nolimit R j b (L5 E C) hr X P (λH N T=>p w H a ns E N T) λH e s'=>z w H i e s'
end L2
/- THE LAST THEOREM (shape; LID,My.* are yours):
   My.Adr: a structure of the addresses that your layer names (classes,functions);My.Txt K t: a structure (Prop) of the equations over K;
   My.txt_mk:{K} {implicit addresses ..} (e1:nsIn K K1 "law"=some (some (.ref f))) (e2:K.lookup f=some ⟨oc,od,.func (fnOf "law" "law" params body scope dV kV doc pm an cdv ct),sl⟩) (e3:codeIn K cdv "law"=true) ..:∃t,My.Txt K t
set_option maxRecDepth 100000 in
set_option maxHeartbeats 0 in
theorem PySem.Challenge.cw_LID_holds : PySem.Challenge.rw_LID.Holds := by
 w_on;o_law;k_head;(case hw=>w_witness2)
 k_fill
 refine L2.tT (l:=PySem.Challenge.rw_LID) (n:=63) (k:=40) (x:="script") (CX:=λw=>..) (sp:=λ_=>My.sp_law) rfl (by decide) rfl ⟨rfl,by decide,by decide⟩ (λw h Y=>PySem.W.kIn_of Y) ?F ?S ?C
 case F =>
  intro w q j h i G e;have T:∃t,My.Txt (L2.KOf i) t:=by
   dsimp only[L2.KOf]                          -- K must stand as «<heap const> w.params» for k_is
   refine' My.txt_mk ?e1 ?e2 ?e3 ..
   (case e1=>PySem.W.k_is)                    -- in the order: a name->its address->its object->its parts
   (case e2=>PySem.W.k_is)
   ..
  obtain⟨t,T⟩:=T;have m:=e.symm.trans (P3 i G T.law);cases m                                       -- j is the law's own address;exact⟨_,λs u=>.of_eq rfl,λc g f=>My.law_fn T g f⟩     -- if «.of_eq rfl» comes too early: refine' ⟨_,?b,λc g f=>My.law_fn T g f⟩;exact λs u=>.of_eq rfl
 case S=>exact λw H a z A p o=>..
 case C=>exact ..
(the tactic k_is has no namespace: write k_is) -/
namespace L2
open PySem PySem.Spec PyProof.Rows
def dS(s:X5):Arguments:=match s with
 |.FunctionDef _ a _ _ _ _ _ _ _ _=>a
 |_=>{ posonlyargs:=[],args:=[],vararg:=none,kwonlyargs:=[],kw_defaults:=[],kwarg:=none,defaults:=[] }
def cf(s:X5):List X5:=match s with
 |.FunctionDef _ _ b _ _ _ _ _ _ _=>b
 |_=>[]
def ah(s:X5):ae7:=match s with
 |.FunctionDef _ _ _ _ _ _ a _ _ _=>a
 |_=>{ kind:=.function,names:=[],isGenerator:=false,isCoroutine:=false }
abbrev CX0:CXT:=λ_ _ _ _ _ _=>False
abbrev E0:XK:=λ_ _ _=>False
theorem Cg{X:Cx}:rG CX0 X E0:=λ_ _ _ _ _ _ _ h=>h.elim
structure Fun(K:u8) (x qual:Str) (st:X5) (f:E9) (fd:J7):Prop where
 ex:∃(oc:s0) (od:Option E9) (kV doc pm:s0) (an:Option E9) (cdv ct:s0) (osl:Array (Option s0)),
  fd=Z9 x qual (dS st) (cf st) (ah st) .none kV doc pm an cdv ct/\K.lookup f=some ⟨oc,od,.func fd,osl⟩/\ad2 K cdv qual=true
 kp:U9 K (.ref f)=true
section
variable{P:K3}{w:P4}{K:u8}{G:Str->Option s0}{base:K0}{f:E9}{z:J7}
theorem Fun.ok{x b:Str}{st:X5}{f:E9}{z:J7}{N ps:List Str}{k:Nat}{sp:Sp}(F:Fun K x b st f z)(S:au N ps (ah st))(len:∀g H Q E,sp g H Q E->g.length=ps.length)
  (e:∀ (c:s0) (A:L6) (a:List Env) (s:E3) (H:Hp) (g:List V) (Q:VK) (E:XK),cg k (A.deeper (ag6 b (ah st) s.heap.objs.size f c)) → sp g H Q E →
   ∃t,PSs (kL CX0 P w K G base N b (ah st) f c A a s H E).nox (cf st) t/\t { nx:=λ_ o=>Q .non o,rt:=Q } (fO N g) H):aO P w K G base CX0 (k+1) f z ps sp:=by
 obtain⟨u,B,kV,l,I,J,c,C,p,rfl,n,j⟩:=F.ex;refine zy n j S len λA a s H g Q E m i=>?_;obtain⟨t,h,q⟩:=e c A a s H g Q E m i;exact⟨t,h.nox,q⟩
theorem Fun.binds{x a:Str}{st:X5}{f:E9}{z:J7}{ps:List Str}(F:Fun K x a st f z)
  (h:∀(kV b i:s0) (g:Option E9) (c ct:s0) (e:List s0),e.length=ps.length->bindArgs (Z9 x a (dS st) (cf st) (ah st) .none kV b i g c ct) ⟨e,[]⟩=ae6 (ps.zip e)):cY K z ps []:=by
 obtain⟨m,o,kV,b,i,g,c,ct,j,rfl,n,l⟩:=F.ex;exact .all (h kV b i g c ct)
theorem qZ{x a:Str}{st:X5}{f:E9}{m:s0}{j h:Option E9}{g:Array (Option s0)}{kV e i b ct:s0}(l:K.lookup f=some ⟨m,j,.func (Z9 x a (dS st) (cf st) (ah st) .none kV e i h b ct),g⟩)
  (c:ad2 K b a=true) (k:U9 K (.ref f)=true):Fun K x a st f (Z9 x a (dS st) (cf st) (ah st) .none kV e i h b ct):=⟨⟨m,j,kV,e,i,h,b,ct,g,rfl,l,c⟩,k⟩
end
theorem nJ{n:Nat}(h:n<=1000):n<F2:=Nat.lt_of_le_of_lt h (by decide)
section
variable{X:Cx}
theorem pv(i:Nat){x:Str}{pos:Pos}(e:X.N[i]?=some x:=by rfl)(c:Vis X.env.scope x:=by first|exact O8 rfl|exact Or.inr (O8 rfl)|exact Or.inr (Or.inr rfl))(b:(x==("__debug__":Str))=false:=by decide)
  (a:(x==("__classdict__":Str))=false:=by decide):PE X (.Name x pos) (vg i):=wc e c b a
end
theorem aV{c A B:Prop}[Decidable c](b:c->A)(a:¬ c->B):if c then A else B:=by
 by_cases h:c
 ·rw[if_pos h];exact b h
 ·rw[if_neg h];exact a h
section
variable{κ:Type} [DecidableEq κ]
def pO(a:List (κ×V))(k:κ):Option V:=(a.find? λb=>decide (b.1=k)).map (·.2)
def yZ(a:List (κ×V))(k:κ)(v:V):List (κ×V) :=
 if(a.any λb=>decide (b.1=k))=true then a.map (λb=>if b.1=k then(b.1,v)else b)else a++[(k,v)]
def Ez(a:List (κ×V))(k:κ):List (κ×V):=a.filter λb=>decide (b.1≠k)
theorem pP{p:κ×V}{r:List (κ×V)}{k:κ}(e:p.1=k):pO (p::r) k=some p.2:=by simp[pO,X7,e]
theorem qv{p:κ×V}{r:List (κ×V)}{k:κ}(e:¬ p.1=k):pO (p::r) k=pO r k:=by simp[pO,X7,e]
theorem vZ.getD{o:Option V}{u:Option s0}{d:V}{d':s0}(r:vZ o u)(rd:aH d d'):aH (o.getD d) (u.getD d'):=by
 cases o with
 |none=>cases u with
  |none=>exact rd
  |some _=>exact(show False from r).elim
 |some _=>cases u with
  |none=>exact(show False from r).elim
  |some _=>exact r
theorem KV.val{a:List (κ×V)}{g:List (κ×s0)}(r:KV a g)(k:κ):vZ (pO a k) (aq2 g k):=by
 unfold KV at r
 induction r with
 |nil=>exact True.intro
 |@cons p q l f h t ih =>
  obtain⟨i,j⟩:=h
  by_cases e:p.1=k
  ·have c:q.1=k:=i.symm.trans e;have b:aq2 (q::f) k=some q.2:=by simp[aq2,X7,c]
   rw[pP e,b];exact j
  ·have c:¬ q.1=k:=λz=>e (i.trans z);have b:aq2 (q::f) k=aq2 f k:=by simp[aq2,X7,c]
   rw[qv e,b];exact ih
theorem KV.any{a:List (κ×V)}{c:List (κ×s0)}(r:KV a c)(k:κ):(a.any λb=>decide (b.1=k))=c.any λb=>decide (b.1=k):=by
 unfold KV at r
 induction r with
 |nil=>rfl
 |cons h t ih=>rw[ac5,ac5,ih,h.1]
theorem KV.repl{b:List (κ×V)}{f:List (κ×s0)}(r:KV b f)(k:κ){y:V}{u:s0}(i:aH y u):
  KV (b.map λa=>if a.1=k then(a.1,y)else a) (f.map λa=>if a.1=k then(a.1,u)else a):=by
 unfold KV at r ⊢
 induction r with
 |nil=>exact .nil
 |@cons p q j l h t ih =>
  rw[K7,K7];refine .cons ?_ ih;obtain⟨c,g⟩:=h
  by_cases e:p.1=k
  ·rw[if_pos e,if_pos (c.symm.trans e)];exact⟨c,i⟩
  ·rw[if_neg e,if_neg (λz=>e (c.trans z))];exact⟨c,g⟩
theorem KV.put{a:List (κ×V)}{b:List (κ×s0)}(r:KV a b)(k:κ){y:V}{u:s0}(c:aH y u):KV (yZ a k y) (stored b k u):=by
 unfold yZ stored;rw[r.any k]
 by_cases e:(b.any λf=>decide (f.1=k))=true
 ·rw[if_pos e,if_pos e];exact r.repl k c
 ·rw[if_neg e,if_neg e];exact ac0.snoc r ⟨rfl,c⟩
theorem KV.length{a:List (κ×V)}{b:List (κ×s0)}(r:KV a b):a.length=b.length:=ac0.length r
end
structure M1(X:Cx) (o:L7) (m:Str) (dM:Pos) (e:L7) (bg:Pos):Prop where
 base:W9 o m X.env (Z1 o X.env)=Z1 o X.env
 few:((U4 bg (F0 [e] X.env)).all (λx=>!x.1)&&(ag7 bg (X6 [] X.env)).all (λx=>x.1.isSome)
 &&decide (([e]:List L7).length+([]:List af3).length+(if([]:List af3).isEmpty then 0 else 1)<30))=true
 line:(dM.endLine==bg.line)=true
 trees:U4 bg (F0 [e] X.env)=[(false,Z1 e X.env)]
structure M2(X:Cx) (o:L7) (m:Str) (dM:Pos) (e f:L7) (bg:Pos):Prop where
 base:W9 o m X.env (Z1 o X.env)=Z1 o X.env
 few:((U4 bg (F0 [e,f] X.env)).all (λx=>!x.1)&&(ag7 bg (X6 [] X.env)).all (λx=>x.1.isSome)
 &&decide (([e,f]:List L7).length+([]:List af3).length+(if([]:List af3).isEmpty then 0 else 1)<30))=true
 line:(dM.endLine==bg.line)=true
 trees:U4 bg (F0 [e,f] X.env)=[(false,Z1 e X.env),(false,Z1 f X.env)]
def aZ(X:Cx)(a:ae7)(c:List (Str×E9))(N:List Str)(C:E9)(s:E3)(H:Hp)(b:List E9):Cx where
 prog:=X.prog
 w:=X.w
 K:=X.K
 mg:=X.mg
 base:=X.base
 A:=X.A
 N:=N
 s₀:=s
 H₀:=H
 env:=compEnvC a c C X.env
 outer:=X.stack
 stack:=X.stack
 ex:=b
 calm:=X.calm
 fn:=λ_=>false
 pn:=[]
 xe:=λ_ _=>False
def bD:List Bool->St->St
 |true::b,v::a=>v::bD b a
 |false::b,_::a=>none::bD b a
 |[],_::a=>none::bD [] a
 |_,[]=>[]
theorem bJ:∀(ms:List Bool) (σ:St),(bD ms σ).length=σ.length
 |true::ms,v::σ=>by simp[bD,bJ ms σ]
 |false::ms,_::σ=>by simp[bD,bJ ms σ]
 |[],_::σ=>by simp[bD,bJ [] σ]
 |[],[]=>by simp[bD]
 |true::_,[]=>by simp[bD]
 |false::_,[]=>by simp[bD]
theorem gU:∀{ms:List Bool}{σ:St}{i:Nat}{v:V},(bD ms σ)[i]?=some (some v)->ms[i]?=some true/\σ[i]?=some (some v)
 |true::ms,v::σ,0,x,h=>by simpa[bD]using h
 |true::ms,v::σ,i+1,x,h=>by
  have:=gU (ms:=ms) (σ:=σ) (i:=i) (v:=x) (by simpa[bD]using h);simpa using this
 |false::ms,_::σ,0,x,h=>by simp[bD]at h
 |false::ms,_::σ,i+1,x,h=>by
  have:=gU (ms:=ms) (σ:=σ) (i:=i) (v:=x) (by simpa[bD]using h);simpa using this
 |[],_::σ,0,x,h=>by simp[bD]at h
 |[],_::σ,i+1,x,h=>by
  have:=gU (ms:=[]) (σ:=σ) (i:=i) (v:=x) (by simpa[bD]using h);simpa using this
 |[],[],_,_,h=>by simp[bD]at h
 |true::_,[],_,_,h=>by simp[bD]at h
 |false::_,[],_,_,h=>by simp[bD]at h
def hJ(ms:List Bool)(k:Nat)(σ:St):St:=bD ms σ++E5 k none
theorem uI{ms:List Bool}{k:Nat}{σ:St}{i:Nat}{v:V}(h:(hJ ms k σ)[i]?=some (some v)):i<σ.length/\ms[i]?=some true/\σ[i]?=some (some v):=by
 unfold hJ at h
 by_cases a:i<(bD ms σ).length
 ·rw[O0 a]at h;exact⟨by rwa [bJ]at a,gU h⟩
 ·rw[P5 (by lia),ac2]at h
  split at h<;>cases h
structure gh(X:Cx) (scope:ae7) (cl:List (Str×E9)) (ms:List Bool) (ar:List Str):Prop where
 kind:scope.kind=.function
 ncell:∀y∈scope.names,y.2≠.cell
 names:∀y∈scope.names,y.2=.local->scope.names.lookup y.1=some .local
 clos:closureFor scope X.env=ae6 cl
 sub:∀x c,cl.lookup x=some c->X.env.cells.lookup x=some c
 has:∀x,scope.names.lookup x=some .free->∃c,cl.lookup x=some c
 fr:∀x,scope.names.lookup x=some .free->X.env.scope.names.lookup x=some .cell∨X.env.scope.names.lookup x=some .free
 mask:∀(i:Nat) (x:Str),ms[i]?=some true->X.N[i]?=some x->scope.names.lookup x=some .free
 mlen:ms.length<=X.N.length
theorem i9{env:Env}:∀{names:List (Str×S8)}{x:Str}{k:S8},
  (names.map λ(n,k)=>if(k==W3&&env.scope.kind==.function&&env.kindOf n==some .cell)then(n,ag8)else(n,k)).lookup x=some k->(∀y∈names,y.2≠.cell)->k=.cell∨k=.free->names.lookup x=some .free
 |[],_,_,h,_,_=>by simp at h
 |(n,b)::r,x,k,h,g,f=>by
  have ih:=@i9 env r x k;have h:ao4 x ((if(b==W3&&env.scope.kind==.function&&env.kindOf n==some .cell)=true then(n,ag8)else(n,b))::_)=some k:=h;cases c:x==n with
  |true =>
   by_cases a:(b==W3&&env.scope.kind==.function&&env.kindOf n==some .cell)=true
   ·have:b=.free:=by
     simp at a;exact a.1.1
    subst this;simp[P1,c]
   ·rw[if_neg a]at h;simp only[P1,c]at h;cases h;rcases f with rfl|rfl
    ·exact absurd rfl (g (n,.cell) R0)
    ·simp[P1,c]
  |false =>
   by_cases a:(b==W3&&env.scope.kind==.function&&env.kindOf n==some .cell)=true
   ·rw[if_pos a]at h;simp only[P1,c]at h ⊢;exact ih h (λy e=>g y (I0 _ e)) f
   ·rw[if_neg a]at h;simp only[P1,c]at h ⊢;exact ih h (λy e=>g y (I0 _ e)) f
theorem i7{env:Env}:∀{names:List (Str×S8)}{x:Str},names.lookup x=some .free ->
  (names.map λ(n,k)=>if(k==W3&&env.scope.kind==.function&&env.kindOf n==some .cell)then(n,ag8)else(n,k)).lookup x=some .cell ∨
  (names.map λ(n,k)=>if(k==W3&&env.scope.kind==.function&&env.kindOf n==some .cell)then(n,ag8)else(n,k)).lookup x=some .free
 |[],_,h=>by simp at h
 |(n,b)::r,x,h=>by
  have ih:=@i7 env r x;show ao4 x ((if(b==W3&&env.scope.kind==.function&&env.kindOf n==some .cell)=true then(n,ag8)else(n,b))::_)=_∨ao4 x ((if(b==W3&&env.scope.kind==.function&&env.kindOf n==some .cell)=true then(n,ag8)else(n,b))::_)=_;cases a:x==n with
  |true =>
   simp only[P1,a]at h;cases h
   split
   ·left;simp[P1,a]
   ·right;simp[P1,a]
  |false =>
   simp only[P1,a]at h
   split<;>(simp only[P1,a];exact ih h)
section
variable{X:Cx}{Y:List (E9×Obj)}{σ:St}{H H2:Hp}{s J:E3}{G:ae7}{O:List (Str×E9)}{ms:List Bool}{ar:List Str}
theorem wW(I:Inv X Y σ H s)(S:gh X G O ms ar){i:List E9}(a:∀b∈i,eQ X Y H b)(j:∀b∈i,b<s.heap.objs.size){C:E9}(l:s.heap.objs.size<=C):
  (aZ X G O (X.N++ar) C s H i).Ok where
 mod:=I.ok.mod
 kind:=S.kind
 glob:=I.ok.glob
 blt:=I.ok.blt
 above:=l
 inj:=λx y c m n=>I.ok.inj x y c (S.sub x c m) (S.sub y c n)
 has:=λx g=>S.has x (i9 (env:=X.env) (k:=if(aZ X G O (X.N++ar) C s H i).env.kindOf x=some .cell then .cell else .free) (by
  rcases g with g|g
  ·rw[if_pos g];exact g
  ·rw[if_neg (by rw[g];decide)];exact g) S.ncell (by split<;>simp))
 cab:=λx c h=>by cases h
 hd:=I.ok.hd
 frames:=I.ok.frames
 stk:=.inl rfl
 exf:=λb f=>⟨K5 (J0 (j b f) l),λx c e=>(a b f).2.2.2.2.1 x c (S.sub x c e)⟩
 bs:=I.bs
 bsz:=L5 I.ok.bsz I.sz
 noex:=λb o e f=>by
  rcases(a b f).2.2.2.1 with z|z
  ·exact I.ok.noex b o e z
  ·exact absurd (J0 (F9 e) (L5 I.ok.bsz z)) (Z7 _)
 exfs:=λb f z=>by
  rcases F8.mp (I.stkSub b z)with e|e
  ·exact(a b f).2.1 e
  ·exact(a b f).2.2.1 e
 funs:=I.stack
 frf:=I.stkFree
theorem yQ(I:Inv X Y σ H s)(S:gh X G O ms ar){h:List E9}(A:∀b∈h,eQ X Y H b)(t:∀b∈h,b<s.heap.objs.size){C:E9}(M:s.heap.objs.size<=C)
  (os:J.os=s.os) (a:aj1 J.gens) (keep:∀b o,s.heap.get? b=some o->J.heap.get? b=some o) {m:Str->Option s0} (hn:J.heap.Ns C m) :
  Inv (aZ X G O (X.N++ar) C s H h) [] (hJ ms ar.length σ) H J where
 ok:=wW I S A t M
 os:=os
 bare:=a
 base:=Un.kept keep
 loc:=⟨m,hn,λi x v R T h3=>by
  obtain⟨hi,Z,Q⟩:=uI T;have q:i<X.N.length:=by rw[<-I.len];exact hi
  have L:X.N[i]?=some x:=by
   have n:(X.N++ar)[i]?=some x:=R
   rwa [O0 q]at n
  have f:=S.mask i x Z L;obtain⟨m0,N,U⟩:=I.loc;obtain⟨u,r,l⟩:=U i x v L Q (by rcases S.fr x f with z|z<;>simp[Vis,z]);refine⟨u,r,.inr ⟨?_,?_⟩⟩
  ·exact i7 (env:=X.env) f
  ·obtain⟨c,E⟩:=S.has x f;have g:=S.sub x c E;rcases l with⟨k,_⟩|⟨_,c',e,z⟩
   ·rcases S.fr x f with z|z<;>(have B:X.env.scope.names.lookup x=some .local:=k;rw[z]at B;cases B)
   ·rw[g]at e;cases e;obtain⟨o,w,j⟩:=z;exact⟨c,E,o,keep _ _ w,j⟩⟩
 cell:=λx c e=>by
  obtain⟨v,o,w,j⟩:=I.cell x c (S.sub x c e);exact⟨v,o,keep _ _ w,j⟩
 free:=I.hok.fresh M
 freeC:=λx c e=>I.freeC x c (S.sub x c e)
 pin:=λp P=>absurd (show p∈([]:List (E9×Obj))from P) (by simp)
 hok:=I.hok.kept keep
 len:=by
  unfold hJ;rw[E8,bJ,N6,I.len];show _=(X.N++ar).length;rw[E8]
end
def PIf(X:Cx)(b:List L7)(t:TT):Prop :=
 ∀(e:List (E9×Obj)) (s:E3) (a:St) (H:Hp) (Q:Bool->Hp->Prop),Inv X e a H s->t a H Q ->
  H0 (M8 X.prog X.w) X.A (forIn b true λc r=>if r=true then do let ok <-isTrue c X.env (Z1 c X.env);ae6 (V2 ok)else ae6 (V2 r)) (TP X e a Q) X.xe s
def Ej:TT:=λ_ H Q=>Q true H
theorem za{X:Cx}:PIf X [] Ej:=λ_ _ _ H _ I h=>wpAny_tests_nil ⟨H,I,h⟩
abbrev fJ(a:List s0)(n:Nat):Obj:={ cls:=.type "list",data:=.seq a.toArray n }
theorem thF{b:Type}{t:Sem b}{Q c:b->E3->Prop}{M:ap6}{A:L6}{E:s0->E3->Prop}{s:E3}(f:E=λ_ _=>False)(h:H0 M A t Q E s)(g:∀a s,Q a s->c a s):H0 M A t c (λ_ _=>False) s:=Q5 h g λe s x=>by rw[f]at x;exact x
abbrev lcE(el:L7)(a:List aj6)(b:ae7)(ps:Pos):L7:=.ListComp el a b ps
section
variable{prog:K3}{w:P4}{A:L6}{R:ar0->E3->Prop}{s:E3}{el Y G i:L7}{fs:List L7}{k:Nat}{p:Pos}{it z:s0}{env:Env}{J:List aj6}{O:ae7}{ps:Pos}
abbrev AWt:=(E3->Prop)->E3->Prop
def uj(prog:K3)(w:P4)(A:L6)(G:L7)(z:s0)(env:Env):AWt:=λOk s=>H0 (M8 prog w) A (Z1 G env) (λx a=>H0 (M8 prog w) A (aq8 (.builtin "list.append") [z,x]) (λ_ b=>Ok b) (λ_ _=>False) a) (λ_ _=>False) s
def BX(a:L7)(k:Nat)(p:Pos)(Y:L7)(fs:List L7)(b:s0->s0->Env->Sem Fin):Prop:=∀it z env,compTurn a k it z env=(do
  ap7 p
  let r <-ap8 it
  match r with
   |none=>ae6 (Fin.done Flow.next)
   |some v=>do
    ag3 Y it v
    al5 Y env v
    let ok <-forIn fs true λc r=>if r=true then do let ok <-PySem.isTrue c env (Z1 c env);ae6 (V2 ok)else ae6 (V2 r)
    if ok=true then b it z env else again (am6 a k it z env))
def A0(prog:K3)(w:P4)(A:L6)(h:L7)(k:Nat)(c:s0->s0->Env->Sem Fin)(it z:s0)(env:Env)(g:AWt):Prop :=
 ∀Ok s (R:ar0->E3->Prop) (E:s0->E3->Prop),g Ok s->H0 (M8 prog w) A (c it z env) (λa b=>match a with|.done f=>R (.ok f) b|.again e=>e=am6 h k it z env/\Ok b) E s
theorem mx{q:s0->s0->Env->Sem Fin}{t:AWt}(u:BX (lcE el J O ps) k p Y fs q)(B:(am6 (lcE el J O ps) k it z env).quiet=true:=by rfl)(E:A0 prog w A (lcE el J O ps) k q it z env t)(I:Nat->E3->Prop)
  (l:∀ n s,I n s → H0 (M8 prog w) A (ap8 it) (λr a => match r with
   |none=>R (.ok .next) a
   | some v => H0 (M8 prog w) A (ag3 Y it v) (λ_ a => H0 (M8 prog w) A (al5 Y env v) (λ_ g =>
     H0 (M8 prog w) A (forIn fs true λc r=>if r=true then do let ok <-isTrue c env (Z1 c env);ae6 (V2 ok)else ae6 (V2 r)) (λok e =>
      if ok=true then t (λo=>∃m,m<n/\I m o) e
      else ∃m,m<n/\I m e) (λ_ _=>False) g) (λ_ _=>False) a) (λ_ _=>False) a) (λ_ _=>False) s)
  (n:Nat) (h:I n s) :
  am0 (M8 prog w) A (.compLoop (lcE el J O ps) k it z env) R s:=by
 refine codeAny_loop B I (λn s C=>?_) n h;show H0 _ A ((compTurn (lcE el J O ps) k it z env).onRaise (λx=>do ao8 x env;theTreesLotGoes x)) _ _ s;refine wpAny_noted ?_;rw[u];refine o0 (ag2 (o0 (Q5 (l n s C) (λr a b=>?_) λ_ _ i=>i.elim)));cases r with
 |none=>exact E1 b
 |some v =>
  refine o0 (Q5 b (λ_ G b=>?_) λ_ _ i=>i.elim);refine o0 (Q5 b (λ_ g j=>o0 (Q5 j (λok e f=>?_) λ_ _ i=>i.elim)) λ_ _ i=>i.elim);cases ok with
  |false=>exact E1 ⟨rfl,f⟩
  |true=>exact E _ _ _ _ f
def zZ(a:L7)(k:Nat)(G:L7):s0->s0->Env->Sem Fin:=λit z env=>bind (bind (Z1 G env) λx=>bind (aq8 (aj7 "list.append") [z,x]) λ_=>ae6 ()) λ(_:Unit)=>again (am6 a k it z env)
theorem y7:A0 prog w A (lcE el J O ps) k (zZ (lcE el J O ps) k G) it z env (uj prog w A G z env):=λOk s R E h =>
 o0 (o0 (Q5 h (λx f b=>o0 (Q5 b (λ_ e a=>E1 (E1 ⟨rfl,a⟩)) λ_ _ c=>c.elim)) λ_ _ c=>c.elim))
end
abbrev BK:=List V->St->Hp->(List V->St->Hp->Prop)->Prop
def oY(J:It)(g:TG)(tc:TT)(B:BK)(W:Nat->Nat->List V->St->Hp->Prop)(Z:List V->St->Hp->Prop):Prop :=
 ∀i m e h H,W i m e h H->e.length<=F2/\((J.stop i H/\Z e h H) ∨
  (J.go i H/\∀x f,J.yld i H x f->g x h f λa o=>tc a o λb n=>if b=true then B e a n (λl j f=>∃c,c<m/\W (i+1) c l j f)else ∃c,c<m/\W (i+1) c e a n))
def qj(te:TE):BK:=λb a H Z=>te a H λy c=>Z (b++[y]) a c
section
variable{Y:Cx}{D:E9}{el J G i1:L7}{fs:List L7}{g:TG}{tc:TT}{te:TE}{wi:TI}{B:BK}{k:Nat}{p:Pos}{O:List aj6}{sc:ae7}{ps:Pos}
def zA(Y:Cx)(D:E9)(l:AWt)(B:BK):Prop:=∀(P:List (E9×Obj)) (b:List s0) (i:Nat) (f:List V) (g:St) (H:Hp) (s:E3) (Z:List V->St->Hp->Prop),Inv Y ([(D,fJ b i)]++P) g H s->az f b->f.length<=F2->(∀p∈P,p.1≠D)->B f g H Z ->
 l (λm=>∃e a j c h,Inv Y ([(D,fJ a j)]++P) c h m/\az e a/\Z e c h) s
structure mZ(Y:Cx) (D:E9):Prop where
 pn:Y.pn=[]
 calm:Y.calm=true
 xe:Y.xe=λ_ _=>False
 ex:D∈Y.ex∨Y.s₀.heap.objs.size<=D
 cell:∀x c,Y.env.cells.lookup x=some c->c≠D
theorem AWt.mono_leaf{prog:K3}{w:P4}{A:L6}{b:s0}{env:Env}{Ok a:E3->Prop}{s:E3}(h:uj prog w A G b env Ok s)(k:∀s,Ok s->a s):uj prog w A G b env a s :=
 Q5 h (λ_ _ c=>Q5 c (λ_ _ e=>k _ e) λ_ _ x=>x) λ_ _ x=>x
theorem xo(c:mZ Y D)(he:PE Y G te):zA Y D (uj Y.prog Y.w Y.A G (.ref D) Y.env) (qj te):=by
 intro P f x X j H s Z I w R t q;refine thF c.xe (he _ s j H _ I q) λv C l=>l.el λy E m T L=>?_;have a:=m.pin (D,fJ f x) (K9 _ (ab0 _ R0));have u:f.toArray.size<=F2:=by rw[F7,<-w.length];exact R
 refine PySem.wpAny_list_append_plain (hsz:=u) ⟨x,a.1⟩ λN g i=>?_;obtain⟨A,g⟩:=g;have n:Inv Y [] j E { C with heap:=N } :=
  Inv.turned (t':=C.toks) (it:=D) (m.pins_of λp h=>absurd h (by simp)) (λb o O e=>(i.2 b O).trans e) a.2.1 a.2.2.1 c.ex c.cell (λp h=>absurd (show p∈([]:List (E9×Obj))from by rw[c.pn]at h;exact h) (by simp))
 refine⟨X++[y],f++[v],A,j,E,n.pins_of λp h=>?_,w.append (.cons T .nil),L⟩;rcases P7.mp h with z|z
 ·have e:p=(D,fJ (f++[v]) A):=F5.mp z;subst e;refine⟨?_,a.2.1,a.2.2.1,a.2.2.2.1,λv z=>by cases z⟩;rw[g];simp[fJ]
 ·obtain⟨S,Q,J,M,U⟩:=m.pin p (K9 _ (K9 _ z));exact⟨(i.2 _ (t p z)).trans S,Q,J,M,U⟩
structure Lv(Y:Cx) (D:E9) (ce:L7) (k:Nat) (p:Pos) (J:L7) (fs:List L7) (B:BK):Prop where
 ex:∃bd AW,BX ce k p J fs bd/\(∀it,A0 Y.prog Y.w Y.A ce k bd it (.ref D) Y.env AW)/\zA Y D AW B/\∀{Ok Ok':E3->Prop} {s:E3},AW Ok s->(∀s,Ok s->Ok' s)->AW Ok' s
theorem zd(c:mZ Y D)(he:PE Y G te)(a:BX (lcE el O sc ps) k p J fs (zZ (lcE el O sc ps) k G)):Lv Y D (lcE el O sc ps) k p J fs (qj te):=⟨_,_,a,λ_=>y7,xo c he,AWt.mono_leaf⟩
theorem vq(c:mZ Y D)(L:Lv Y D (lcE el O sc ps) k p J fs B){Z:E9}
  (hg:PG Y J g) (b4:PIf Y fs tc) {P:List (E9×Obj)} (b':∀p∈P,p.1≠D)
  {its0:List s0} {nn0:Nat} {G:List V} {σ:St} {H:Hp} {s:E3} (I:Inv Y ([(D,fJ its0 nn0)]++P) σ H s) (b3:az G its0) {l:List E9} {w:Nat->K0->Prop} {J2:It} (T:oH Y.prog Y.w Y.K J J2 l Z w) (st:w 0 s.heap)
  (f:∀b∈l,eQ Y ([(D,fJ its0 nn0)]++P) H b) {W2:Nat->Nat->List V->St->Hp->Prop} {Z2:List V->St->Hp->Prop} {m0:Nat} (w0:W2 0 m0 G σ H) (N:oY J2 g tc B W2 Z2) {R:ar0->E3->Prop}
  (hR:∀(s':E3) (ys:List V) (a:List s0) (n:Nat) (j:St) (t:Hp),Inv Y ([(D,fJ a n)]++P) j t s'->az ys a->ys.length<=F2->Z2 ys j t->R (.ok .next) s') :
  am0 (M8 Y.prog Y.w) Y.A (.compLoop (lcE el O sc ps) k (.ref Z) (.ref D) Y.env) R s:=by
 obtain⟨bd,AW,hT,q,hB,b2⟩:=L.ex;have E:∀{H:Hp} {n:Nat} {a:List s0},(∀b∈l,H b=none)->∀b∈l,eQ Y ([(D,fJ a n)]++P) H b:=λhn b q=>by
  obtain⟨_,a1,a2,a3,a4,a5⟩:=f b q;refine⟨hn b q,a1,a2,a3,a4,λp hp=>?_⟩;rw[c.pn,M9]at hp;rcases P7.mp hp with z|z
  ·obtain rfl:=F5.mp z;exact a5 (D,fJ its0 nn0) (by rw[c.pn];simp)
  ·exact a5 p (by rw[c.pn];simp[z])
 refine mx hT rfl (q _) (λn s'=>∃i ys a A j t,Inv Y ([(D,fJ a A)]++P) j t s'/\az ys a/\w i s'.heap/\(∀b∈l,t b=none)/\W2 i n ys j t) ?_ m0
  ⟨0,G,its0,nn0,σ,H,I,b3,st,λb q=>(f b q).1,w0⟩
 rintro n s' ⟨i,ys,a,A,j,t,I4,rv,a0,Q,w4⟩;obtain⟨hz,h⟩:=N i n ys j t w4;rcases h with⟨stop,hZ⟩|⟨go,step⟩
 ·refine thn (T.done Y rfl rfl rfl c.calm i _ s' _ t (λ_ _=>False) I4 (E Q) a0 stop) λr s4 ⟨hr,I5⟩=>?_;subst hr;exact hR s4 ys a A j t I5 rv hz hZ
 ·refine thn (T.item Y rfl rfl rfl c.calm i _ s' _ t (λ_ _=>False) I4 (E Q) a0 go) λr s5 ⟨u,hr,h5⟩=>?_;subst hr;refine thn h5 λ_ s6 ⟨x,H6,I6,r6,y6,C,c0⟩=>?_;have b0:=I6.pinned (E c0) (T.obj _ _ C);refine thF c.xe (hg _ s6 _ H6 x u _ b0 r6 (step x H6 y6)) λ_ s7 ⟨M,H7,I7,q7⟩=>?_;refine thF c.xe (b4 _ s7 M H7 _ I7 q7) λok s8 a'=>a'.el λH8 I8 q8=>?_;have m:∀{a:List s0} {A:Nat} {X:St} {H9:Hp} {s9:E3},Inv Y (([(D,fJ a A)]++P)++il l s6.heap) X H9 s9->w (i+1) s9.heap/\∀b∈l,H9 b=none:=λ{a A X H9 s9} I9 =>
   ⟨T.keep _ _ _ C λb q o e=>(I9.pin (b,o) (K9 _ (K9 _ (fm q e)))).1,λb q=>by
    obtain⟨o,e,d⟩:=T.obj _ _ C b q;exact(I9.pin (b,o) (K9 _ (K9 _ (fm q e)))).2.1⟩
  cases ok with
  |false =>
   obtain⟨m',hm,w8⟩:=q8;obtain⟨a8,b8⟩:=m I8;exact⟨m',hm,i+1,ys,a,A,M,H8,I8.unpinned,rv,a8,b8,w8⟩
  |true =>
   have U:∀p∈P++il l s6.heap,p.1≠D:=λp hp=>by
    rcases P7.mp hp with z|z
    ·exact b' p z
    ·have q:=(mR z).1;intro e;exact(f _ q).2.2.2.2.2 (D,fJ its0 nn0) (by rw[c.pn];simp) e.symm
   refine b2 (hB (P++il l s6.heap) a A ys M H8 s8 _ (by rw[<-List.append_assoc];exact I8) rv hz U q8) ?_;rintro s9 ⟨b5,S,n',j,t,I',b1,m',hm,w'⟩;rw[<-List.append_assoc]at I';obtain⟨a9,b9⟩:=m I';exact⟨m',hm,i+1,b5,S,n',j,t,I'.unpinned,b1,a9,b9,w'⟩
end
section
variable{X:Cx}{ae:List (E9×Obj)}{σ O:St}{H2 H':Hp}{I s':E3}{G:ae7}{Y:List (Str×E9)}{ms:List Bool}{ar:List Str}{elt t0 i0:L7}{f0:List L7}{gs:List aj6}{g0:TG}{tc0:TT}{B:BK}{p pos:Pos}
theorem nM(S:gh X G Y ms ar)(iM:X.calm=true)
  (a3:∀C s H A,PG (aZ X G Y (X.N++ar) C s H A) t0 g0) (a1:∀C s H A,PIf (aZ X G Y (X.N++ar) C s H A) f0 tc0)
  (hL:∀C s H A D,mZ (aZ X G Y (X.N++ar) C s H A) D->Lv (aZ X G Y (X.N++ar) C s H A) D (lcE elt (⟨t0,i0,f0,0⟩::gs) G pos) 0 p t0 f0 B)
  (t:Inv X ae σ H2 I) {it:E9} {u:List E9} {tn:Nat->K0->Prop} {J:It} (T:oH X.prog X.w X.K t0 J u it tn) (st2:tn 0 I.heap) (fz:∀b∈u,eQ X ae H2 b)
  {W:Nat->Nat->List V->St->Hp->Prop} {Z:List V->St->Hp->Prop} {m0:Nat} (w0:W 0 m0 [] (hJ ms ar.length σ) H2) (L:oY J g0 tc0 B W Z)
  {RR:s0->E9->ar0->E3->Prop} {E:s0->E3->Prop}
  (a2:∀ (s':E3) (ys:List V) (j:List s0) (n:Nat) (O:St) (H':Hp),Inv (aZ X G Y (X.N ++ ar) (I.heap.objs.size + 1) I H2 u) [(I.heap.objs.size,fJ j n)] O H' s' → az ys j → ys.length ≤ F2 → Z ys O H' →
   RR (.ref I.heap.objs.size) (I.heap.objs.size+1) (.ok .next) s') :
  H0 (M8 X.prog X.w) X.A (newList []) (λR g=>H0 (M8 X.prog X.w) X.A (newFunctionEnv G X.env.globals Y [] X.env.qual none .none (some X.env)) (λq N =>
   am0 (M8 X.prog X.w) X.A (.compStart (lcE elt (⟨t0,i0,f0,0⟩::gs) G pos) 0 (.ref it) R { q with scope:=relabel G X.env }) (RR R q.locals) N) E g) E I:=by
 refine U8 (wpAny_newFunctionEnv S.ncell (by intro y hy;simp at hy) (λh f a=>?_) S.kind);dsimp only at f a ⊢;have a8:(I.heap.push { cls:=.type "list",dict:=none,data:=.seq ([]:List s0).toArray }).objs.size=I.heap.objs.size+1:=by rw[T4]
 rw[a8]at f a ⊢;have l:∀b∈u,b<I.heap.objs.size:=λb i=>by
  obtain⟨o,e,_⟩:=T.obj _ _ st2 b i;exact F9 e
 have w:∀b o,I.heap.get? b=some o->h.get? b=some o:=λb o e=>a.extBut b o (K5 (R9 (F9 e))) (E2 _ (E2 _ e));have Q:h.get? I.heap.objs.size=some (fJ [] 0):=a.extBut _ _ (K5 (Z5 _)) (E2 _ (F6 _ rfl));have a4:H2 I.heap.objs.size=none:=t.hok.fresh (F3 _);have a0:∀b,I.heap.objs.size<=b->b∉(aZ X G Y (X.N++ar) (I.heap.objs.size+1) I H2 u).fs:=λb i z=>by
  rcases F8.mp (t.stkSub b z)with e|e
  ·subst e;exact absurd (J0 t.lt i) (Z7 _)
  ·exact t.nofs i e
 have m:∀g:E3,g={ I with heap:=h,toks:=I.toks+([]:List (Str×s0)).length } ->
   am0 (M8 X.prog X.w) X.A (.compLoop (lcE elt (⟨t0,i0,f0,0⟩::gs) G pos) 0 (.ref it) (.ref I.heap.objs.size) (compEnvC G Y (I.heap.objs.size+1) X.env)) (RR (.ref I.heap.objs.size) (I.heap.objs.size+1)) g:=by
  rintro g rfl;have I3:Inv (aZ X G Y (X.N++ar) (I.heap.objs.size+1) I H2 u) [] (hJ ms ar.length σ) H2 { I with heap:=h,toks:=I.toks+([]:List (Str×s0)).length } :=
   yQ t S fz l (af4 _) rfl t.bare w f
  have c:mZ (aZ X G Y (X.N++ar) (I.heap.objs.size+1) I H2 u) I.heap.objs.size:=⟨rfl,iM,rfl,.inr (F3 _),λx c e=>by
   obtain⟨v,o,ho,_⟩:=t.cell x c (S.sub x c e);exact K5 (F9 ho)⟩
  refine vq c (hL _ _ _ _ _ c) (a3 _ _ _ _) (a1 _ _ _ _) (P:=[]) (λp M=>nomatch M) (its0:=[]) (nn0:=0) (I3.pins_of λp M=>?_) .nil T (T.keep _ _ _ st2 λb _ o e=>w b o e) (λb i=>?_) w0 L ?_
  ·have e:p=(I.heap.objs.size,fJ [] 0):=F5.mp M;subst e;exact⟨Q,a4,K5 (Z5 _),a0 _ (F3 _),λv z=>by cases z⟩
  ·exact⟨(fz b i).1,K5 (R9 (l b i)),(wW t S fz l (af4 _)).exfs b i,.inl i,λx c e=>(fz b i).2.2.2.2.1 x c (S.sub x c e),λp M=>by
    have:p=(I.heap.objs.size,_):=F5.mp (show p∈[(I.heap.objs.size,_)]from M);subst this;exact ad6 (l b i)⟩
  ·exact λs' ys j n O H' I' rv hz hZ=>a2 s' ys j n O H' I' rv hz hZ
 exact codeAny_compStart_list (m _ rfl) (T.self _ 0 _ _ _ (T.keep _ _ _ st2 λb _ o e=>w b o e) (m _ rfl))
end
section
variable{X:Cx}{ae:List (E9×Obj)}{σ σ':St}{H2 H':Hp}{Y s':E3}{G:ae7}{cl:List (Str×E9)}{ms:List Bool}{ar:List Str}{tg O elt:L7}{ifs:List L7}{g:TG}{tc:TT}{te:TE}{pos p:Pos}{B:BK}{gs:List aj6}
theorem nr(O:Inv X ae σ H2 Y){t:List E9}(w:∀b∈t,eQ X ae H2 b){f:List s0}{n:Nat}{ys:List V}
  (j:Inv (aZ X G cl (X.N++ar) (Y.heap.objs.size+1) Y H2 t) [(Y.heap.objs.size,fJ f n)] σ' H' s') (J:az ys f) (M:ys.length<=F2) {h':K0} (hs:O6 (Y.heap.objs.size+1) s'.heap h') :
  Inv X ae σ (upd H' Y.heap.objs.size (.lst ys)) { s' with heap:=h' }/\H' Y.heap.objs.size=none:=by
 have g:=j.pin (Y.heap.objs.size,fJ f n) (K9 _ R0);have P:H' (Y.heap.objs.size+1)=none:=j.free;have H:H' Y.heap.objs.size=none:=g.2.1;have up:∀b o,b≠Y.heap.objs.size+1->s'.heap.get? b=some o->h'.get? b=some o:=λb o a e=>(hs.2 b a).trans e;have s:∀b u,H' b=some u->b≠Y.heap.objs.size:=λb u e z=>by rw[z,H]at e;cases e
 have E:∀b u,H' b=some u->b≠Y.heap.objs.size+1:=λb u e z=>by rw[z,P]at e;cases e
 have l:h'.get? Y.heap.objs.size=some (fJ f n):=up _ _ (K5 (Z5 _)) g.1;have A:HOk X.prog X.w (upd H' Y.heap.objs.size (.lst ys)) h':=λb u e=>by
  by_cases a:b=Y.heap.objs.size
  ·subst a;rw[aT]at e;cases e;exact⟨M,f,n,J,l⟩
  ·rw[aE a]at e;refine(j.hok b u e).stay (λc v B q=>up c v ?_ q) (λc q=>by rw[aE (s c _ q)];exact q) λc C q=>by rw[aE (s c _ q)];exact q
   rcases B with rfl|B
   ·exact E _ _ e
   ·exact E _ _ B
 have un:Un (frs X.stack) t H2 (upd H' Y.heap.objs.size (.lst ys)) Y.heap h':=by
  have U:=j.base;have x:∀b o,Y.heap.get? b=some o->b≠Y.heap.objs.size:=λb o e=>K5 (F9 e);have h:∀b o,Y.heap.get? b=some o->b≠Y.heap.objs.size+1:=λb o e=>K5 (R9 (F9 e));refine⟨λb o e p a i=>up b o (h b o e) (U.keep b o e p a i),λb o e p a i=>?_,λb o e p i=>by rw[aE (x b o e)];exact U.free b o e p i,λb o e i=>?_,
   λb C e=>by have q:=U.tups b C e;rw[aE (s b _ q)];exact q,λb o u e=>by have q:=U.frzs b o u e;rw[aE (s b _ q)];exact q,λb L e=>?_⟩
  ·obtain⟨N,q⟩:=U.slot b o e p a i;exact⟨N,up b _ (h b o e) q⟩
  ·obtain⟨I,q⟩:=U.there b o e i;exact⟨I,up b _ (h b o e) q⟩
  ·obtain⟨m,q⟩:=U.tbls b L e;exact⟨m,by rw[aE (s b _ q)];exact q⟩
 exact⟨O.call' (s':={ s' with heap:=h' }) (ch:=t) j.os un A j.bare λb a=>⟨(w b a).2.2.2.1,(w b a).2.1,(w b a).2.2.2.2.1,(w b a).2.2.2.2.2⟩,H⟩
def BB(ms:List Bool)(k:Nat)(b:TI)(g:TG)(tc:TT)(B:BK):TE:=λσ H Q=>b σ H λJ c=>∃(W:Nat->Nat->List V->St->Hp->Prop) (Z:List V->St->Hp->Prop),(∃m,W 0 m [] (hJ ms k σ) c)/\oY J g tc B W Z /\
 ∀a σ' H p,Z a σ' H->H p=none->Q (.ref p) (upd H p (.lst a))
abbrev tLc(ms:List Bool)(k:Nat)(a:TI)(g:TG)(tc:TT)(te:TE):TE:=BB ms k a g tc (qj te)
abbrev LvC(X:Cx)(G:ae7)(cl:List (Str×E9))(ar:List Str)(b:L7)(p:Pos)(tg:L7)(ifs:List L7)(B:BK):Prop:=∀C s H a D,mZ (aZ X G cl (X.N++ar) C s H a) D->Lv (aZ X G cl (X.N++ar) C s H a) D b 0 p tg ifs B
theorem AJ(S:gh X G cl ms ar)(L:X.calm=true){l:TI}(hi:PI X tg O l)
  (hg:∀C s H i,PG (aZ X G cl (X.N++ar) C s H i) tg g) (f:∀C s H i,PIf (aZ X G cl (X.N++ar) C s H i) ifs tc) (hL:LvC X G cl ar (lcE elt (⟨tg,O,ifs,0⟩::gs) G pos) p tg ifs B)
  (hs:∀x,X2 O X.env x=ae6 x:=by intro _;rfl):PE X (lcE elt (⟨tg,O,ifs,0⟩::gs) G pos) (BB ms ar.length l g tc B):=by
 intro ae s σ H Q I h;rw[eval_ListComp];refine wpAny_comprehension_free (use:=none) rfl hs S.clos S.kind S.names (thn (hi ae s σ H _ I h) λv s1 h1=>thn h1 λN Y w=>?_);obtain⟨it,fp,tn,J,H2,e,t,T,st2,o,W,Z,⟨m0,z⟩,a,q⟩:=w;subst e;refine nM S L hg f hL t T st2 o z a (RR:=λb C=>compPost (M8 X.prog X.w) X.A X.xe none (EP X ae σ Q) b C) ?_;intro s' P u n σ' H' j U A M;obtain⟨m,E,_⟩:=j.loc;refine⟨m,E,λh' c=>?_⟩;obtain⟨I3,R⟩:=nr t o j U A c;exact⟨.ref Y.heap.objs.size,_,I3,rfl,q P _ H' _ M R⟩
theorem uV{i:Nat}{x:Str}{j f:Pos}(hN:X.N.Nodup)(a2:X.N[i]?=some x)(hx:X.env.scope.names.lookup x=some .local)
  (a1:ak3 (lcE elt (⟨tg,O,ifs,0⟩::gs) G pos) (some (.Name x f)) j.line X.env=ae6 true)
  (S:gh X G cl ms ar) (iM:X.calm=true) {wi:TI} (hi:PI X tg O wi)
  (hg:∀C s H ex,PG (aZ X G cl (X.N++ar) C s H ex) tg g) (a0:∀C s H ex,PIf (aZ X G cl (X.N++ar) C s H ex) ifs tc) (U:LvC X G cl ar (lcE elt (⟨tg,O,ifs,0⟩::gs) G pos) p tg ifs B)
  (hs:∀x,X2 O X.env x=ae6 x:=by intro _;rfl):PS X (.Assign [.Name x f] (lcE elt (⟨tg,O,ifs,0⟩::gs) G pos) j) (Bc (BB ms ar.length wi g tc B) (p8 i)):=by
 intro ae s σ H D I h;rw[exec_Assign_Name_used _ _ _ _ a1];refine o0 (ag2 (o0 ?_));show H0 _ _ (do let _ <-comprehension (lcE elt (⟨tg,O,ifs,0⟩::gs) G pos) G X.env _ (newList []) false (Z1 O X.env) (some (al5 (.Name x f) X.env))) _ _ s;refine o0 (Q5 (wpAny_comprehension_free (use:=some (al5 (.Name x f) X.env)) (Q:=λ_ s'=>SP X ae D .next s') rfl hs S.clos S.kind S.names
  (thn (hi ae s σ H _ I h) λv s1 h1=>thn h1 λa8 Y h2=>?_)) (λ_ s' hq=>E1 (E1 hq)) λ_ _ e=>e)
 obtain⟨it,fp,tn,J,H2,e,t,T,st2,f2,W,Z,⟨m0,w0⟩,u,q⟩:=h2;subst e;refine nM S iM hg a0 U t T st2 f2 w0 u (RR:=λA C=>compPost (M8 X.prog X.w) X.A X.xe (some (al5 (.Name x f) X.env)) (λ_ s'=>SP X ae D .next s') A C) ?_;intro s' ys a5 n σ' H' M rv hz hZ;obtain⟨m,hm,_⟩:=M.loc;obtain⟨I3,hD⟩:=nr t f2 M rv hz (O6.refl (Y.heap.objs.size+1) s'.heap);have hq:=q ys _ H' _ hZ hD;show H0 _ _ (al5 (.Name x f) X.env (.ref Y.heap.objs.size)) _ _ _;refine wpAny_assign_Name (m9 I3 hN a2 (.inl hx) (v:=.ref Y.heap.objs.size) rfl (λs4 I4 l=>?_) (.inr hx));obtain⟨a,a3,R⟩:=l;have w:Y.heap.objs.size+1≠X.env.locals:=ad6 (R9 t.lt);have E:Y.heap.objs.size+1≠a:=by
  rcases R with rfl|R
  ·exact w
  ·intro z;obtain⟨v,o,P,_⟩:=t.cell x a R;exact absurd (R9 (F9 P)) (by rw[<-z];exact Z7 _)
 have a4:upd H' Y.heap.objs.size (.lst ys) (Y.heap.objs.size+1)=none:=by rw[aE (ad6 (Z5 _))];exact M.free
 refine⟨m,hm.sameBut a3 E,λh' N=>?_⟩;refine⟨_,_,?_,hq⟩;have U:∀b o,b≠Y.heap.objs.size+1->s4.heap.get? b=some o->h'.get? b=some o:=λb o L e=>(N.2 b L).trans e;have I5:=Inv.turned (t':=s4.toks) (h':=h') (it:=Y.heap.objs.size+1) I4 (λb o L e=>U b o L e) a4 w (.inr (Nat.le_succ_of_le t.sz)) (λy c e=>by
  obtain⟨v,o,P,_⟩:=t.cell y c e;exact K5 (R9 (F9 P))) (λp hp=>by
  exact K5 (R9 (F9 (t.pin p hp).1)))
 exact I5
theorem vV(he:∀C s H a,PE (aZ X G cl (X.N++ar) C s H a) elt te):LvC X G cl ar (lcE elt [⟨tg,O,ifs,0⟩] G pos) O.pos tg ifs (qj te):=λ_ _ _ _ _ c=>zd c (he _ _ _ _) λ_ _ _=>rfl
end
inductive Bx where
 |dk (ks:List Key)|dt (ks:List (List Key))|ins (C:E9) (fs:List Str)|key
 |obj (a:E9) (φ:List V->K0->Prop)
 deriving Inhabited
inductive D where
 |non|bl (b:Bool)|int (i:Int)|str (x:Str)|tup (ds:List D)|lst (ds:List D)|scr (ds:List D)|emp|ref (a:E9)|box (t:Bx) (ds:List D)
 deriving Inhabited
inductive HD where
 |lst (ds:List D)|dK (kvs:List (Key×D))|dT (kvs:List (List Key×D))|dKr (o:Obj) (ks:List (Key×V)) (kvs:List (Key×D))|ins (C:E9) (fs:List (Str×D))
 |ext (φ:List V->K0->Prop) (ds:List D)
 deriving Inhabited
abbrev DH:=E9->Option HD
def ay(M:DH)(a:E9)(o:HD):DH:=λb=>if b=a then some o else M b
def lP(M:DH)(a:E9):DH:=λb=>if b=a then none else M b
abbrev noM:DH:=λ_=>none
theorem aw{M:DH}{a:E9}{o:HD}:ay M a o a=some o:=if_pos rfl
theorem aP{M:DH}{a b:E9}{o:HD}(h:b≠a):ay M a o b=M b:=if_neg h
theorem aQ{M:DH}{a:E9}{o u:HD}:ay (ay M a o) a u=ay M a u:=by
 funext b;unfold ay;split<;>rfl
theorem vh{M:DH}{a:E9}:lP M a a=none:=if_pos rfl
theorem tu{M:DH}{a b:E9}(h:b≠a):lP M a b=M b:=if_neg h
def nN(K:u8)(M:DH)(H:Hp)(a:E9)(b:List V):Prop:=(Rd H a (.tup b)/\M a=none)∨SqT K (λ_=>none) a b
def tm(M:DH)(H:Hp)(a:E9)(b:List V):Prop:=H a=some (.lst b)/\M a=none
def mV(K:u8)(M:DH)(H:Hp)(a:E9)(b:List V):Prop:=((∃o,H a=some (.frz o (.lst b)))/\M a=none)∨SqL K (λ_=>none) a b
def Cu(M:DH)(H:Hp)(a:E9):Prop:=H a=some (.dK [])/\M a=none
def tJ(M:DH)(H:Hp)(a:E9):Bx->List V->Prop
 |.dk e,c=>e.length=c.length/\(∃o,H a=some (.frz o (.dK (e.zip c))))/\M a=none
 |.dt e,c=>e.length=c.length/\(∃o,H a=some (.frz o (.dT (e.zip c))))/\M a=none
 |.ins C fs,c=>fs.length=c.length/\(∃g,H a=some (.ins C g (fs.zip c)))/\M a=none
 |.key,c=>True/\(∃h:Unit,H a=some (.tup c))/\M a=none
 |.obj b f,c=>a=b/\(∃h:Unit,H a=some (.ext (f c)))/\M a=none
mutual
def Rep(K:u8)(M:DH)(H:Hp):D->V->Prop
 |.non,v=>v=.non
 |.bl b,v=>v=.bl b
 |.int i,v=>v=.int i
 |.str x,v=>v=.str x
 |.tup e,v=>∃a c,v=.ref a/\nN K M H a c/\ak K M H e c
 |.lst e,v=>∃a c,v=.ref a/\tm M H a c/\ak K M H e c
 |.scr e,v=>∃a c,v=.ref a/\mV K M H a c/\ak K M H e c
 |.emp,v=>∃a,v=.ref a/\Cu M H a
 |.ref a,v=>v=.ref a
 |.box t e,v=>∃a c,v=.ref a/\tJ M H a t c/\ak K M H e c
def ak(K:u8)(M:DH)(H:Hp):List D->List V->Prop
 |[],a=>a=[]
 |d::c,a=>∃v b,a=v::b/\Rep K M H d v/\ak K M H c b
end
def Ext(M:DH)(H:Hp)(b:DH)(c:Hp):Prop:=∀a o,H a=some o->M a=none->c a=some o/\b a=none
theorem Ext.refl(M:DH)(H:Hp):Ext M H M H:=λ_ _ h n=>⟨h,n⟩
theorem Ext.trans{M M1 M2:DH}{H e f:Hp}(a:Ext M H M1 e)(b:Ext M1 e M2 f):Ext M H M2 f:=λc o h n=>b c o (a c o h n).1 (a c o h n).2
variable{K:u8}{M M' M1 M2:DH}{H H' H1 H2:Hp}
theorem nN.ext{a:E9}{b:List V}(h:nN K M H a b)(e:Ext M H M' H'):nN K M' H' a b:=by
 rcases h with⟨r|⟨o,r⟩,n⟩|h
 ·exact .inl ⟨.inl (e a _ r n).1,(e a _ r n).2⟩
 ·exact .inl ⟨.inr ⟨o,(e a _ r n).1⟩,(e a _ r n).2⟩
 ·exact .inr h
theorem tm.ext{a:E9}{b:List V}(h:tm M H a b)(e:Ext M H M' H'):tm M' H' a b:=e a _ h.1 h.2
theorem mV.ext{a:E9}{b:List V}(h:mV K M H a b)(e:Ext M H M' H'):mV K M' H' a b:=by
 rcases h with⟨⟨o,r⟩,n⟩|h
 ·exact .inl ⟨⟨o,(e a _ r n).1⟩,(e a _ r n).2⟩
 ·exact .inr h
theorem tJ.ext{a:E9}{t:Bx}{b:List V}(h:tJ M H a t b)(e:Ext M H M' H'):tJ M' H' a t b:=by
 cases t<;>(obtain⟨l,⟨o,r⟩,n⟩:=h;exact⟨l,⟨o,(e a _ r n).1⟩,(e a _ r n).2⟩)
mutual
theorem Rep.ext:∀{d:D}{v:V},Rep K M H d v->Ext M H M' H'->Rep K M' H' d v
 |.non,_,h,_=>h
 |.bl _,_,h,_=>h
 |.int _,_,h,_=>h
 |.str _,_,h,_=>h
 |.ref _,_,h,_=>h
 |.emp,_,h,e=>by
  simp only[Rep]at h ⊢;obtain⟨a,rfl,b,c⟩:=h;exact⟨a,rfl,e a _ b c⟩
 |.tup g,_,h,e=>by
  simp only[Rep]at h ⊢;obtain⟨a,f,rfl,b,c⟩:=h;exact⟨a,f,rfl,b.ext e,ak.ext c e⟩
 |.lst g,_,h,e=>by
  simp only[Rep]at h ⊢;obtain⟨a,f,rfl,b,c⟩:=h;exact⟨a,f,rfl,b.ext e,ak.ext c e⟩
 |.scr g,_,h,e=>by
  simp only[Rep]at h ⊢;obtain⟨a,f,rfl,b,c⟩:=h;exact⟨a,f,rfl,b.ext e,ak.ext c e⟩
 |.box t g,_,h,e=>by
  simp only[Rep]at h ⊢;obtain⟨a,f,rfl,b,c⟩:=h;exact⟨a,f,rfl,b.ext e,ak.ext c e⟩
theorem ak.ext:∀{ds:List D}{a:List V},ak K M H ds a->Ext M H M' H'->ak K M' H' ds a
 |[],_,h,_=>h
 |d::ds,_,h,e=>by
  simp only[ak]at h ⊢;obtain⟨v,f,rfl,b,c⟩:=h;exact⟨v,f,rfl,Rep.ext b e,ak.ext c e⟩
end
theorem ak.length:∀{ds:List D}{a:List V},ak K M H ds a->ds.length=a.length
 |[],_,h=>by simp only[ak]at h;subst h;rfl
 |d::ds,_,h=>by
  simp only[ak]at h;obtain⟨v,e,rfl,c,b⟩:=h;simp[ak.length b]
theorem ak.nil:ak K M H [] []:=by simp[ak]
theorem ak.cons{d:D}{v:V}{ds:List D}{a:List V}(h:Rep K M H d v)(t:ak K M H ds a):ak K M H (d::ds) (v::a):=by
 simp only[ak];exact⟨v,a,rfl,h,t⟩
theorem ak.append:∀{ds b:List D}{c a:List V},ak K M H ds c->ak K M H b a->ak K M H (ds++b) (c++a)
 |[],_,_,_,h,t=>by simp only[ak]at h;subst h;exact t
 |d::ds,b,_,a,h,t=>by
  simp only[ak]at h;obtain⟨v,g,rfl,e,f⟩:=h;exact ak.cons e (ak.append f t)
theorem ak.get:∀{ds:List D}{g:List V}{i:Nat}{d:D},ak K M H ds g->ds[i]?=some d->∃v,g[i]?=some v/\Rep K M H d v
 |[],_,_,_,_,e=>by simp at e
 |d::ds,_,0,x,h,e=>by
  simp only[ak]at h;obtain⟨v,j,rfl,c,f⟩:=h;simp at e;subst e;exact⟨v,rfl,c⟩
 |d::ds,_,i+1,x,h,e=>by
  simp only[ak]at h;obtain⟨v,j,rfl,c,f⟩:=h;obtain⟨w,a,b⟩:=ak.get (i:=i) (d:=x) f (by simpa using e);exact⟨w,by simpa using a,b⟩
theorem ak.take:∀{ds:List D}{a:List V}(n:Nat),ak K M H ds a->ak K M H (ds.take n) (a.take n)
 |ds,a,0,_=>by simp[ak]
 |[],_,n+1,h=>by simp only[ak]at h;subst h;simp[ak]
 |d::ds,_,n+1,h=>by
  simp only[ak]at h;obtain⟨v,e,rfl,b,c⟩:=h;exact ak.cons b (ak.take n c)
theorem ak.drop:∀{ds:List D}{a:List V}(n:Nat),ak K M H ds a->ak K M H (ds.drop n) (a.drop n)
 |ds,a,0,h=>h
 |[],_,n+1,h=>by simp only[ak]at h;subst h;simp[ak]
 |d::ds,_,n+1,h=>by
  simp only[ak]at h;obtain⟨v,e,rfl,c,b⟩:=h;exact ak.drop n b
theorem ak.set:∀{ds:List D}{c:List V}{d:D}{v:V}(n:Nat),ak K M H ds c->Rep K M H d v->ak K M H (ds.set n d) (c.set n v)
 |[],_,_,_,n,h,r=>by simp only[ak]at h;subst h;simp[ak]
 |d::ds,_,_,_,0,h,r=>by
  simp only[ak]at h;obtain⟨v,e,rfl,b,a⟩:=h;exact ak.cons r a
 |d::ds,_,_,_,n+1,h,r=>by
  simp only[ak]at h;obtain⟨v,e,rfl,b,a⟩:=h;exact ak.cons b (ak.set n a r)
theorem ak.one{d:D}{a:List V}(h:ak K M H [d] a):∃v,a=[v]/\Rep K M H d v:=by
 simp only[ak]at h;obtain⟨v,c,rfl,b,rfl⟩:=h;exact⟨v,rfl,b⟩
theorem ak.two{d e:D}{a:List V}(h:ak K M H [d,e] a):∃v w,a=[v,w]/\Rep K M H d v/\Rep K M H e w:=by
 simp only[ak]at h;obtain⟨v,f,rfl,b,w,g,rfl,c,rfl⟩:=h;exact⟨v,w,rfl,b,c⟩
def KR(K:u8)(M:DH)(H:Hp){κ:Type}:List (κ×D)->List (κ×V)->Prop:=ac0 λp q=>p.1=q.1/\Rep K M H p.2 q.2
theorem KR.ext{κ:Type}{a:List (κ×D)}{b:List (κ×V)}(h:KR K M H a b)(e:Ext M H M' H'):KR K M' H' a b:=ac0.imp' (λ_ _ r=>⟨r.1,r.2.ext e⟩) h
def lB(K:u8)(M:DH)(H:Hp)(a:E9):HD->Prop
 |.lst f=>∃e,H a=some (.lst e)/\ak K M H f e
 |.dK b=>∃c,H a=some (.dK c)/\KR K M H b c
 |.dT b=>∃c,H a=some (.dT c)/\KR K M H b c
 |.dKr o c b=>∃j:Unit,H a=some (.frz o (.dK c))/\KR K M H b c
 |.ins C fs=>∃g,(∃i,H a=some (.ins C i g))/\KR K M H fs g
 |.ext h f=>∃e,H a=some (.ext (h e))/\ak K M H f e
def HR(K:u8)(M:DH)(H:Hp):Prop:=∀a o,M a=some o->lB K M H a o
theorem lB.some{a:E9}{o:HD}(h:lB K M H a o):∃u,H a=Q3 u/\∀xs,u≠.tup xs/\∀b,u≠.frz b (.tup xs):=by
 cases o with
 |ins C fs=>obtain⟨e,⟨c,r⟩,_⟩:=h;exact⟨_,r,λxs=>⟨(by intro z;cases z),(by intro b z;cases z)⟩⟩
 |_=>obtain⟨f,r,_⟩:=h;exact⟨_,r,λxs=>⟨(by intro z;cases z),(by intro b z;cases z)⟩⟩
theorem lB.keep{a:E9}{o:HD}(h:lB K M H a o)(e:Ext M H M' H')(q:H' a=H a):lB K M' H' a o:=by
 cases o with
 |ins C fs=>obtain⟨f,⟨b,r⟩,t⟩:=h;exact⟨f,⟨b,by rw[q];exact r⟩,t.ext e⟩
 |_=>obtain⟨c,r,t⟩:=h;exact⟨c,by rw[q];exact r,t.ext e⟩
theorem HR.fresh(h:HR K M H){p:E9}(e:H p=none):M p=none:=by
 cases q:M p with
 |none=>rfl
 |some o =>
  obtain⟨u,r,_⟩:=(h p _ q).some;rw[e]at r;cases r
theorem HR.nil:HR K noM H:=λ_ _ h=>nomatch h
theorem Ext.new{p:E9}{o:HO}(hr:HR K M H)(h:H p=none):Ext M H M (upd H p o):=λa u e n=>by
 have:a≠p:=cj e h;rw[aE this];exact⟨e,n⟩
theorem HR.ext1(h:HR K M H)(e:Ext M H M H')(keep:∀a o,M a=some o->H' a=H a):HR K M H':=λa o q=>(h a o q).keep e (keep a o q)
theorem HR.new{p:E9}{o:HO}(hr:HR K M H)(h:H p=none):HR K M (upd H p o):=hr.ext1 (Ext.new hr h) λa u q=>by
 have:a≠p:=λz=>by rw[z,hr.fresh h]at q;cases q
 rw[aE this]
theorem Ext.own{p:E9}{o:HO}{u:HD}(h:H p=none):Ext M H (ay M p u) (upd H p o):=λa x e n=>by
 have:a≠p:=cj e h;rw[aE this,aP this];exact⟨e,n⟩
theorem HR.put{p:E9}{o:HO}{u:HD}(hr:HR K M H)(e:Ext M H (ay M p u) (upd H p o))(c:lB K (ay M p u) (upd H p o) p u):HR K (ay M p u) (upd H p o):=λa w q=>by
 by_cases z:a=p
 ·subst z;rw[aw]at q;cases q;exact c
 ·rw[aP z]at q;exact(hr a w q).keep e (aE z)
theorem HR.own{p:E9}{ds:List D}{a:List V}(hr:HR K M H)(h:H p=none)(r:ak K M H ds a):HR K (ay M p (.lst ds)) (upd H p (.lst a)) :=
 hr.put (Ext.own h) ⟨a,aT,r.ext (Ext.own h)⟩
theorem Ext.write{a:E9}{o:HO}{u w:HD}(h:M a=some w):Ext M H (ay M a u) (upd H a o):=λb x e n=>by
 have:b≠a:=λz=>by rw[z,h]at n;cases n
 rw[aE this,aP this];exact⟨e,n⟩
theorem HR.write{a:E9}{w:HD}{ds:List D}{b:List V}(hr:HR K M H)(h:M a=some w)(r:ak K M H ds b):HR K (ay M a (.lst ds)) (upd H a (.lst b)) :=
 hr.put (Ext.write h) ⟨b,aT,r.ext (Ext.write h)⟩
def LeM(M1 M:DH):Prop:=∀a o,M1 a=some o->M a=some o
theorem LeM.none(h:LeM M1 M){a:E9}(n:M a=none):M1 a=none:=by
 cases q:M1 a with
 |none=>rfl
 |some o=>rw[h a o q]at n;cases n
theorem LeM.no:LeM noM M:=λ_ _ h=>nomatch h
theorem LeM.del{a:E9}:LeM (lP M a) M:=λb o h=>by
 unfold lP at h;split at h
 ·cases h
 ·exact h
theorem Ext.le(h:LeM M1 M):Ext M H M1 H:=λa o e n=>⟨e,h.none n⟩
theorem HR.le(hr:HR K M H)(h:LeM M1 M):HR K M1 H:=λa o q=>(hr a o (h a o q)).keep (Ext.le h) rfl
theorem Rep.froze(hr:HR K M H)(h:LeM M1 M){a:E9}{ds:List D}(e:M a=some (.lst ds))(n:M1 a=none):Rep K M1 H (.lst ds) (.ref a):=by
 obtain⟨b,r,t⟩:=hr a _ e;simp only[Rep];exact⟨a,b,rfl,⟨r,n⟩,t.ext (Ext.le h)⟩
mutual
def noL:D->Bool
 |.tup a=>yG a
 |.lst _=>false
 |.scr _=>false
 |.emp=>false
 |.box _ _=>false
 |_=>true
def yG:List D->Bool
 |[]=>true
 |d::a=>noL d&&yG a
end
mutual
theorem Rep.hard:∀{d:D}{v:V},noL d=true->Rep K M H d v->(∀a xs,Rd H a (.tup xs)->M' a=none)->Rep K M' H d v
 |.non,_,_,h,_=>h
 |.bl _,_,_,h,_=>h
 |.int _,_,_,h,_=>h
 |.str _,_,_,h,_=>h
 |.ref _,_,_,h,_=>h
 |.emp,_,n,_,_=>by simp[noL]at n
 |.box _ _,_,n,_,_=>by simp[noL]at n
 |.lst _,_,n,_,_=>by simp[noL]at n
 |.scr _,_,n,_,_=>by simp[noL]at n
 |.tup g,_,n,h,e=>by
  simp only[Rep]at h ⊢;obtain⟨a,b,rfl,c,f⟩:=h;refine⟨a,b,rfl,?_,ak.hard (by simpa[noL]using n) f e⟩;rcases c with⟨r,_⟩|r
  ·exact .inl ⟨r,e a b r⟩
  ·exact .inr r
theorem ak.hard:∀{ds:List D}{b:List V},yG ds=true->ak K M H ds b->(∀a xs,Rd H a (.tup xs)->M' a=none)->ak K M' H ds b
 |[],_,_,h,_=>h
 |d::ds,_,n,h,e=>by
  simp only[ak]at h ⊢;obtain⟨v,g,rfl,c,f⟩:=h;simp only[yG,F1]at n;exact⟨v,g,rfl,Rep.hard n.1 c e,ak.hard n.2 f e⟩
end
abbrev DE:=List (Option D)
def SR(K:u8)(M:DH)(H:Hp)(σ:St)(a:DE):Prop:=σ.length=a.length/\∀(i:Nat) (d:D),a[i]?=some (some d)->∃v,σ[i]?=some (some v)/\Rep K M H d v
theorem SR.ext{σ:St}{b:DE}(h:SR K M H σ b)(e:Ext M H M' H'):SR K M' H' σ b:=⟨h.1,λi d q=>let⟨v,a,r⟩:=h.2 i d q;⟨v,a,r.ext e⟩⟩
theorem SR.set{σ:St}{a:DE}{d:D}{v:V}(h:SR K M H σ a)(i:Nat)(r:Rep K M H d v):SR K M H (σ.set i (some v)) (a.set i (some d)):=by
 refine⟨by simp[h.1],λj e q=>?_⟩
 by_cases c:j=i
 ·subst c
  by_cases b:j<a.length
  ·rw[S4 b]at q;cases q;exact⟨v,S4 (by rw[h.1];exact b),r⟩
  ·rw[P8 (by simp;lia)]at q;cases q
 ·rw[V7 (T9 c)]at q ⊢;exact h.2 j e q
abbrev TEd:=DE->DH->(D->DH->Prop)->Prop
abbrev TAd:=DE->DH->(List D->DH->Prop)->Prop
abbrev TTd:=DE->DH->(Bool->DH->Prop)->Prop
structure dR where
 nx:DE->DH->Prop
 rt:D->DH->Prop
 bk:DE->DH->Prop:=λ_ _=>False
 ct:DE->DH->Prop:=λ_ _=>False
abbrev TSd:=dR->DE->DH->Prop
def up(K:u8)(t:TEd):TE:=λb H Q=>∃(a:DE) (M:DH) (R:D->DH->Prop),SR K M H b a/\HR K M H/\t a M R /\
 ∀d M' v H',R d M'->Ext M H M' H'->HR K M' H'->Rep K M' H' d v->Q v H'
def upA(K:u8)(t:TAd):TA:=λe H Q=>∃(a:DE) (M:DH) (R:List D->DH->Prop),SR K M H e a/\HR K M H/\t a M R /\
 ∀b M' c H',R b M'->Ext M H M' H'->HR K M' H'->ak K M' H' b c->Q c H'
def upT(K:u8)(t:TTd):TT:=λc H Q=>∃(a:DE) (M:DH) (R:Bool->DH->Prop),SR K M H c a/\HR K M H/\t a M R /\
 ∀b M' H',R b M'->Ext M H M' H'->HR K M' H'->Q b H'
theorem upT.el{K:u8}{t:TTd}{σ:St}{H:Hp}{Q:Bool->Hp->Prop}{P:Prop}(h:upT K t σ H Q)(f:∀(e:DE) (M:DH) (R:Bool->DH->Prop),SR K M H σ e->HR K M H->t e M R->(∀b M' H',R b M'->Ext M H M' H'->HR K M' H'->Q b H')->P):P:=by
 obtain⟨j,i,g,a,b,c,d⟩:=h;exact f j i g a b c d
theorem up.el{K:u8}{t:TEd}{σ:St}{H:Hp}{Q:VK}{P:Prop}(h:up K t σ H Q)(f:∀(e:DE) (M:DH) (R:D->DH->Prop),SR K M H σ e->HR K M H->t e M R->(∀d M' v H',R d M'->Ext M H M' H'->HR K M' H'->Rep K M' H' d v->Q v H')->P):P:=by
 obtain⟨j,i,g,a,b,c,d⟩:=h;exact f j i g a b c d
theorem upA.el{K:u8}{t:TAd}{σ:St}{H:Hp}{Q:List V->Hp->Prop}{P:Prop}(h:upA K t σ H Q)(f:∀(e:DE) (M:DH) (R:List D->DH->Prop),SR K M H σ e->HR K M H->t e M R->(∀ds M' g H',R ds M'->Ext M H M' H'->HR K M' H'->ak K M' H' ds g->Q g H')->P):P:=by
 obtain⟨l,j,i,a,b,c,d⟩:=h;exact f l j i a b c d
structure UpE(K:u8) (E:dR) (D:mE) (M:DH) (H:Hp):Prop where
 nx:∀ Δ' M' σ' H',E.nx Δ' M'->Ext M H M' H'->HR K M' H'->SR K M' H' σ' Δ'->D.nx σ' H'
 bk:∀ Δ' M' σ' H',E.bk Δ' M'->Ext M H M' H'->HR K M' H'->SR K M' H' σ' Δ'->D.bk σ' H'
 ct:∀ Δ' M' σ' H',E.ct Δ' M'->Ext M H M' H'->HR K M' H'->SR K M' H' σ' Δ'->D.ct σ' H'
 rt:∀d M' v H',E.rt d M'->Ext M H M' H'->HR K M' H'->Rep K M' H' d v->D.rt v H'
theorem UpE.ext{E:dR}{D:mE}(u:UpE K E D M H)(e:Ext M H M' H'):UpE K E D M' H' :=
 ⟨λa b c d h x=>u.nx a b c d h (e.trans x),λa b c d h x=>u.bk a b c d h (e.trans x),λa b c d h x=>u.ct a b c d h (e.trans x),λa b c d h x=>u.rt a b c d h (e.trans x)⟩
def upS(K:u8)(t:TSd):TS:=λD b H=>∃(a:DE) (M:DH) (E:dR),SR K M H b a/\HR K M H/\t E a M/\UpE K E D M H
theorem upS.el{K:u8}{t:TSd}{E:mE}{σ:St}{H:Hp}{P:Prop}(h:upS K t E σ H)(f:∀(e:DE) (M:DH) (R:dR),SR K M H σ e->HR K M H->t R e M->UpE K R E M H->P):P:=by
 obtain⟨j,i,g,a,b,c,d⟩:=h;exact f j i g a b c d
def PEd(X:Cx)(e:L7)(t:TEd):Prop:=PE X e (up X.K t)
def PAd(X:Cx)(a:List L7)(t:TAd):Prop:=PA X a (upA X.K t)
def PTd(X:Cx)(e:L7)(t:TTd):Prop:=PT X e (upT X.K t)
def PWd(X:Cx)(e:L7)(t:TTd):Prop:=PW X e (upT X.K t)
def PSd(X:Cx)(st:X5)(t:TSd):Prop:=PS X st (upS X.K t)
def ym(X:Cx)(st:List X5)(t:TSd):Prop:=PSs X st (upS X.K t)
theorem PE.conv{X:Cx}{e:L7}{t t':TE}(h:PE X e t)(k:∀ σ H Q,t' σ H Q->t σ H Q):PE X e t':=λp s σ H Q I q=>h p s σ H Q I (k σ H Q q)
theorem PT.conv{X:Cx}{e:L7}{t t':TT}(h:PT X e t)(k:∀ σ H Q,t' σ H Q->t σ H Q):PT X e t':=λp s σ H Q I q=>h p s σ H Q I (k σ H Q q)
theorem PA.conv{X:Cx}{e:List L7}{t t':TA}(h:PA X e t)(k:∀ σ H Q,t' σ H Q->t σ H Q):PA X e t':=λa p s σ H Q I q=>h a p s σ H Q I (k σ H Q q)
theorem PS.conv{X:Cx}{e:X5}{t t':TS}(h:PS X e t)(k:∀D σ H,t' D σ H->t D σ H):PS X e t':=λp s σ H D I q=>h p s σ H D I (k D σ H q)
theorem PSs.conv{X:Cx}{e:List X5}{t t':TS}(h:PSs X e t)(k:∀D σ H,t' D σ H->t D σ H):PSs X e t':=λp s σ H D I q=>h p s σ H D I (k D σ H q)
section
variable{X:Cx}{a b c:L7}{Y:List L7}{G J:TEd}{pos:Pos}
def CF(i:Nat):TEd:=λa M Q=>∃d,a[i]?=some (some d)/\Q d M
def dC(d:D):TEd:=λ_ M Q=>Q d M
theorem yL{x:Str}{i:Int}{t:Tok}{pos:Pos}(hg:Gl X x)(c:X.mg x=some (.int i t))(b:(x==("__debug__":Str))=false:=by decide):PEd X (.Name x pos) (dC (.int i)) :=
 (ua (v:=.int i) hg c ⟨t,rfl⟩ b).conv λg H Q a=>a.el λf M R h e q k=>k _ M _ H q (Ext.refl _ _) e (by simp[Rep])
theorem ya{x y:Str}{t:Tok}{pos:Pos}(hg:Gl X x)(c:X.mg x=some (.str y t))(b:(x==("__debug__":Str))=false:=by decide):PEd X (.Name x pos) (dC (.str y)) :=
 (ua (v:=.str y) hg c ⟨t,rfl⟩ b).conv λg H Q a=>a.el λf M R h e q k=>k _ M _ H q (Ext.refl _ _) e (by simp[Rep])
def C1:TAd:=λ_ M Q=>Q [] M
def zx(G:TEd)(c:TAd):TAd:=λa M Q=>G a M λx M1=>c a M1 λb M2=>Q (x::b) M2
def CM(t:TAd):TEd:=λb M Q=>t b M λa M1=>a.length<=F2/\Q (.tup a) M1
def Ck(t:TAd):TEd:=λb M Q=>t b M λa M1=>a.length<=F2/\Q (.lst a) M1
def zJ(t:TAd):TEd:=λb M Q=>t b M λa M1=>a.length<=F2/\∀p,M1 p=none->Q (.ref p) (ay M1 p (.lst a))
def rdM(M:DH):D->D
 |.ref a=>match M a with|some (.lst b)=>.lst b|_=>.ref a
 |d=>d
def aN(K:u8)(M:DH)(H:Hp)(d:D)(v:V):Prop:=match d with
 |.tup c=>∃a b,v=.ref a/\SqT K H a b/\ak K M H c b
 |.lst c=>∃a b,v=.ref a/\H a=some (.lst b)/\ak K M H c b
 |.scr c=>∃a b,v=.ref a/\SqL K H a b/\ak K M H c b
 |d=>Rep K M H d v
theorem nN.sq{K:u8}{M:DH}{H:Hp}{a:E9}{b:List V}(h:nN K M H a b):SqT K H a b:=by
 rcases h with⟨h,_⟩|h
 ·exact .inl h
 ·rcases h with(h|⟨_,h⟩)|h
  ·cases h
  ·cases h
  ·exact .inr h
theorem mV.sq{K:u8}{M:DH}{H:Hp}{a:E9}{b:List V}(h:mV K M H a b):SqL K H a b:=by
 rcases h with⟨⟨o,h⟩,_⟩|h
 ·exact .inl (.inr ⟨o,h⟩)
 ·rcases h with(h|⟨_,h⟩)|h
  ·cases h
  ·cases h
  ·exact .inr h
theorem Rep.rd{K:u8}{M:DH}{H:Hp}{d:D}{v:V}(hr:HR K M H)(h:Rep K M H d v):aN K M H (rdM M d) v:=by
 cases d with
 |tup f=>simp only[Rep]at h;obtain⟨a,c,e,t,r⟩:=h;exact⟨a,c,e,t.sq,r⟩
 |lst f=>simp only[Rep]at h;obtain⟨a,c,e,t,r⟩:=h;exact⟨a,c,e,t.1,r⟩
 |scr f=>simp only[Rep]at h;obtain⟨a,c,e,t,r⟩:=h;exact⟨a,c,e,t.sq,r⟩
 |ref a =>
  simp only[rdM];cases q:M a with
  |none=>exact h
  |some o =>
   cases o with
   |lst f =>
    obtain⟨c,e,r⟩:=hr a _ q;simp only[Rep]at h;exact⟨a,c,h,e,r⟩
   |dK _=>exact h
   |dT _=>exact h
   |dKr _ _ _=>exact h
   |ins _ _=>exact h
   |ext _ _=>exact h
 |non=>exact h
 |bl b=>exact h
 |int i=>exact h
 |str x=>exact h
 |emp=>exact h
 |box _ _=>exact h
def b7(X:Cx)(f:s0->s0->Sem s0)(r:D->D->Option D):Prop :=
 ∀(e:List (E9×Obj)) (s:E3) (a:St) (H:Hp) (M:DH) (x y:V) (v u:s0) (c g b:D) (Q:VK),Inv X e a H s->HR X.K M H->aH x v->aH y u->aN X.K M H c x->aN X.K M H g y->r c g=some b ->
  (∀w H',Ext M H M H'->HR X.K M H'->Rep X.K M H' b w->Q w H')->H0 (M8 X.prog X.w) X.A (f v u) (EP X e a Q) X.xe s
def Ci(X:Cx)(f:s0->Sem s0)(r:D->Option D):Prop :=
 ∀(e:List (E9×Obj)) (s:E3) (a:St) (H:Hp) (M:DH) (x:V) (v:s0) (c b:D) (Q:VK),Inv X e a H s->HR X.K M H->aH x v->aN X.K M H c x->r c=some b ->
  (∀w H',Ext M H M H'->HR X.K M H'->Rep X.K M H' b w->Q w H')->H0 (M8 X.prog X.w) X.A (f v) (EP X e a Q) X.xe s
def cK(X:Cx)(f:s0)(r:List D->Option D):Prop :=
 ∀(g:List (E9×Obj)) (s:E3) (a:St) (H:Hp) (M:DH) (c:List V) (e:List s0) (h:List D) (b:D) (Q:VK),Inv X g a H s->HR X.K M H->az c e->ac0 (aN X.K M H) h c->r h=some b ->
  (∀w H',Ext M H M H'->HR X.K M H'->Rep X.K M H' b w->Q w H')->H0 (M8 X.prog X.w) X.A (aq8 f e) (EP X g a Q) X.xe s
def dOp(r:D->D->Option D)(G J:TEd):TEd:=λa M Q=>G a M λx M1=>J a M1 λy M2=>∃z,r (rdM M2 x) (rdM M2 y)=some z/\Q z M2
def dUn(r:D->Option D)(G:TEd):TEd:=λa M Q=>G a M λx M1=>∃z,r (rdM M1 x)=some z/\Q z M1
def opV(K:u8)(r:D->D->Option D):R2:=λx y H Q=>∃b c a M,HR K M H/\aN K M H b x/\aN K M H c y/\r b c=some a/\∀w H',Ext M H M H'->HR K M H'->Rep K M H' a w->Q w H'
theorem b7.v{f:s0->s0->Sem s0}{r:D->D->Option D}(h:b7 X f r):OpR X f (opV X.K r):=λc s a H x y v u Q I n g ⟨b,o,m,M,i,l,j,e,k⟩=>h c s a H M x y v u b o m Q I i n g l j e k
theorem xm{K:u8}{r:D->D->Option D}{G J:TEd}:∀ σ H Q,up K (dOp r G J) σ H Q->tOp (opV K r) (up K G) (up K J) σ H Q:=λσ H Q c=>c.el λg M R i s q k =>
 ⟨g,M,_,i,s,q,λx M1 v H1 t j e l=>⟨g,M1,_,i.ext j,e,t,λy M2 u H2 ⟨z,n,m⟩ h a p=>⟨_,_,z,M2,a,(l.ext h).rd a,p.rd a,n,λw H' o f b=>k z M2 w H' m ((j.trans h).trans o) f b⟩⟩⟩
def zp(t:TEd):TTd:=λa M Q=>t a M λx M1=>∃k,x=.bl k/\Q k M1
theorem Cz{K:u8}{t:TEd}:∀ σ H Q,upT K (zp t) σ H Q->zB (up K t) σ H Q:=λσ H Q a=>a.el λf M R j h q k =>
 ⟨f,M,_,j,h,q,λd M1 v H1 ⟨b,e,i⟩ l c g=>⟨b,by subst e;simpa only[Rep]using g,k b M1 H1 i l c⟩⟩
def zV(t:TTd):TTd:=λa M Q=>t a M λc M1=>Q (!c) M1
def zK(t u:TTd):TTd:=λa M Q=>t a M λc M1=>if c=true then u a M1 Q else Q false M1
def B5(t u:TTd):TTd:=λa M Q=>t a M λc M1=>if c=true then Q true M1 else u a M1 Q
variable{tA O:TTd}{rest:List L7}
theorem PW.conv{X:Cx}{e:L7}{t t':TT}(h:PW X e t)(k:∀ σ H Q,t' σ H Q->t σ H Q):PW X e t':=λw p s σ H Q I q=>h w p s σ H Q I (k σ H Q q)
theorem PWd.pt{e:L7}{t:TTd}(h:PWd X e t):PTd X e t:=PW.pt h
def CI(G J:TEd):TEd:=λa M Q=>G a M λx M1=>∃c,x=.bl c/\if c=true then J a M1 Q else Q (.bl false) M1
def dOr(G J:TEd):TEd:=λa M Q=>G a M λx M1=>∃c,x=.bl c/\if c=true then Q (.bl true) M1 else J a M1 Q
def CW(G:TEd):TEd:=λa M Q=>G a M λx M1=>∃c,x=.bl c/\Q (.bl (!c)) M1
def dIf(t:TTd)(G J:TEd):TEd:=λa M Q=>t a M λc M1=>if c=true then G a M1 Q else J a M1 Q
def wx(r c:D->D->Option D)(G J tc:TEd):TEd:=λa M Q=>G a M λx M1=>J a M1 λy M2=>∃k,r (rdM M2 x) (rdM M2 y)=some (.bl k)/\if k=true then tc a M2 λz b=>∃w,c (rdM b y) (rdM b z)=some w/\Q w b else Q (.bl false) M2
theorem tw{K:u8}{M:DH}{H:Hp}(hr:HR K M H):∀{ds:List D}{a:List V},ak K M H ds a->ac0 (aN K M H) (ds.map (rdM M)) a
 |[],_,h=>by simp only[ak]at h;subst h;exact .nil
 |d::ds,_,h=>by
  simp only[ak]at h;obtain⟨v,e,rfl,b,c⟩:=h;exact .cons (b.rd hr) (tw hr c)
def dCB(r:List D->Option D)(t:TAd):TEd:=λa M Q=>t a M λb M1=>∃z,r (b.map (rdM M1))=some z/\Q z M1
theorem zS{K:u8}{r:List D->Option D}{t:TAd}:∀ σ H Q,up K (dCB r t) σ H Q->tCB (λxs H Q=>∃ds e M,HR K M H/\ac0 (aN K M H) ds xs/\r ds=some e/\∀w H',Ext M H M H'->HR K M H'->Rep K M H' e w->Q w H') (upA K t) σ H Q:=λσ H Q b=>b.el λf M R n j q k =>
 ⟨f,M,_,n,j,q,λds M1 p H1 ⟨z,h,m⟩ o a g=>⟨_,z,M1,a,tw a g,h,λw H' i c l=>k z M1 w H' m (o.trans i) c l⟩⟩
theorem cK.v{f:s0}{r:List D->Option D}(h:cK X f r):dg X f (λxs H Q=>∃ds a M,HR X.K M H/\ac0 (aN X.K M H) ds xs/\r ds=some a/\∀w H',Ext M H M H'->HR X.K M H'->Rep X.K M H' a w->Q w H') :=
 λg s b H xs j Q I c ⟨ds,a,M,i,l,e,k⟩=>h g s b H M xs j ds a Q I i c l e k
end
section
variable{X:Cx}
theorem b7.of{f:s0->s0->Sem s0}{b:R2}{r:D->D->Option D}(h:OpR X f b)
  (k:∀(H:Hp) (M:DH) (x y:V) (a g c:D) (Q:VK),HR X.K M H->aN X.K M H a x->aN X.K M H g y->r a g=some c->(∀w H',Ext M H M H'->HR X.K M H'->Rep X.K M H' c w->Q w H')->b x y H Q):b7 X f r :=
 λj s i H M x y v u a g c Q I m o l n b e q=>h j s i H x y v u Q I o l (k H M x y a g c Q m n b e q)
theorem cK.of{f:s0}{b:List V->Hp->VK->Prop}{r:List D->Option D}(h:dg X f b)
  (k:∀(H:Hp) (M:DH) (xs:List V) (ds:List D) (a:D) (Q:VK),HR X.K M H->ac0 (aN X.K M H) ds xs->r ds=some a->(∀w H',Ext M H M H'->HR X.K M H'->Rep X.K M H' a w->Q w H')->b xs H Q):cK X f r :=
 λi s c H M xs l ds a Q I j g m e q=>h i s c H xs l Q I g (k H M xs ds a Q j m e q)
theorem ij{K:u8}{M:DH}{H:Hp}{i:Int}{v:V}(h:aN K M H (.int i) v):v=.int i:=by simpa[aN,Rep]using h
theorem qy{K:u8}{M:DH}{H:Hp}{i:Str}{v:V}(h:aN K M H (.str i) v):v=.str i:=by simpa[aN,Rep]using h
theorem Cb{K:u8}{M:DH}{H:Hp}{v:V}(h:aN K M H .non v):v=.non:=by simpa[aN,Rep]using h
def iOp(f:Int->Int->Option D):D->D->Option D
 |.int a,.int b=>f a b
 |_,_=>none
theorem pE{f:Int->Int->Option D}{x y z:D}(h:iOp f x y=some z):∃a b,x=.int a/\y=.int b/\f a b=some z:=by
 cases x<;>first|cases h|skip
 rename_i a;cases y<;>first|cases h|skip
 rename_i b;exact⟨a,b,rfl,rfl,h⟩
def bu:D->Bool
 |.non=>true|.bl _=>true|.int _=>true|.str _=>true|_=>false
def toV:D->V
 |.bl b=>.bl b|.int i=>.int i|.str x=>.str x|_=>.non
theorem pJ{K:u8}{M:DH}{H:Hp}{d:D}(h:bu d=true):Rep K M H d (toV d):=by
 cases d<;>first|(simp[Rep,toV];done)|cases h
theorem ug{f:s0->s0->Sem s0}{C:Int->Int->Prop}[∀i j,Decidable (C i j)]{g:Int->Int->D}(hs:∀i j,bu (g i j)=true)(h:OpR X f (rI C λi j=>toV (g i j))):
  b7 X f (iOp λi j=>if C i j then some (g i j)else none) :=
 b7.of h λH M x y p t s Q n m o e q=>by
  obtain⟨a,b,rfl,rfl,l⟩:=pE e;clear e;have e:=l
  by_cases c:C a b
  ·rw[if_pos c]at e;cases e;exact⟨a,b,ij m,ij o,c,q _ _ (Ext.refl _ _) n (pJ (hs a b))⟩
  ·rw[if_neg c]at e;cases e
theorem oD{f:s0->s0->Sem s0}{g:Int->Int->D}(hs:∀i j,bu (g i j)=true)(h:OpR X f (rI0 λi j=>toV (g i j))):
  b7 X f (iOp λi j=>some (g i j)) :=
 b7.of h λH M x y n p o Q c m l e q=>by
  obtain⟨a,b,rfl,rfl,e⟩:=pE e;cases e;exact⟨a,b,ij m,ij l,q _ _ (Ext.refl _ _) c (pJ (hs a b))⟩
instance:∀i j,Decidable (n9 i j):=λi j=>by unfold n9;exact inferInstance
instance:∀i j,Decidable (jM i j):=λi j=>by unfold jM;exact inferInstance
instance:∀i j,Decidable (pW i j):=λi j=>by unfold pW;exact inferInstance
theorem BF:b7 X (X9 .Mult) (iOp λi j=>if jM i j then some (.int (i*j))else none):=ug (λ_ _=>rfl) AR
theorem xM:b7 X (X9 .FloorDiv) (iOp λi j=>if n9 i j then some (.int (i / j))else none):=ug (λ_ _=>rfl) zi
theorem lj:b7 X (X9 .Mod) (iOp λi j=>if 0<j then some (.int (i % j))else none):=ug (C:=λ_ j=>0<j) (λ_ _=>rfl) A6
theorem B9:b7 X (X9 .Pow) (iOp λi j=>if pW i j then some (.int (i ^ j.toNat))else none):=ug (λ_ _=>rfl) AD
theorem xn:b7 X (Q6 .Lt) (iOp λi j=>some (.bl (decide (i<j)))):=oD (λ_ _=>rfl) Dw
theorem kh:b7 X (Q6 .LtE) (iOp λi j=>some (.bl (decide (i<=j)))):=oD (λ_ _=>rfl) Cp
theorem pC:b7 X (Q6 .Gt) (iOp λi j=>some (.bl (decide (j<i)))):=oD (λ_ _=>rfl) CL
theorem Ek:b7 X (Q6 .GtE) (iOp λi j=>some (.bl (decide (j<=i)))):=oD (λ_ _=>rfl) C8
theorem ak.at_{K:u8}{M:DH}{H:Hp}{ds:List D}{c:List V}{i:Int}{d:D}(h:ak K M H ds c)(e:atI ds i=some d):∃v,atI c i=some v/\Rep K M H d v:=by
 unfold atI at e ⊢;rw[<-h.length];cases q:ixN ds.length i with
 |none=>rw[q]at e;cases e
 |some j =>
  rw[q]at e;have f:ds[j]?=some d:=e;obtain⟨v,a,b⟩:=h.get f;exact⟨v,a,b⟩
def ixD:D->D->Option D
 |.tup a,.int i=>atI a i
 |.lst a,.int i=>atI a i
 |.scr a,.int i=>atI a i
 |.str z,.int i=>if z.length<=F2 then(atI z.cps.toList i).map λc=>.str ⟨#[c]⟩else none
 |_,_=>none
theorem bh:IxR X (opV X.K ixD):=by
 intro b slice n s m H x y v u Q I rx ry h hs;obtain⟨E,A,G,M,o,t,p,e,k⟩:=h;cases E with
 |tup C =>
  cases A with
  |int i =>
   obtain⟨a,l,rfl,sq,g⟩:=t;obtain⟨w,j,f⟩:=g.at_ e;exact AA b slice n s m H _ _ v u Q I rx ry ⟨a,l,i,w,rfl,ij p,sq,j,k w H (Ext.refl _ _) o f⟩ hs
  |_=>cases e
 |lst C =>
  cases A with
  |int i =>
   obtain⟨a,l,rfl,sq,g⟩:=t;obtain⟨w,j,f⟩:=g.at_ e;exact ud b slice n s m H _ _ v u Q I rx ry ⟨a,l,i,w,rfl,ij p,SqL.of sq,j,k w H (Ext.refl _ _) o f⟩ hs
  |_=>cases e
 |scr C =>
  cases A with
  |int i =>
   obtain⟨a,l,rfl,sq,g⟩:=t;obtain⟨w,j,f⟩:=g.at_ e;exact ud b slice n s m H _ _ v u Q I rx ry ⟨a,l,i,w,rfl,ij p,sq,j,k w H (Ext.refl _ _) o f⟩ hs
  |_=>cases e
 |str z =>
  cases A with
  |int i =>
   simp only[ixD]at e
   by_cases B:z.length<=F2
   ·rw[if_pos B]at e;cases q:atI z.cps.toList i with
    |none=>rw[q]at e;cases e
    |some c =>
     rw[q]at e;cases e;exact Bp b slice n s m H _ _ v u Q I rx ry ⟨z,i,c,qy t,ij p,B,q,k _ H (Ext.refl _ _) o (by simp[Rep])⟩ hs
   ·rw[if_neg B]at e;cases e
  |_=>cases e
 |_=>cases e
def mK:D->D->Option D
 |.int a,.int b=>some (.int (a+b))
 |.str a,.str b=>if a.length+b.length<=F2 then some (.str (a++b))else none
 |.lst a,.lst b=>if a.length+b.length<=F2 then some (.lst (a++b))else none
 |.tup a,.tup b=>if a.length+b.length<=F2 then some (.tup (a++b))else none
 |_,_=>none
theorem mj{K:u8}{M:DH}{H:Hp}{p:E9}{ds:List D}{b:List V}{Q:VK}(hr:HR K M H)(a:H p=none)(r:ak K M H ds b)(q:∀w H',Ext M H M H'->HR K M H'->Rep K M H' (.lst ds) w->Q w H'):Q (.ref p) (upd H p (.lst b)) :=
 q _ _ (Ext.new hr a) (hr.new a) (by simp only[Rep];exact⟨p,b,rfl,⟨aT,hr.fresh a⟩,r.ext (Ext.new hr a)⟩)
theorem jo{K:u8}{M:DH}{H:Hp}{p:E9}{ds:List D}{b:List V}{Q:VK}(hr:HR K M H)(a:H p=none)(r:ak K M H ds b)(q:∀w H',Ext M H M H'->HR K M H'->Rep K M H' (.tup ds) w->Q w H'):Q (.ref p) (upd H p (.tup b)) :=
 q _ _ (Ext.new hr a) (hr.new a) (by simp only[Rep];exact⟨p,b,rfl,.inl ⟨.inl aT,hr.fresh a⟩,r.ext (Ext.new hr a)⟩)
theorem aN.tup{K:u8}{M:DH}{H:Hp}{ds:List D}{v:V}(hr:HR K M H)(h:aN K M H (.tup ds) v):Rep K M H (.tup ds) v:=by
 obtain⟨a,c,rfl,sq,b⟩:=h;simp only[Rep];refine⟨a,c,rfl,?_,b⟩;rcases sq with r|k
 ·refine .inl ⟨r,?_⟩;cases q:M a with
  |none=>rfl
  |some o =>
   obtain⟨u,z,m⟩:=(hr a _ q).some;rcases r with r|⟨e,r⟩
   ·rw[z]at r;exact absurd (Q4 r) (m _).1
   ·rw[z]at r;exact absurd (Q4 r) ((m _).2 e)
 ·exact .inr (.inr k)
theorem vI{prog:K3}{w:P4}{A:L6}{E:s0->E3->Prop}{s:E3}{t b:E9}{j:List s0}{Q:s0->E3->Prop}(u:an4 s.heap t ([]:List s0).toArray)(x:an4 s.heap b j.toArray)
  (h:Q (.ref b) s):H0 (M8 prog w) A (X9 .Add (.ref t) (.ref b)) Q E s:=by
 obtain⟨⟨cls,q,m,B⟩,o,p,n,l⟩:=id u;obtain⟨⟨i,f,data2,g⟩,e,c,z,a⟩:=id x;simp only at p l c a;subst p l c a;exact concat_meets ⟨_,o,rfl⟩ ⟨_,e,rfl⟩ noFill_tuple_add seq_tuple_add PySem.F.slot_tuple_add PySem.F.entry_tuple_add (PySem.F.args_tuple_add_2 _ _)
   (tuple_addW0 t b ([]:List s0).toArray j.toArray n z q f B g (by simp)) ⟨o,e,h⟩
theorem aI:b7 X (X9 .Add) mK:=by
 intro i s h H M x y v u dx dy dz Q I hr rx ry r1 r2 e k;cases dx with
 |int a =>
  cases dy with
  |int b =>
   cases e;exact BH i s h H x y v u Q I rx ry ⟨a,b,ij r1,ij r2,k _ H (Ext.refl _ _) hr (by simp[Rep])⟩
  |_=>cases e
 |str a =>
  cases dy with
  |str b =>
   simp only[mK]at e
   by_cases g:a.length+b.length<=F2
   ·rw[if_pos g]at e;cases e;exact rL i s h H x y v u Q I rx ry ⟨a,b,qy r1,qy r2,g,k _ H (Ext.refl _ _) hr (by simp[Rep])⟩
   ·rw[if_neg g]at e;cases e
  |_=>cases e
 |lst a =>
  cases dy with
  |lst b =>
   simp only[mK]at e
   by_cases g:a.length+b.length<=F2
   ·rw[if_pos g]at e;cases e;obtain⟨t,m,rfl,j,f⟩:=r1;obtain⟨n,q,rfl,l,c⟩:=r2;exact BO i s h H _ _ v u Q I rx ry ⟨t,n,m,q,rfl,rfl,j,l,by rw[<-f.length,<-c.length];exact g,λp o=>mj hr o (f.append c) k⟩
   ·rw[if_neg g]at e;cases e
  |_=>cases e
 |tup a =>
  cases dy with
  |tup b =>
   simp only[mK]at e
   by_cases g:a.length+b.length<=F2
   ·rw[if_pos g]at e;cases e;have C:=aN.tup hr r1;have O:=aN.tup hr r2;obtain⟨t,m,rfl,j,f⟩:=r1;obtain⟨n,q,rfl,l,c⟩:=r2
    by_cases w:m=[]
    ·subst w;have N:a=[]:=by
      have:=f.length;cases a with
      |nil=>rfl
      |cons _ _=>simp at this
     subst N;cases rx;cases ry;obtain⟨A,J,G,_⟩:=I.tuple j;obtain⟨z,P,E,_⟩:=I.tuple l;cases J;exact vI G E ⟨.ref n,H,I,rfl,k _ H (Ext.refl _ _) hr O⟩
    ·refine yS i s h H _ _ v u Q I rx ry ⟨t,n,m,q,rfl,rfl,j,l,w,by rw[<-f.length,<-c.length];exact g,λB=>?_,λ_ p o=>jo hr o (f.append c) k⟩;subst B;have L:b=[]:=by
      have:=c.length;cases b with
      |nil=>rfl
      |cons _ _=>simp at this
     subst L;rw[ab4]at k;exact k _ H (Ext.refl _ _) hr C
   ·rw[if_neg g]at e;cases e
  |_=>cases e
 |_=>cases e
mutual
def eqD:D->D->Bool
 |.non,.non=>true
 |.bl a,.bl b=>a==b
 |.bl a,.int b=>(if a then 1 else 0)==b
 |.int a,.bl b=>a==(if b then 1 else 0)
 |.int a,.int b=>a==b
 |.str a,.str b=>a==b
 |.tup a,.tup b=>dH a b
 |.lst a,.lst b=>dH a b
 |_,_=>false
def dH:List D->List D->Bool
 |[],[]=>true
 |a::c,b::bs=>eqD a b&&dH c bs
 |_,_=>false
end
mutual
def dLe:D->Nat->Bool
 |.tup _,0=>false
 |.tup a,n+1=>bI a n
 |.lst _,0=>false
 |.lst a,n+1=>bI a n
 |.scr _,_=>false
 |.emp,_=>false
 |.box _ _,_=>false
 |.ref _,_=>false
 |_,_=>true
def bI:List D->Nat->Bool
 |[],_=>true
 |d::a,n=>dLe d n&&bI a n
end
theorem gG:∀{ds:List D}{n i:Nat}{d:D},bI ds n=true->ds[i]?=some d->dLe d n=true
 |[],_,_,_,_,e=>by simp at e
 |d::ds,n,0,x,h,e=>by
  simp only[bI,F1]at h;simp at e;subst e;exact h.1
 |d::ds,n,i+1,x,h,e=>by
  simp only[bI,F1]at h;exact gG h.2 (by simpa using e)
theorem bM:∀{ds:List D}{n:Nat},bI ds n=true↔∀d∈ds,dLe d n=true
 |[],n=>by simp[bI]
 |d::ds,n=>by simp[bI,bM (ds:=ds)]
def eqN(ds c:List D)(j:Nat):Bool:=match ds[j]?,c[j]? with|some a,some b=>eqD a b|_,_=>false
theorem qG:∀{ds a:List D},dH ds a=true->ds.length=a.length
 |[],[],_=>rfl
 |[],_::_,h=>by simp[dH]at h
 |_::_,[],h=>by simp[dH]at h
 |_::ds,_::a,h=>by
  simp only[dH,F1]at h;simp[qG h.2]
theorem lY:∀{ds c:List D},dH ds c=((T6 (min ds.length c.length)).all (eqN ds c)&&ds.length==c.length)
 |[],[]=>by simp[dH]
 |[],_::_=>by simp[dH]
 |_::_,[]=>by simp[dH]
 |a::ds,b::c=>by
  have ih:=@lY ds c;simp only[dH,F4,Nat.add_min_add_right,List.range_succ_eq_map,U3,U1];have e:eqN (a::ds) (b::c) 0=eqD a b:=by simp[eqN]
  have g:(eqN (a::ds) (b::c))∘Nat.succ=eqN ds c:=by
   funext j;simp[eqN]
  rw[e,g,ih];have f:(ds.length+1==c.length+1)=(ds.length==c.length):=by
   rw[R6];simp
  rw[f,Bool.and_assoc]
theorem uS{ds a:List D}(h:ds.length=a.length):dH ds a=(T6 ds.length).all (eqN ds a):=by
 rw[lY,<-h,Nat.min_self];simp
theorem Rep.r{K:u8}{M:DH}{H:Hp}{d:D}{v:V}(h:Rep K M H d v):aN K M H d v:=by
 cases d with
 |tup c=>simp only[Rep]at h;obtain⟨a,b,e,t,r⟩:=h;exact⟨a,b,e,t.sq,r⟩
 |lst c=>simp only[Rep]at h;obtain⟨a,b,e,t,r⟩:=h;exact⟨a,b,e,t.1,r⟩
 |scr c=>simp only[Rep]at h;obtain⟨a,b,e,t,r⟩:=h;exact⟨a,b,e,t.sq,r⟩
 |_=>exact h
theorem zL{i:List (E9×Obj)}{σ:St}{H:Hp}{s:E3}{a:E9}{l j:List V}(I:Inv X i σ H s)(h:SqT X.K H a l)(h':H a=some (.lst j)):False:=by
 obtain⟨g,r,⟨o,e,c,n,d⟩,_⟩:=I.tuple h;obtain⟨_,f,m,_,b⟩:=I.hok a _ h';rw[e]at b;cases b;exact absurd (show M7 "list"=M7 "tuple" from c) (by decide)
theorem v8{C:List (E9×Obj)}{σ:St}{H:Hp}{s:E3}(I:Inv X C σ H s){M M':DH}:∀(n:Nat) {d e:D}{v:V},dLe d n=true->dLe e n=true->aN X.K M H d v->aN X.K M' H e v->eqD d e=true:=by
  intro n
  induction n with
  | zero =>
    intro d e v hd he r1 f;cases d<;>first|(simp[dLe]at hd;done)|skip
    all_goals cases e<;>first|(simp[dLe]at he;done)|skip
    all_goals (simp only[aN,Rep]at r1 f;subst r1;first|(cases f;simp[eqD];done)|cases f)
  | succ n ih =>
    intro d e v hd he r1 f;have j:∀{l h:List D} {o:List V},bI l n=true->bI h n=true->ak X.K M H l o->ak X.K M' H h o->dH l h=true:=by
      intro l
      induction l with
      | nil =>
        intro h o _ _ p q;simp only[ak]at p;subst p;cases h with
        |nil=>simp[dH]
        |cons _ _=>simp[ak]at q
      | cons a l w =>
        intro h o x t p q;simp only[ak]at p;obtain⟨v,m,rfl,z,G⟩:=p;cases h with
        |nil=>simp[ak]at q
        | cons b h =>
          simp only[ak]at q;obtain⟨J,A,i,E,B⟩:=q;cases i;simp only[bI,F1]at x t;simp only[dH,F1];exact⟨ih x.1 t.1 z.r E.r,w x.2 t.2 G B⟩
    cases d with
    | tup l =>
      obtain⟨a,o,rfl,sq,u⟩:=r1;cases e with
      | tup h =>
        obtain⟨b,m,i,c,g⟩:=f;cases i;have:=I.tuple_inj sq c;subst this;simp only[eqD];exact j (by simpa[dLe]using hd) (by simpa[dLe]using he) u g
      | lst h =>
        obtain⟨b,m,i,c,g⟩:=f;cases i;exact(zL I sq c).elim
      |_=>first|(simp[dLe]at he;done)|(simp only[aN,Rep]at f;cases f)
    | lst l =>
      obtain⟨a,o,rfl,sq,u⟩:=r1;cases e with
      | lst h =>
        obtain⟨b,m,i,c,g⟩:=f;cases i;rw[sq]at c;cases c;simp only[eqD];exact j (by simpa[dLe]using hd) (by simpa[dLe]using he) u g
      | tup h =>
        obtain⟨b,m,i,c,g⟩:=f;cases i;exact(zL I c sq).elim
      |_=>first|(simp[dLe]at he;done)|(simp only[aN,Rep]at f;cases f)
    | _ =>
      first
      |(simp[dLe]at hd;done)
      | (cases e with
         |tup h=>(obtain⟨b,m,i,c,g⟩:=f;subst i;simp only[aN,Rep]at r1;cases r1)
         |lst h=>(obtain⟨b,m,i,c,g⟩:=f;subst i;simp only[aN,Rep]at r1;cases r1)
         |_=>first|(simp[dLe]at he;done)|(simp only[aN,Rep]at r1 f;subst r1;first|(cases f;simp[eqD];done)|cases f))
theorem aN.at{K:u8}{M:DH}{H:Hp}{d:D}{v:V}{u:s0}(r:aN K M H d v)(q:aH v u):match d with|.non=>u=.none|.bl b=>u=.bool b|.int i=>∃t,u=.int i t|.str x=>∃t,u=.str x t|_=>True:=by
 cases d<;>first|trivial|(simp only[aN,Rep]at r;subst r;exact q)
open PySem.SeqAt in
theorem pb{ae:List (E9×Obj)}{σ:St}{H:Hp}{s:E3}(I:Inv X ae σ H s){M M':DH}:∀(n:Nat) {A:L6}{d e:D}{v w:V}{N O:s0},A.units+n<ai7->dLe d n=true->dLe e n=true ->
  aN X.K M H d v->aN X.K M' H e w->aH v N->aH w O->EqAt A s N O (eqD d e)/\RcAt A s N O (eqD d e)/\RcNeAt A s N O (!(eqD d e)):=by
 intro n
 induction n with
 |zero =>
  intro A d e v w N O hu hd he B u z p;have c:A.units<ai7:=by lia
  cases d<;>first|(simp[dLe]at hd;done)|skip
  all_goals cases e<;>first|(simp[dLe]at he;done)|skip
  all_goals simp only[aN,Rep]at B u
  all_goals subst B
  all_goals subst u
  all_goals simp only[aH]at z p
  all_goals first|(obtain⟨U,rfl⟩:=z)|subst z
  all_goals first|(obtain⟨Y,rfl⟩:=p)|subst p
  all_goals simp only[eqD]
  ·exact⟨EqAt.same _,RcAt.none_none,RcNeAt.none_none⟩
  ·exact⟨EqAt.none_bool _,RcAt.none_bool _,RcNeAt.none_bool _⟩
  ·exact⟨EqAt.none_int _ _,RcAt.none_int _ _,RcNeAt.none_int _ _⟩
  ·exact⟨EqAt.none_str _ _,RcAt.none_str _ _,RcNeAt.none_str _ _⟩
  ·exact⟨EqAt.bool_none _,RcAt.bool_none _,RcNeAt.bool_none _⟩
  ·exact⟨EqAt.bool_bool _ _,RcAt.bool_bool _ _,RcNeAt.bool_bool _ _⟩
  ·exact⟨EqAt.bool_int _ _ _,RcAt.bool_int _ _ _,RcNeAt.bool_int _ _ _⟩
  ·exact⟨EqAt.bool_str _ _ _,RcAt.bool_str _ _ _,RcNeAt.bool_str _ _ _⟩
  ·exact⟨EqAt.int_none _ _,RcAt.int_none _ _,RcNeAt.int_none _ _⟩
  ·exact⟨EqAt.int_bool _ _ _,RcAt.int_bool _ _ _,RcNeAt.int_bool _ _ _⟩
  ·exact⟨EqAt.int_int _ _ _ _,RcAt.int_int _ _ _ _,RcNeAt.int_int _ _ _ _⟩
  ·exact⟨EqAt.int_str _ _ _ _,RcAt.int_str _ _ _ _,RcNeAt.int_str _ _ _ _⟩
  ·exact⟨EqAt.str_none _ _,RcAt.str_none _ _,RcNeAt.str_none _ _⟩
  ·exact⟨EqAt.str_bool _ _ _,RcAt.str_bool _ _ _,RcNeAt.str_bool _ _ _⟩
  ·exact⟨EqAt.str_int _ _ _ _,RcAt.str_int _ _ _ _,RcNeAt.str_int _ _ _ _⟩
  ·exact⟨EqAt.str_str _ _ _ _,RcAt.str_str _ _ _ _,RcNeAt.str_str _ _ _ _⟩
 |succ n ih =>
  intro A d e v w N O hu hd he B u z p;have c:A.units<ai7:=by lia
  have a1:A.in1.units+n<ai7:=by show A.units+1+n<ai7;lia
  have item:∀{x l:List D} {vs C:List V} {us E:List s0},bI x n=true->bI l n=true->ak X.K M H x vs->ak X.K M' H l C->az vs us->az C E ->
    ∀j (h1:j<us.toArray.size) (h2:j<E.toArray.size),EqAt A.in1 s us.toArray[j] E.toArray[j] (eqN x l j):=by
   intro x l vs C us E d1 d2 h1 h2 h3 h4 j R S;have l1:=h1.length;have l2:=h2.length;have l3:=h3.length;have l4:=h4.length;have j1:j<x.length:=by simp at R;lia
   have j2:j<l.length:=by simp at S;lia
   obtain⟨v1,g1,p1⟩:=h1.get (i:=j) (d:=x[j]) (by simp[j1]);obtain⟨v2,g2,p2⟩:=h2.get (i:=j) (d:=l[j]) (by simp[j2]);obtain⟨N,k1,m1⟩:=h3.get g1;obtain⟨O,k2,m2⟩:=h4.get g2;have e1:us.toArray[j]=N:=by
    simp at R;simpa[E6 R]using k1
   have e2:E.toArray[j]=O:=by
    simp at S;simpa[E6 S]using k2
   rw[e1,e2];have e3:eqN x l j=eqD x[j] l[j]:=by simp[eqN,j1,j2]
   rw[e3];exact(ih a1 (gG d1 (i:=j) (by simp[j1])) (gG d2 (i:=j) (by simp[j2])) p1.r p2.r m1 m2).1
  have L:∀{a b:E9},v=.ref a->w=.ref b->RcAt A s (.ref a) (.ref b) (eqD d e)->EqAt A s (.ref a) (.ref b) (eqD d e):=by
   intro a b ea eb Q
   by_cases a0:a=b
   ·subst a0;subst ea;subst eb;rw[v8 I (n+1) hd he B u];exact EqAt.same _
   ·exact EqAt.of_refs a0 Q
  cases d with
  |tup x =>
   obtain⟨a,vs,rfl,sq,rl⟩:=id B;cases z;obtain⟨J,rv,pt,_⟩:=I.tuple sq;have P:bI x n=true:=by simpa[dLe]using hd
   cases e with
   |tup l =>
    obtain⟨b,C,rfl,g,m⟩:=id u;cases p;obtain⟨h,o,f,_⟩:=I.tuple g;have T:bI l n=true:=by simpa[dLe]using he
    have Z:=item P T rl m rv o;have U:=RcAt.tuples (e:=eqN x l) pt f c Z;have Y:=RcNeAt.tuples (e:=eqN x l) pt f c Z;rw[F7,F7,<-rv.length,<-o.length,<-rl.length,<-m.length,<-lY]at U Y;have Q:RcAt A s (.ref a) (.ref b) (eqD (.tup x) (.tup l)):=by simpa only[eqD]using U
    exact⟨L rfl rfl Q,Q,by simpa only[eqD]using Y⟩
   |lst l =>
    obtain⟨b,C,rfl,g,m⟩:=id u;cases p;obtain⟨h,o,f,_⟩:=I.list (SqL.of g);simp only[eqD];exact⟨EqAt.tuple_list pt f.isList c,RcAt.tuple_list pt f.isList c,RcNeAt.tuple_list pt f.isList c⟩
   |non=>obtain rfl:=u.at p;simp only[eqD];exact⟨EqAt.tuple_none pt c,RcAt.tuple_none pt c,RcNeAt.tuple_none pt c⟩
   |bl b=>obtain rfl:=u.at p;simp only[eqD];exact⟨EqAt.tuple_bool _ pt c,RcAt.tuple_bool _ pt c,RcNeAt.tuple_bool _ pt c⟩
   |int b=>obtain⟨t,rfl⟩:=u.at p;simp only[eqD];exact⟨EqAt.tuple_int _ _ pt c,RcAt.tuple_int _ _ pt c,RcNeAt.tuple_int _ _ pt c⟩
   |str b=>obtain⟨t,rfl⟩:=u.at p;simp only[eqD];exact⟨EqAt.tuple_str _ _ pt c,RcAt.tuple_str _ _ pt c,RcNeAt.tuple_str _ _ pt c⟩
   |_=>simp[dLe]at he
  |lst x =>
   obtain⟨a,vs,rfl,sq,rl⟩:=id B;cases z;obtain⟨J,rv,pt,_⟩:=I.list (SqL.of sq);have P:bI x n=true:=by simpa[dLe]using hd
   cases e with
   |lst l =>
    obtain⟨b,C,rfl,g,m⟩:=id u;cases p;obtain⟨h,o,f,_⟩:=I.list (SqL.of g);have T:bI l n=true:=by simpa[dLe]using he
    have hs:J.toArray.size=x.length/\h.toArray.size=l.length:=by rw[F7,F7,<-rv.length,<-o.length,<-rl.length,<-m.length];exact⟨rfl,rfl⟩
    have Q:RcAt A s (.ref a) (.ref b) (eqD (.lst x) (.lst l))/\RcNeAt A s (.ref a) (.ref b) (!(eqD (.lst x) (.lst l))):=by
     by_cases hl:x.length=l.length
     ·have G:J.toArray.size=h.toArray.size:=by rw[hs.1,hs.2];exact hl
      have Z:=item P T rl m rv o;have U:=RcAt.lists (e:=eqN x l) pt.isList f.isList G c Z;have Y:=RcNeAt.lists (e:=eqN x l) pt.isList f.isList G c Z;rw[hs.1,<-uS hl]at U Y;exact⟨by simpa only[eqD]using U,by simpa only[eqD]using Y⟩
     ·have G:(J.toArray.size != h.toArray.size)=true:=by rw[hs.1,hs.2];simpa using hl
      have e0:eqD (.lst x) (.lst l)=false:=by
       simp only[eqD];cases q:dH x l with
       |false=>rfl
       |true=>exact absurd (qG q) hl
      rw[e0];exact⟨RcAt.lists_lengths pt.isList f.isList G c,RcNeAt.lists_lengths pt.isList f.isList G c⟩
    exact⟨L rfl rfl Q.1,Q⟩
   |tup l =>
    obtain⟨b,C,rfl,g,m⟩:=id u;cases p;obtain⟨h,o,f,_⟩:=I.tuple g;simp only[eqD];exact⟨EqAt.list_tuple pt.isList f c,RcAt.list_tuple pt.isList f c,RcNeAt.list_tuple pt.isList f c⟩
   |non=>obtain rfl:=u.at p;simp only[eqD];exact⟨EqAt.list_none pt.isList c,RcAt.list_none pt.isList c,RcNeAt.list_none pt.isList c⟩
   |bl b=>obtain rfl:=u.at p;simp only[eqD];exact⟨EqAt.list_bool _ pt.isList c,RcAt.list_bool _ pt.isList c,RcNeAt.list_bool _ pt.isList c⟩
   |int b=>obtain⟨t,rfl⟩:=u.at p;simp only[eqD];exact⟨EqAt.list_int _ _ pt.isList c,RcAt.list_int _ _ pt.isList c,RcNeAt.list_int _ _ pt.isList c⟩
   |str b=>obtain⟨t,rfl⟩:=u.at p;simp only[eqD];exact⟨EqAt.list_str _ _ pt.isList c,RcAt.list_str _ _ pt.isList c,RcNeAt.list_str _ _ pt.isList c⟩
   |_=>simp[dLe]at he
  |non =>
   cases e with
   |tup l =>
    obtain⟨b,C,rfl,g,m⟩:=id u;cases p;obtain⟨h,o,f,_⟩:=I.tuple g;obtain rfl:=B.at z;simp only[eqD];exact⟨EqAt.none_tuple f c,RcAt.none_tuple f c,RcNeAt.none_tuple f c⟩
   |lst l =>
    obtain⟨b,C,rfl,g,m⟩:=id u;cases p;obtain⟨h,o,f,_⟩:=I.list (SqL.of g);obtain rfl:=B.at z;simp only[eqD];exact⟨EqAt.none_list f.isList c,RcAt.none_list f.isList c,RcNeAt.none_list f.isList c⟩
   |_=>first|(simp[dLe]at he;done)|exact ih (A:=A) (by lia) (by simp[dLe]) (by simp[dLe]) B u z p
  |bl a =>
   cases e with
   |tup l =>
    obtain⟨b,C,rfl,g,m⟩:=id u;cases p;obtain⟨h,o,f,_⟩:=I.tuple g;obtain rfl:=B.at z;simp only[eqD];exact⟨EqAt.bool_tuple _ f c,RcAt.bool_tuple _ f c,RcNeAt.bool_tuple _ f c⟩
   |lst l =>
    obtain⟨b,C,rfl,g,m⟩:=id u;cases p;obtain⟨h,o,f,_⟩:=I.list (SqL.of g);obtain rfl:=B.at z;simp only[eqD];exact⟨EqAt.bool_list _ f.isList c,RcAt.bool_list _ f.isList c,RcNeAt.bool_list _ f.isList c⟩
   |_=>first|(simp[dLe]at he;done)|exact ih (A:=A) (by lia) (by simp[dLe]) (by simp[dLe]) B u z p
  |int a =>
   cases e with
   |tup l =>
    obtain⟨b,C,rfl,g,m⟩:=id u;cases p;obtain⟨h,o,f,_⟩:=I.tuple g;obtain⟨t,rfl⟩:=B.at z;simp only[eqD];exact⟨EqAt.int_tuple _ _ f c,RcAt.int_tuple _ _ f c,RcNeAt.int_tuple _ _ f c⟩
   |lst l =>
    obtain⟨b,C,rfl,g,m⟩:=id u;cases p;obtain⟨h,o,f,_⟩:=I.list (SqL.of g);obtain⟨t,rfl⟩:=B.at z;simp only[eqD];exact⟨EqAt.int_list _ _ f.isList c,RcAt.int_list _ _ f.isList c,RcNeAt.int_list _ _ f.isList c⟩
   |_=>first|(simp[dLe]at he;done)|exact ih (A:=A) (by lia) (by simp[dLe]) (by simp[dLe]) B u z p
  |str a =>
   cases e with
   |tup l =>
    obtain⟨b,C,rfl,g,m⟩:=id u;cases p;obtain⟨h,o,f,_⟩:=I.tuple g;obtain⟨t,rfl⟩:=B.at z;simp only[eqD];exact⟨EqAt.str_tuple _ _ f c,RcAt.str_tuple _ _ f c,RcNeAt.str_tuple _ _ f c⟩
   |lst l =>
    obtain⟨b,C,rfl,g,m⟩:=id u;cases p;obtain⟨h,o,f,_⟩:=I.list (SqL.of g);obtain⟨t,rfl⟩:=B.at z;simp only[eqD];exact⟨EqAt.str_list _ _ f.isList c,RcAt.str_list _ _ f.isList c,RcNeAt.str_list _ _ f.isList c⟩
   |_=>first|(simp[dLe]at he;done)|exact ih (A:=A) (by lia) (by simp[dLe]) (by simp[dLe]) B u z p
  |_=>simp[dLe]at hd
end
section
variable{X:Cx}{a b c e:L7}{es:List L7}{te O Y:TEd}{pos:Pos}{st:X5}{rest:List X5}{t u:TSd}
def wY:TSd:=λE a M=>E.nx a M
def xT(t u:TSd):TSd:=λE a M=>t { E with nx:=u E } a M
def Dr(te:TEd):TSd:=λE a M=>te a M E.rt
def z4(te:TEd):TSd:=λE a M=>te a M λ_ M1=>E.nx a M1
def z9(c:TTd)(t u:TSd):TSd:=λE a M=>c a M λb M1=>if b=true then t E a M1 else u E a M1
def BD(i:Nat)(te:TEd):TSd:=λE a M=>te a M λd M1=>E.nx (a.set i (some d)) M1
def rO(i:Nat)(t:TSd):TSd:=λE b M=>∃a c,b[i]?=some (some (.ref a))/\M a=some (.lst c)/\t E (b.set i (some (.lst c))) (lP M a)
abbrev GD:=D->DE->Option DE
def PGd(X:Cx)(G:L7)(g:GD):Prop:=∃f:TG,PG X G f/\∀(d:D) (v:V) (e:St) (c b:DE) (M:DH) (H:Hp) (Q:St->Hp->Prop),SR X.K M H e c->HR X.K M H->Rep X.K M H d v->g d c=some b->(∀ a,SR X.K M H a b->Q a H)->f v e H Q
def cH(i:Nat):GD:=λd a=>some (a.set i (some d))
theorem a6{i:Nat}{x:Str}(j:X.N.Nodup)(g:X.N[i]?=some x)(h:Loc X.env.scope x)(a:X.fn x=true∨X.env.scope.names.lookup x=some .local:=by first|exact .inl rfl|exact .inr rfl|assumption):PGd X (.Name x pos) (cH i) :=
 ⟨p8 i,tF j g h a,λd v m l f M H Q c n b e k=>by cases e;exact k _ (c.set i b)⟩
abbrev GDs:=List D->DE->Option DE
def yv(X:Cx)(c:List L7)(g:GDs):Prop:=∃i:TGs,PGs X c i/\∀(h:List D) (j:List V) (f:St) (e b:DE) (M:DH) (H:Hp) (Q:St->Hp->Prop),SR X.K M H f e->HR X.K M H->ak X.K M H h j->g h e=some b->(∀ a,SR X.K M H a b->Q a H)->i j f H Q
def j0:GDs:=λb a=>match b with|[]=>some a|_=>none
def eA(g:GD)(c:GDs):GDs:=λe b=>match e with|[]=>none|d::r=>(g d b).bind λa=>c r a
def ib(g:GDs)(n:Nat):GD:=λd b=>match d with|.tup a=>if a.length=n then g a b else none|_=>none
theorem jT:yv X [] j0:=⟨Ab,tW,λb j h g f M H Q c i a e k=>by
 cases b with
 |nil=>simp only[ak]at a;subst a;cases e;exact⟨rfl,k _ c⟩
 |cons _ _=>cases e⟩
theorem bB{G:L7}{a:List L7}{g:GD}{n:GDs}(B:PGd X G g)(t:yv X a n)
  (hs:(V9 (G::a) X.env).map (·.2)=al5 G X.env::(V9 a X.env).map (·.2):=by rfl):yv X (G::a) (eA g n):=by
 obtain⟨u,x,p⟩:=B;obtain⟨E,s,I⟩:=t;refine⟨vW u E,pI x s hs,λw J A i c M H Q C j m e k=>?_⟩;cases w with
 |nil=>cases e
 |cons d r =>
  simp only[ak]at m;obtain⟨v,l,rfl,o,z⟩:=m;simp only[eA]at e;cases q:g d i with
  |none=>rw[q]at e;cases e
  |some b =>
   rw[q]at e;exact⟨v,l,rfl,p d v A i b M H _ C j o q λf h=>I r l f b c M H Q h j z e k⟩
theorem jY{b:List L7}{w:Nat}{g:GDs}{n:Nat}(t:X.calm=true)(h:yv X b g)(hn:(V9 b X.env).length=n:=by rfl)(i:(V9 b X.env).findIdx? (·.1)=none:=by rfl):PGd X (.Tuple b w pos) (ib g n):=by
 obtain⟨x,A,u⟩:=h;refine⟨BM X.K n x,vR t A hn i,λd v q p f M H Q s z j e k=>?_⟩;cases d with
 |tup o =>
  simp only[ib]at e
  by_cases c:o.length=n
  ·rw[if_pos c]at e;simp only[Rep]at j;obtain⟨a,m,rfl,O,l⟩:=j;exact⟨a,m,rfl,O.sq,by rw[<-l.length];exact c,u o m q p f M H Q s z l e k⟩
  ·rw[if_neg c]at e;cases e
 |_=>cases e
def Ce(te:TEd)(g:GD):TSd:=λE b M=>te b M λd M1=>∃ a,g d b=some a/\E.nx a M1
abbrev TId:=DE->DH->(List D->DH->Prop)->Prop
def ItD(K:u8)(J:It)(ds:List D)(M1:DH)(H1:Hp):Prop:=∀M2 H2,Ext M1 H1 M2 H2->HR K M2 H2->∀i,(∀d,ds[i]?=some d->J.go i H2/\∀x H',J.yld i H2 x H'->Ext M2 H2 M2 H'/\HR K M2 H'/\Rep K M2 H' d x)/\(ds.length<=i->J.stop i H2)
def upI(K:u8)(e:TId):TI:=λf H R=>∃(a:DE) (M:DH) (b:List D->DH->Prop),SR K M H f a/\HR K M H/\e a M b/\∀c M1 J H1,b c M1->Ext M H M1 H1->HR K M1 H1->ItD K J c M1 H1->R J H1
theorem upI.el{K:u8}{t:TId}{σ:St}{H:Hp}{Q:It->Hp->Prop}{P:Prop}(h:upI K t σ H Q)(f:∀(e:DE) (M:DH) (R:List D->DH->Prop),SR K M H σ e->HR K M H->t e M R->(∀ds M1 J H1,R ds M1->Ext M H M1 H1->HR K M1 H1->ItD K J ds M1 H1->Q J H1)->P):P:=by
 obtain⟨j,i,g,a,b,c,d⟩:=h;exact f j i g a b c d
def PId(X:Cx)(G z:L7)(a:TId):Prop:=PI X G z (upI X.K a)
theorem PI.conv{G z:L7}{w a:TI}(h:PI X G z w)(k:∀ σ H R,a σ H R->w σ H R):PI X G z a:=λp s σ H R I q=>h p s σ H R I (k σ H R q)
variable{G z:L7}
def pf(lo:Int)(n:Nat):List D:=(T6 n).map λ(k:Nat)=>.int (lo+(k:Int))
theorem eF{lo:Int}{n i:Nat}{d:D}(h:(pf lo n)[i]?=some d):i<n/\d=.int (lo+i):=by
 unfold pf at h;rw[K8]at h
 by_cases a:i<n
 ·rw[List.getElem?_range a]at h;cases h;exact⟨a,rfl⟩
 ·rw[P8 (by simp;omega)]at h;cases h
theorem tR{K:u8}{lo:Int}{n:Nat}{M1:DH}{H1:Hp}:ItD K (Itr lo n) (pf lo n) M1 H1:=λM2 H2 g a i=>⟨λd b=>by
  obtain⟨f,rfl⟩:=eF b;refine⟨f,λx H' ⟨e,y⟩=>?_⟩;subst e;subst y;exact⟨Ext.refl _ _,a,by simp[Rep]⟩,λc=>by
  show n<=i;simpa[pf]using c⟩
def vK(O:TAd):TId:=λa M R=>O a M λb M1=>∃j:Int,b=[.int j]/\-(2 ^ 62)<=j/\j<2 ^ 62/\R (pf 0 j.toNat) M1
def w9(O:TAd):TId:=λa M R=>O a M λb M1=>∃i j:Int,b=[.int i,.int j]/\(-(2 ^ 62)<=i/\i<2 ^ 62/\-(2 ^ 62)<=j/\j<2 ^ 62)/\R (pf i (j-i).toNat) M1
def cx(g:GD)(Y:TSd)(E:dR):List D->DE->DH->Prop
 |[],b,M=>E.nx b M
 |d::c,b,M=>∃ a,g d b=some a/\Y { E with nx:=cx g Y E c,ct:=cx g Y E c,bk:=E.nx } a M
def Az(b:TId)(g:GD)(Y:TSd):TSd:=λE a M=>b a M λc M1=>cx g Y E c a M1
end
def uk:D->Prop
 |.tup a=>a.length<=F2
 |.lst a=>a.length<=F2
 |.scr a=>a.length<=F2
 |_=>True
section
variable{X:Cx}{a b c e:L7}{es:List L7}{te ta tb:TEd}{pos:Pos}{tg iter elt:L7}
theorem aN.len{K:u8}{f:List (E9×Obj)}{σ:St}{H:Hp}{s:E3}{M:DH}{d:D}{v:V}(I:Inv X f σ H s)(h:Rep X.K M H d v):uk d:=by
 cases d with
 |tup b =>
  simp only[Rep]at h;obtain⟨a,c,e,t,r⟩:=h;obtain⟨_,_,_,z⟩:=I.tuple t.sq;simp only[uk];rw[r.length];exact z
 |lst b =>
  simp only[Rep]at h;obtain⟨a,c,e,t,r⟩:=h;obtain⟨_,_,_,z⟩:=I.list (SqL.of t.1);simp only[uk];rw[r.length];exact z
 |scr b =>
  simp only[Rep]at h;obtain⟨a,c,e,t,r⟩:=h;obtain⟨_,_,_,z⟩:=I.list t.sq;simp only[uk];rw[r.length];exact z
 |_=>trivial
def bY:List Bool->DE->DE
 |true::b,v::a=>v::bY b a
 |false::b,_::a=>none::bY b a
 |[],_::a=>none::bY [] a
 |_,[]=>[]
def sR(ms:List Bool)(k:Nat)(a:DE):DE:=bY ms a++E5 k none
theorem cB:∀(ms:List Bool) (σ:DE),(bY ms σ).length=σ.length
 |true::ms,v::σ=>by simp[bY,cB ms σ]
 |false::ms,_::σ=>by simp[bY,cB ms σ]
 |[],_::σ=>by simp[bY,cB [] σ]
 |[],[]=>by simp[bY]
 |true::_,[]=>by simp[bY]
 |false::_,[]=>by simp[bY]
theorem gX:∀{ms:List Bool}{σ:DE}{i:Nat}{v:D},(bY ms σ)[i]?=some (some v)->ms[i]?=some true/\σ[i]?=some (some v)
 |true::ms,v::σ,0,x,h=>by simpa[bY]using h
 |true::ms,v::σ,i+1,x,h=>by
  have:=gX (ms:=ms) (σ:=σ) (i:=i) (v:=x) (by simpa[bY]using h);simpa using this
 |false::ms,_::σ,0,x,h=>by simp[bY]at h
 |false::ms,_::σ,i+1,x,h=>by
  have:=gX (ms:=ms) (σ:=σ) (i:=i) (v:=x) (by simpa[bY]using h);simpa using this
 |[],_::σ,0,x,h=>by simp[bY]at h
 |[],_::σ,i+1,x,h=>by
  have:=gX (ms:=[]) (σ:=σ) (i:=i) (v:=x) (by simpa[bY]using h);simpa using this
 |[],[],_,_,h=>by simp[bY]at h
 |true::_,[],_,_,h=>by simp[bY]at h
 |false::_,[],_,_,h=>by simp[bY]at h
theorem iw:∀{ms:List Bool}{σ:St}{i:Nat}{v:V},ms[i]?=some true->σ[i]?=some (some v)->(bD ms σ)[i]?=some (some v)
 |true::ms,v::σ,0,x,h,a=>by simpa[bD]using a
 |true::ms,v::σ,i+1,x,h,a=>by
  have:=iw (ms:=ms) (σ:=σ) (i:=i) (v:=x) (by simpa using h) (by simpa using a);simpa[bD]using this
 |false::ms,_::σ,0,x,h,a=>by simp at h
 |false::ms,_::σ,i+1,x,h,a=>by
  have:=iw (ms:=ms) (σ:=σ) (i:=i) (v:=x) (by simpa using h) (by simpa using a);simpa[bD]using this
 |[],_,_,_,h,_=>by simp at h
 |_::_,[],_,_,_,h=>by simp at h
theorem SR.comp{K:u8}{M:DH}{H:Hp}{σ:St}{a:DE}(ms:List Bool)(k:Nat)(h:SR K M H σ a):SR K M H (hJ ms k σ) (sR ms k a):=by
 refine⟨by simp[hJ,sR,bJ,cB,h.1],λi d q=>?_⟩;unfold sR at q
 by_cases b:i<(bY ms a).length
 ·rw[O0 b]at q;obtain⟨m,e⟩:=gX q;obtain⟨v,f,c⟩:=h.2 i d e;refine⟨v,?_,c⟩;have:=iw m f;unfold hJ;rw[O0 (by rw[bJ,h.1,<-cB ms];exact b)];exact this
 ·rw[P5 (by lia),ac2]at q
  split at q<;>cases q
def cE(g:GD)(tc:TTd)(te:TEd):List D->DE->DH->List D->(List D->DH->Prop)->Prop
 |[],_,M,c,Q=>Q c M
 |d::e,f,M,c,Q=>∃ a,g d f=some a/\tc a M λb M1=>if b=true then te a M1 λy M2=>cE g tc te e a M2 (c++[y]) Q else cE g tc te e a M1 c Q
def dLc(ms:List Bool)(k:Nat)(c:TId)(g:GD)(tc:TTd)(te:TEd):TEd:=λa M Q=>c a M λb M1=>b.length<=F2/\cE g tc te b (sR ms k a) M1 [] λe M2=>Q (.lst e) M2
def Ct(X:Cx)(O:List L7)(t:TTd):Prop:=PIf X O (upT X.K t)
def yd:TTd:=λ_ M Q=>Q true M
abbrev vH(K:u8)(g:GD)(f:TG):Prop:=∀(d:D) (v:V) (e:St) (c b:DE) (M:DH) (H:Hp) (Q:St->Hp->Prop),SR K M H e c->HR K M H->Rep K M H d v->g d c=some b->(∀ a,SR K M H a b->Q a H)->f v e H Q
theorem yn{K:u8}{g:GD}{tc:TTd}{te:TEd}{O:TG}(kg:vH K g O){J:It}{ds:List D}{M1:DH}{H1:Hp}(it:ItD K J ds M1 H1)(H:HR K M1 H1)(hz:ds.length<=F2){R:List D->DH->Prop}{σ:St}{M:DE}(sr:SR K M1 H1 σ M)(q:cE g tc te ds M M1 [] R):
  ∃(W:Nat->Nat->List V->St->Hp->Prop) (Z:List V->St->Hp->Prop),(∃m,W 0 m [] σ H1)/\oY J O (upT K tc) (qj (up K te)) W Z/\∀ys h H',Z ys h H'->∃M' a,Ext M1 H1 M' H'/\HR K M' H'/\ak K M' H' a ys/\R a M':=by
 refine⟨λi m ys h H'=>∃ p M' a,m=ds.length-i/\i<=ds.length/\Ext M1 H1 M' H'/\HR K M' H'/\SR K M' H' h p/\ak K M' H' a ys/\a.length<=i/\cE g tc te (ds.drop i) p M' a R,_,
  ⟨ds.length,_,M1,[],by simp,O2 _,Ext.refl _ _,H,sr,ak.nil,by simp,q⟩,?_,λ_ _ _ z=>z⟩
 rintro i m ys E H2 ⟨G,M2,a,rfl,a0,u,n,L,w,la,t⟩;have U:ys.length<=F2:=by rw[<-w.length];lia
 refine⟨U,?_⟩;obtain⟨go,stop⟩:=it M2 H2 u n i
 by_cases e:i<ds.length
 ·have hd:ds[i]?=some ds[i]:=by simp[e]
  obtain⟨S,y1⟩:=go _ hd;rw[S0 e]at t;simp only[cE]at t;obtain⟨c,eg,T⟩:=t;refine .inr ⟨S,λx H' P=>?_⟩;obtain⟨s,o,Y⟩:=y1 x H' P;refine kg _ x E G c M2 H' _ (L.ext s) o Y eg λX f=>?_;refine⟨c,M2,_,f,o,T,λb N H4 A j l=>?_⟩;cases b with
  |true =>
   simp only[if_true]at A ⊢;refine⟨c,N,_,f.ext j,l,A,λy Q v5 H5 q5 C I B=>?_⟩;refine⟨ds.length-(i+1),by lia,c,Q,a++[y],rfl,e,((u.trans s).trans j).trans C,I,(f.ext j).ext C,(((w.ext s).ext j).ext C).append (ak.cons B ak.nil),by simp;lia,q5⟩
  |false =>
   simp only[E7,if_false]at A ⊢;exact⟨ds.length-(i+1),by lia,c,N,a,rfl,e,(u.trans s).trans j,l,f.ext j,(w.ext s).ext j,by lia,A⟩
 ·rw[ad3 (by lia)]at t;exact .inl ⟨stop (by lia),M2,a,u,n,w,t⟩
theorem sX{K:u8}{f:TId}{g:GD}{tc:TTd}{te:TEd}{h:TG}{ms:List Bool}{c:Nat}(n:vH K g h):
  ∀ σ H Q,up K (dLc ms c f g tc te) σ H Q->tLc ms c (upI K f) h (upT K tc) (up K te) σ H Q:=by
 rintro σ H Q ⟨l,M,R,i,w,q,k⟩;refine⟨l,M,_,i,w,q,λL M1 J H1 ⟨C,x⟩ j e m=>?_⟩;obtain⟨W,Z,A,I,E⟩:=yn n m e C ((i.ext j).comp ms c) x;refine⟨W,Z,A,I,λG B H' p z b=>?_⟩;obtain⟨M',t,o,a,s,u⟩:=E _ _ _ z;refine k _ M' _ _ u ((j.trans o).trans (Ext.new a b)) (a.new b) ?_;simp only[Rep];exact⟨p,G,rfl,⟨aT,a.fresh b⟩,s.ext (Ext.new a b)⟩
variable{G:ae7}{Y:List (Str×E9)}{ms:List Bool}{ar:List Str}{O:List L7}
def PGa(X:Cx)(G:ae7)(Y:List (Str×E9))(ar:List Str)(tg:L7)(g:GD):Prop:=∃a:TG,(∀C s H b,PG (aZ X G Y (X.N++ar) C s H b) tg a)/\vH X.K g a
theorem aS{i:Nat}{x:Str}{pos:Pos}(h:(X.N++ar).Nodup)(g:(X.N++ar)[i]?=some x)(a:(relabel G X.env).names.lookup x=some .local):PGa X G Y ar (.Name x pos) (cH i) :=
 ⟨p8 i,λC s H m=>tF h g (.inl a) (.inr a),λd v l j f M H Q c n b e k=>by cases e;exact k _ (c.set i b)⟩
end
abbrev SpD:=List D->DH->(D->DH->Prop)->Prop
def spD(K:u8)(n:Nat)(S:SpD):Sp:=λb H Q _=>∃(a:List D) (M:DH) (R:D->DH->Prop),a.length=n/\ak K M H a b/\HR K M H/\S a M R/\∀d M' v H',R d M'->Ext M H M' H'->HR K M' H'->Rep K M' H' d v->Q v H'
theorem zm{K:u8}{n:Nat}{S:SpD}{a:List V}{H:Hp}{Q:VK}{E:XK}(h:spD K n S a H Q E):a.length=n:=by
 obtain⟨c,M,R,b,r,_⟩:=h;rw[<-r.length];exact b
def fu(N:List Str)(ds:List D):DE:=ds.map some++E5 (N.length-ds.length) none
theorem qg{K:u8}{M:DH}{H:Hp}{N:List Str}:∀{ds:List D}{a:List V},ak K M H ds a->SR K M H (fO N a) (fu N ds):=by
 intro ds a h;have f:=h.length;refine⟨by simp[fO,fu,f],λi d q=>?_⟩;unfold fu at q
 by_cases b:i<ds.length
 ·rw[O0 (by simpa using b),K8]at q;cases e:ds[i]? with
  |none=>rw[e]at q;cases q
  |some j =>
   rw[e]at q;cases q;obtain⟨v,g,c⟩:=h.get e;refine⟨v,?_,c⟩;unfold fO;rw[O0 (by simp;lia),K8,g];rfl
 ·rw[P5 (by simpa using b),ac2]at q
  split at q<;>cases q
section
variable{P:K3}{w:P4}{K:u8}{G:Str->Option s0}{base:K0}{f:E9}{z:J7}
theorem Fun.okD{x b:Str}{st:X5}{f:E9}{z:J7}{N ps:List Str}{k n:Nat}{S:SpD}(F:Fun K x b st f z)(hn:ps.length=n)(O:au N ps (ah st))
  (i:∀ (c:s0) (A:L6) (a:List Env) (s:E3) (H:Hp) (E:XK),cg k (A.deeper (ag6 b (ah st) s.heap.objs.size f c)) →
   ∃t:TSd,ym (kL CX0 P w K G base N b (ah st) f c A a s H E).nox (cf st) t/\∀ds M R,ds.length=n->S ds M R->t { nx:=λ_ M'=>R .non M',rt:=R } (fu N ds) M):aO P w K G base CX0 (k+1) f z ps (spD K n S):=by
 refine F.ok O (λL H Q E h=>by rw[hn];exact zm h) (λc A a s H L Q E C h=>?_);obtain⟨t,B,p⟩:=i c A a s H E C;obtain⟨ds,M,R,J,r,l,q,m⟩:=h;refine⟨_,B,fu N ds,M,_,qg r,l,p ds M R J q,⟨λu M' I H' e j g _=>m .non M' .non H' e j g (by simp[Rep]),λ_ _ _ _ e=>T7 e,λ_ _ _ _ e=>T7 e,λd M' v H' e j g o=>m d M' v H' e j g o⟩⟩
end
section
variable{X:Cx}{a b c e:L7}{z:List L7}{te G I:TEd}{t:TAd}{pos:Pos}
def qr(n:Nat)(S:SpD)(t:TAd):TEd:=λb M Q=>t b M λa M1=>a.length=n/\S a M1 Q
theorem BU{k:Nat}{f:E9}{h:J7}{ps:List Str}{n:Nat}{S:SpD}{x:Str}{p:Pos}(F:aO X.prog X.w X.K X.mg X.base CX0 k f h ps (spD X.K n S))(hr:cg k X.A)(hg:Gl X x)(u:X.mg x=some (.ref f))(s:U9 X.K (.ref f)=true)(l:cY X.K h ps [])
  (ha:PAd X (e::z) t) (hdb:(x==("__debug__":Str))=false:=by decide) (he:F0 (e::z) X.env=(false,Z1 e X.env)::F0 z X.env:=by rfl) (hpl:(U4 pos (F0 z X.env)).any (·.1)=false:=by rfl) :
  PEd X (.Call (.Name x p) (e::z) [] pos) (qr n S t) :=
 (yr F hr hg u s l .nil Cg ha hdb he hpl).conv λG H Q a => a.el λi M R E hr q k => ⟨i,M,_,E,hr,q,λj M1 I H1 ⟨o,m⟩ w c A => by
  dsimp only;rw[ab4];exact⟨j,M1,R,o,A,c,m,λd M' v H' C B g b=>k d M' v H' C (w.trans B) g b⟩⟩
def zC(M1 M2:DH)(d b:D):Prop:=b=d∨∃a l,d=.ref a/\M1 a=some (.lst l)/\M2 a=none/\b=.lst l
theorem pM{K:u8}{M1 M2:DH}{H:Hp}(hr:HR K M1 H)(b:LeM M2 M1):∀{ds c:List D}{f:List V},ac0 (zC M1 M2) ds c->ak K M1 H ds f->ak K M2 H c f
 |_,_,_,.nil,h=>by simp only[ak]at h ⊢;exact h
 |_,_,_,.cons g t,h=>by
  simp only[ak]at h;obtain⟨v,n,rfl,e,m⟩:=h;refine ak.cons ?_ (pM hr b t m);rcases g with rfl|⟨a,l,rfl,j,i,rfl⟩
  ·exact e.ext (Ext.le b)
  ·simp only[Rep]at e;subst e;exact Rep.froze hr b j i
theorem pZ{M1:DH}:∀{ds:List D},ac0 (zC M1 noM) ds (ds.map (rdM M1))
 |[]=>.nil
 | d :: ds => .cons (by
   cases d with
   |ref a =>
    simp only[rdM];cases q:M1 a with
    |none=>exact .inl rfl
    |some o=>cases o with|lst l=>exact .inr ⟨a,l,rfl,q,rfl,rfl⟩|dK _=>exact .inl rfl|dT _=>exact .inl rfl|dKr _ _ _=>exact .inl rfl|ins _ _=>exact .inl rfl|ext _ _=>exact .inl rfl
   |_=>exact .inl rfl) pZ
def CZ(f g te:TEd):TSd:=λE b M=>te b M λd M1=>f b M1 λo M2=>g b M2 λi e=>∃a c k j,o=.ref a/\i=.int k/\e a=some (.lst c)/\ixN c.length k=some j/\E.nx b (ay e a (.lst (c.set j d)))
def B7(e te:TEd):TEd:=λc M Q=>e c M λo M1=>∃a l,o=.ref a/\M1 a=some (.lst l)/\te c M1 λd M2=>∃b,M2 a=some (.lst b)/\b.length<F2/\Q .non (ay M2 a (.lst (b++[d])))
end
def ItW(n:Nat)(a:Nat->V->Prop):It:=⟨λi _=>i<n,λi H x H'=>H'=H/\a i x,λi _=>n<=i⟩
theorem uU{P:K3}{w:P4}{K:u8}{tg:L7}{it:E9}{n:Nat}{S:Nat->s0->Prop}{St:Nat->K0->Prop}{ty:String}{Z:Nat->V->Prop}
  (W:∀A:L6,A.handled=none->Walks P w A it [it] [it] n S St) (T:∀i h,St i h->∃o,h.get? it=some o/\o.cls=.type ty/\∃N,o.data=.fields N)
  (hn:["enumerate","zip","dict_itemiterator","dict_reverseitemiterator","odict_iterator","itertools.zip_longest","itertools.pairwise"].contains ty=false)
  (hv:∀i u,S i u->∃x,aH x u/\Z i x) (a:∀(A:L6) (i:Nat) (s:E3) (Q:s0->E3->Prop) (E:s0->E3->Prop),St i s.heap->Q (.ref it) s->H0 (M8 P w) A (ap9 (.ref it)) Q E s):oH P w K tg (ItW n Z) [it] it (λi h=>i<=n/\St i h) where
 mem:=by simp
 obj:=λi h st b f=>by
  have e:b=it:=by simpa using f
  subst e;obtain⟨o,e,c,N,d⟩:=T i h st.2;exact⟨o,e,λv z=>by rw[d]at z;cases z⟩
 keep:=λi h l st k=>⟨st.1,(W { handled:=none } rfl).frame i h l st.2 k⟩
 item:=by
  intro X L B hK O i Y s U H E I p st m;subst L B hK;obtain⟨M,J,f2,G,t,R⟩:=p it (by simp);refine(W X.A (I.ok.hd O)).item i s _ _ m st.2 λv l C pv j q=>?_;have I1:Inv X Y U H { s with heap:=l,toks:=C }:=I.turned (λb o f e=>q b o (by simpa using f) e) M J G t R;obtain⟨x,rx,vx⟩:=hv i v pv;obtain⟨o,e,c,N,d⟩:=T _ _ j;exact⟨v,rfl,ux (s:={ s with heap:=l,toks:=C }) e c d hn ⟨x,H,I1,rx,⟨rfl,vx⟩,⟨m,j⟩,λb f=>(p b f).1⟩⟩
 done:=by
  intro X L B hK O i Y s U H E I p st m;subst L B hK;obtain⟨M,J,f2,G,t,R⟩:=p it (by simp);have e:i=n:=Nat.le_antisymm st.1 m;subst e;exact(W X.A (I.ok.hd O)).done s _ _ st.2 λl C q=>⟨rfl,I.turned (λb o f e=>q b o (by simpa using f) e) M J G t R⟩
 self:=λA i s Q E st h=>a A i s Q E st.2 h
section
variable{X:Cx}{a b c e:L7}{J:List L7}{te O Y:TEd}{t:TAd}{pos:Pos}{G z:L7}
def eK(x:Str):List D:=x.cps.toList.map λc=>.str ⟨#[c]⟩
theorem uy{f:List (E9×Obj)}{σ:St}{H:Hp}{s:E3}{x:Str}{t:Tok}{R:It->Hp->Prop}(I:Inv X f σ H s)(ty:String)(hn:["enumerate","zip","dict_itemiterator","dict_reverseitemiterator","odict_iterator","itertools.zip_longest","itertools.pairwise"].contains ty=false)
  (W:∀A:L6,A.handled=none->Walks X.prog X.w A s.heap.objs.size [s.heap.objs.size] [s.heap.objs.size] x.cps.size (SignAt x) (λi h=>h.IsStrIter s.heap.objs.size ty x t i))
  (a:∀(A:L6) (i:Nat) (s':E3) (Q:s0->E3->Prop) (E:s0->E3->Prop),s'.heap.IsStrIter s.heap.objs.size ty x t i->Q (.ref s.heap.objs.size) s'->H0 (M8 X.prog X.w) A (ap9 (.ref s.heap.objs.size)) Q E s')
  (q:R (ItW x.cps.size λi v=>∃c,x.cps[i]?=some c/\v=.str ⟨#[c]⟩) H):PIE X f σ G R (.ref s.heap.objs.size) { s with heap:=s.heap.push { cls:=.type ty,data:=.fields #[.str x t,.int 0 0] } }:=by
 have j:Inv X f σ H { s with heap:=s.heap.push { cls:=.type ty,data:=.fields #[.str x t,.int 0 0] } }:=I.kept (t':=s.toks) λb o e=>E2 _ e;refine⟨s.heap.objs.size,[s.heap.objs.size],_,_,H,rfl,j,uU W (λi h st=>?_) hn (λi u ⟨c,g,e,m⟩=>⟨.str ⟨#[c]⟩,⟨g,m⟩,c,e,rfl⟩) a,⟨O2 _,_,F6 _ rfl,rfl,rfl⟩,λb l=>?_,q⟩
 ·obtain⟨o,e,c,d⟩:=st;exact⟨o,e,c,_,d⟩
 ·have e:b=s.heap.objs.size:=by simpa using l
  subst e;exact I.fpOk (F3 _) (I.hok.fresh (F3 _))
end
section
variable{X:Cx}{a b c e:L7}{G:List L7}{te J O:TEd}{t:TAd}{pos:Pos}
def eqF(x y:D):Option D:=if dLe x 60=true/\dLe y 60=true then some (.bl (eqD x y))else none
theorem wg{x y z:D}(h:eqF x y=some z):dLe x 60=true/\dLe y 60=true/\z=.bl (eqD x y):=by
 unfold eqF at h
 by_cases a:dLe x 60=true/\dLe y 60=true
 ·rw[if_pos a]at h;cases h;exact⟨a.1,a.2,rfl⟩
 ·rw[if_neg a]at h;cases h
theorem cU(f:X.A.units+64<ai7):b7 X (Q6 .Eq) eqF:=by
 intro g s c H M x y v u dx dy dz Q I hr rx ry r1 r2 e k;obtain⟨a,b,rfl⟩:=wg e;exact(pb I 60 (A:=X.A) (by lia) a b r1 r2 rx ry).2.1 X.prog X.w X.xe _ ⟨.bl (eqD dx dy),H,I,rfl,k _ H (Ext.refl _ _) hr (by simp[Rep])⟩
def inD(a:Bool)(x y:D):Option D:=match y with
 |.lst b=>if bu x=true/\b.all bu=true then some (.bl (xor a (b.any λd=>eqD d x)))else none
 |.tup b=>if bu x=true/\b.all bu=true then some (.bl (xor a (b.any λd=>eqD d x)))else none
 |_=>none
theorem AI{K:u8}{M:DH}{H:Hp}{d:D}{v:V}(h:bu d=true)(r:Rep K M H d v):v=toV d/\gq v=true:=by
 cases d<;>first|(simp only[Rep]at r;subst r;exact⟨rfl,rfl⟩)|cases h
theorem yw{x y:D}(b:bu x=true)(a:bu y=true):eqV (toV x) (toV y)=eqD x y:=by
 cases x<;>cases y<;>first|(simp[bu]at b;done)|(simp[bu]at a;done)|(simp[toV,eqV,eqD];done)
theorem lh{K:u8}{M:DH}{H:Hp}{x:D}(e:bu x=true):∀{ds:List D}{b:List V},ak K M H ds b->ds.all bu=true->b.all gq=true/\inV (toV x) b=ds.any λd=>eqD d x
 |[],_,h,_=>by simp only[ak]at h;subst h;simp[inV]
 |d::ds,_,h,a=>by
  simp only[ak]at h;obtain⟨v,m,rfl,f,i⟩:=h;rw[U3,F1]at a;obtain⟨g,l⟩:=AI a.1 f;obtain⟨j,c⟩:=lh e i a.2;subst g;refine⟨by rw[U3,l,j];rfl,?_⟩;unfold inV at c ⊢;rw[ac5,ac5,c,yw a.1 e]
theorem aN.scal{K:u8}{M:DH}{H:Hp}{d:D}{v:V}(h:bu d=true)(r:aN K M H d v):v=toV d/\gq v=true:=by
 cases d<;>first|(simp only[aN,Rep]at r;subst r;exact⟨rfl,rfl⟩)|cases h
theorem DQ:b7 X (Q6 .In) (inD false):=b7.of uN λH M x y m s t Q n p o e q=>by
 cases s with
 |lst g =>
  simp only[inD]at e
  by_cases a:bu m=true/\g.all bu=true
  ·rw[if_pos a]at e;cases e;obtain⟨l,j,rfl,sq,b⟩:=o;obtain⟨i,f⟩:=aN.scal a.1 p;obtain⟨c,h⟩:=lh a.1 b a.2;subst i;refine⟨l,j,rfl,.inl (SqL.of sq),f,c,q _ H (Ext.refl _ _) n ?_⟩;rw[h];simp[Rep]
  ·rw[if_neg a]at e;cases e
 |tup g =>
  simp only[inD]at e
  by_cases a:bu m=true/\g.all bu=true
  ·rw[if_pos a]at e;cases e;obtain⟨l,j,rfl,sq,b⟩:=o;obtain⟨i,f⟩:=aN.scal a.1 p;obtain⟨c,h⟩:=lh a.1 b a.2;subst i;refine⟨l,j,rfl,.inr sq,f,c,q _ H (Ext.refl _ _) n ?_⟩;rw[h];simp[Rep]
  ·rw[if_neg a]at e;cases e
 |_=>cases e
def uZ(f:D->Option D):List D->Option D
 |[d]=>f d
 |_=>none
theorem uc{K:u8}{M:DH}{H:Hp}{d:D}{xs:List V}(h:ac0 (aN K M H) [d] xs):∃v,xs=[v]/\aN K M H d v:=by
 cases h with
 |cons r t=>cases t;exact⟨_,rfl,r⟩
theorem gR{f:D->Option D}{ds:List D}{z:D}(h:uZ f ds=some z):∃d,ds=[d]/\f d=some z:=by
 match ds,h with
 |[d],h=>exact⟨d,rfl,h⟩
def ql:D->Option D
 |.tup a=>some (.int a.length)
 |.lst a=>some (.int a.length)
 |.scr a=>some (.int a.length)
 |.str x=>if x.length<=F2 then some (.int x.length)else none
 |_=>none
theorem bE:cK X (.builtin "len") (uZ ql):=cK.of (dg.or o5 oR) λH M j f m Q c i e q=>by
 obtain⟨d,rfl,h⟩:=gR e;clear e;have e:=h;clear h;obtain⟨v,rfl,r⟩:=uc i;cases d with
 |tup f=>cases e;obtain⟨l,b,rfl,sq,a⟩:=r;exact .inl ⟨l,b,rfl,.inr sq,q _ H (Ext.refl _ _) c (by rw[<-a.length];simp[Rep])⟩
 |lst f=>cases e;obtain⟨l,b,rfl,sq,a⟩:=r;exact .inl ⟨l,b,rfl,.inl (SqL.of sq),q _ H (Ext.refl _ _) c (by rw[<-a.length];simp[Rep])⟩
 |scr f=>cases e;obtain⟨l,b,rfl,sq,a⟩:=r;exact .inl ⟨l,b,rfl,.inl sq,q _ H (Ext.refl _ _) c (by rw[<-a.length];simp[Rep])⟩
 |str x =>
  simp only[ql]at e
  by_cases g:x.length<=F2
  ·rw[if_pos g]at e;cases e;exact .inr ⟨x,by rw[qy r],g,q _ H (Ext.refl _ _) c (by simp[Rep])⟩
  ·rw[if_neg g]at e;cases e
 |_=>cases e
def DG:D->Option D
 |.int i=>some (.int (if i<0 then -i else i))
 |_=>none
theorem CK:cK X (.builtin "abs") (uZ DG):=cK.of xu λH M g h f Q c b e q=>by
 obtain⟨d,rfl,a⟩:=gR e;clear e;have e:=a;clear a;obtain⟨v,rfl,r⟩:=uc b;cases d with
 |int i=>cases e;exact⟨i,by rw[ij r],q _ H (Ext.refl _ _) c (by simp[Rep])⟩
 |_=>cases e
def z8:D->Option D
 |.lst a=>some (.tup a)
 |.tup a=>some (.tup a)
 |_=>none
theorem fq:cK X (.type "tuple") (uZ z8):=cK.of mP λH M m f n Q a j e q=>by
 obtain⟨d,rfl,g⟩:=gR e;clear e;have e:=g;clear g;obtain⟨v,rfl,r⟩:=uc j;cases d with
 |lst f=>cases e;obtain⟨l,b,rfl,sq,c⟩:=r;exact⟨l,b,rfl,.inl ⟨SqL.of sq,λp h=>jo a h c q⟩⟩
 |tup f=>cases e;have i:=aN.tup a r;obtain⟨l,b,rfl,sq,c⟩:=r;exact⟨l,b,rfl,.inr ⟨sq,q _ H (Ext.refl _ _) a i⟩⟩
 |_=>cases e
def wu:D->Bool
 |.bl _=>true
 |_=>false
def uP:D->Bool
 |.bl b=>b
 |_=>false
def ve:D->Option D
 |.lst a=>if a.all wu=true then some (.bl (a.all uP))else none
 |_=>none
theorem uR{p:Nat->Bool}{q:D->Bool}:∀{ds:List D},(∀i d,ds[i]?=some d->p i=q d)->(T6 ds.length).all p=ds.all q:=by
 intro ds h;rw[R6,L4,L4];constructor
 ·intro b d c;obtain⟨i,a,e⟩:=ab1.mp c;rw[<-h i d (by rw[E6 a,e])];exact b i (R8.mpr a)
 ·intro b i a;have a:=R8.mp a;rw[h i ds[i] (by simp[a])];exact b _ (Q0 a)
theorem vS{K:u8}{M:DH}{H:Hp}{ds:List D}{m:List V}{j:List s0}(f:ak K M H ds m)(e:az m j)(o:ds.all wu=true){i:Nat}{u:s0}(h:j[i]?=some u):∃d,ds[i]?=some d/\u=.bool (uP d):=by
 have c:i<ds.length:=by rw[f.length,e.length];exact(J8.mp h).1
 obtain⟨v,g,r⟩:=f.get (i:=i) (d:=ds[i]) (by simp[c]);obtain⟨p,l,n⟩:=e.get g;rw[h]at l;cases l;have a:=L4.mp o ds[i] (Q0 c);refine⟨ds[i],by simp[c],?_⟩;cases q:ds[i]with
 |bl b=>rw[q]at r;simp only[Rep]at r;subst r;exact n
 |_=>rw[q]at a;cases a
theorem ly(O:X.calm=true):cK X (.builtin "all") (uZ ve):=by
 intro C s B H M R T h dz Q I N f J e k;obtain⟨d,rfl,w⟩:=gR e;clear e;have e:=w;clear w;obtain⟨v,rfl,r⟩:=uc J;obtain⟨u,rfl,G⟩:=az.one f;cases d with
 |lst h =>
  simp only[ve]at e
  by_cases j:h.all wu=true
  ·rw[if_pos j]at e;cases e;obtain⟨l,Y,rfl,sq,n⟩:=r;cases G;obtain⟨a,f,x,U⟩:=I.list (SqL.of sq);have g:l≠s.heap.objs.size:=K5 (I.hok.lt sq);refine call_all_walk (W0 x.isList ⟨s.heap.objs.size,[s.heap.objs.size,l],[s.heap.objs.size],a.toArray.size,_,_,λi=>(h[i]?.map uP).getD false,rfl,Walks.list (A:=X.A.in1) (show X.A.in1.handled=none from I.ok.hd O) s.heap.objs.size l g a.toArray,⟨⟨_,F6 _ rfl,rfl,rfl⟩,?_⟩,λi v s' Z S E q=>?_,λL p z=>?_⟩)
   ·obtain⟨o,e,c⟩:=x.isList;exact⟨o,E2 _ e,c⟩
   ·obtain⟨d,m,rfl⟩:=vS n f j (i:=i) (u:=v) (by simpa using E);dsimp only at q;rw[m]at q;exact X1 q
   ·have P:Inv X C B H { s with heap:=L,toks:=p }:=I.kept (t':=p) λb o e=>z b o (by simpa using K5 (F9 e)) (E2 _ e);refine⟨.bl _,H,P,rfl,k _ H (Ext.refl _ _) N ?_⟩;rw[F7,<-f.length,<-n.length,uR (q:=uP) (λi d m=>by simp[m])];simp[Rep]
  ·rw[if_neg j]at e;cases e
 |_=>cases e
end
section
variable{X:Cx}{a b c e:L7}{G:List L7}{te J O:TEd}{t:TAd}{pos:Pos}
def yR(T:String):D->Option Bool
 |.non=>some false
 |.bl _=>some (T=="bool" || T=="int")
 |.int _=>some (T=="int")
 |.str _=>some (T=="str")
 |.tup _=>some (T=="tuple")
 |.lst _=>some (T=="list")
 |.emp=>some (T=="dict")
 |_=>none
def okT(T:String):Bool:=T=="bool" || T=="int" || T=="str" || T=="tuple" || T=="list"
def Dg(T:String)(te:TEd):TEd:=λa M Q=>te a M λd M1=>∃k,yR T (rdM M1 d)=some k/\Q (.bl k) M1
theorem vf{T:String}(A:okT T=true){p:List (E9×Obj)}{s:E3}{σ:St}{H:Hp}{M:DH}{v:V}{u:s0}{d:D}{k:Bool}{Q:VK}(I:Inv X p σ H s)(r:aH v u)(rd:aN X.K M H d v)(e:yR T d=some k)(q:Q (.bl k) H):
  H0 (M8 X.prog X.w) X.A (aq8 (.builtin "isinstance") [u,.type T]) (EP X p σ Q) X.xe s:=by
 have g:∀{k'} ,k=k'->EP X p σ Q (.bool k') s:=λe=>by subst e;exact⟨.bl k,H,I,rfl,q⟩
 have c:∀{k'} ,k=k'->EP X p σ Q (.bool k') { s with toks:=s.toks+1 }:=λe=>by subst e;exact⟨.bl k,H,I.tok _,rfl,q⟩
 have l:T="bool"∨T="int"∨T="str"∨T="tuple"∨T="list":=by
  simp[okT]at A;rcases A with(((h|h)|h)|h)|h<;>simp[h]
 cases d with
 |non =>
  simp only[aN,Rep]at rd;subst rd;simp only[aH]at r;subst r;cases e;rcases l with rfl|rfl|rfl|rfl|rfl
  ·exact IsiPair.NoneType_bool (c rfl)
  ·exact IsiPair.NoneType_int (c rfl)
  ·exact IsiPair.NoneType_str (c rfl)
  ·exact IsiPair.NoneType_tuple (c rfl)
  ·exact IsiPair.NoneType_list (c rfl)
 |bl b =>
  simp only[aN,Rep]at rd;subst rd;simp only[aH]at r;subst r;cases e;rcases l with rfl|rfl|rfl|rfl|rfl
  ·exact IsiPair.bool_bool (g rfl)
  ·exact IsiPair.bool_int (g rfl)
  ·exact IsiPair.bool_str (c rfl)
  ·exact IsiPair.bool_tuple (c rfl)
  ·exact IsiPair.bool_list (c rfl)
 |int i =>
  simp only[aN,Rep]at rd;subst rd;obtain⟨t,rfl⟩:=r;cases e;rcases l with rfl|rfl|rfl|rfl|rfl
  ·exact IsiPair.int_bool (c rfl)
  ·exact IsiPair.int_int (g rfl)
  ·exact IsiPair.int_str (c rfl)
  ·exact IsiPair.int_tuple (c rfl)
  ·exact IsiPair.int_list (c rfl)
 |str x =>
  simp only[aN,Rep]at rd;subst rd;obtain⟨t,rfl⟩:=r;cases e;rcases l with rfl|rfl|rfl|rfl|rfl
  ·exact IsiPair.str_bool (c rfl)
  ·exact IsiPair.str_int (c rfl)
  ·exact IsiPair.str_str (g rfl)
  ·exact IsiPair.str_tuple (c rfl)
  ·exact IsiPair.str_list (c rfl)
 |tup J =>
  obtain⟨a,L,rfl,sq,C⟩:=rd;cases r;cases e;obtain⟨w,B,⟨o,f,j,_⟩,_⟩:=I.tuple sq;rcases l with rfl|rfl|rfl|rfl|rfl
  ·exact IsiPair.tuple_bool f j (c rfl)
  ·exact IsiPair.tuple_int f j (c rfl)
  ·exact IsiPair.tuple_str f j (c rfl)
  ·exact IsiPair.tuple_tuple f j (g rfl)
  ·exact IsiPair.tuple_list f j (c rfl)
 |lst J =>
  obtain⟨a,L,rfl,sq,C⟩:=rd;cases r;cases e;obtain⟨w,B,⟨o,n,f,j,_⟩,_⟩:=I.list (SqL.of sq);rcases l with rfl|rfl|rfl|rfl|rfl
  ·exact IsiPair.list_bool f j (c rfl)
  ·exact IsiPair.list_int f j (c rfl)
  ·exact IsiPair.list_str f j (c rfl)
  ·exact IsiPair.list_tuple f j (c rfl)
  ·exact IsiPair.list_list f j (g rfl)
 |emp =>
  simp only[aN,Rep]at rd;obtain⟨a,rfl,E,_⟩:=rd;cases r;cases e;obtain⟨_,_,_,_,o,G,N,f,m,_⟩:=I.hok a _ E;rcases l with rfl|rfl|rfl|rfl|rfl
  ·exact IsiPair.dict_bool f m.1 (c rfl)
  ·exact IsiPair.dict_int f m.1 (c rfl)
  ·exact IsiPair.dict_str f m.1 (c rfl)
  ·exact IsiPair.dict_tuple f m.1 (c rfl)
  ·exact IsiPair.dict_list f m.1 (c rfl)
 |_=>cases e
abbrev TOd:=DE->DH->(Option Int->DH->Prop)->Prop
def upO(K:u8)(t:TOd):TO:=λb H Q=>∃(a:DE) (M:DH) (R:Option Int->DH->Prop),SR K M H b a/\HR K M H/\t a M R/\∀i M' H',R i M'->Ext M H M' H'->HR K M' H'->Q i H'
theorem upO.el{K:u8}{t:TOd}{σ:St}{H:Hp}{Q:Option Int->Hp->Prop}{P:Prop}(h:upO K t σ H Q)(f:∀(e:DE) (M:DH) (R:Option Int->DH->Prop),SR K M H σ e->HR K M H->t e M R->(∀i M' H',R i M'->Ext M H M' H'->HR K M' H'->Q i H')->P):P:=by
 obtain⟨l,j,g,a,b,c,d⟩:=h;exact f l j g a b c d
def POd(X:Cx)(e:Option L7)(t:TOd):Prop:=PO X e (upO X.K t)
def oy:TOd:=λ_ M Q=>Q none M
def wI(t:TEd):TOd:=λa M Q=>t a M λd M1=>∃i,d=.int i/\Q (some i) M1
theorem PO.conv{e:Option L7}{t t':TO}(h:PO X e t)(k:∀ σ H Q,t' σ H Q->t σ H Q):PO X e t':=λp s σ H Q I q=>h p s σ H Q I (k σ H Q q)
theorem zr:POd X none oy:=yg.conv λe H Q a=>a.el λc M R f b q k=>k none M H q (Ext.refl _ _) b
theorem yN(h:PEd X e te):POd X (some e) (wI te):=(zj h).conv λo H Q a=>a.el λc M R m g q k=>⟨c,M,_,m,g,q,λd M1 v H1 ⟨i,l,j⟩ n b f=>⟨i,by subst l;simpa only[Rep]using f,k _ M1 H1 j n b⟩⟩
def dI(xs:List D)(lo a:Option Int):List D:=(xs.drop (HT.sIx xs.length 0 lo)).take (HT.sIx xs.length xs.length a-HT.sIx xs.length 0 lo)
def slD:D->Option Int->Option Int->Option D
 |.lst a,lo,b=>some (.lst (dI a lo b))
 |.scr a,lo,b=>some (.lst (dI a lo b))
 |.str x,lo,b=>if x.length<=F2 then some (.str (aa0 x lo b))else none
 |.tup a,lo,b=>if HT.sIx a.length 0 lo=0/\HT.sIx a.length a.length b=a.length then none else some (.tup (dI a lo b))
 |_,_,_=>none
def Ew:V->Option Int->Option Int->Hp->VK->Prop:=λx lo a H Q=>∃z,x=.str z/\z.length<=F2/\Q (.str (aa0 z lo a)) H
theorem A7:SlR X Ew:=by
 intro n s m H x v vl vu lo hi sl Q I rx hs pl pu h;obtain⟨z,rfl,b,q⟩:=h;obtain⟨t,rfl⟩:=rx;refine⟨"str",_,PySem.F.slot_str_getitem.lookup,aj9 _ _ _,?_⟩;have a:∀(e:Tok) (k:Nat),EP X n m Q (.str (aa0 z lo hi) e) { s with toks:=k }:=λe k=>⟨.str (aa0 z lo hi),H,I.tok _,⟨e,rfl⟩,q⟩;cases pl with
 |none =>
  cases pu with
  |none=>exact ac6 (l:=none) (u:=none) (st:=none) hs rfl (ak7 ⟨L5 (al9 z _ _) b,a⟩)
  |int j c=>exact ac6 (l:=none) (u:=some (j,c)) (st:=none) hs rfl (ak7 ⟨L5 (al9 z _ _) b,a⟩)
 |int i g =>
  cases pu with
  |none=>exact ac6 (l:=some (i,g)) (u:=none) (st:=none) hs rfl (ak7 ⟨L5 (al9 z _ _) b,a⟩)
  |int j c=>exact ac6 (l:=some (i,g)) (u:=some (j,c)) (st:=none) hs rfl (ak7 ⟨L5 (al9 z _ _) b,a⟩)
def fb:List D->Option (List Str)
 |[]=>some []
 |.str x::a=>(fb a).map (x::·)
 |_=>none
theorem l9{K:u8}{M:DH}{H:Hp}:∀{ds:List D}{f:List V}{c:List s0}{ys:List Str},ak K M H ds f->az f c->fb ds=some ys->StrsAre c ys
 |[],_,_,_,h,a,e=>by
  simp only[ak]at h;subst h;cases a;cases e;exact .nil
 |d::ds,_,_,ys,h,a,e=>by
  simp only[ak]at h;obtain⟨v,l,rfl,b,g⟩:=h;cases d with
  |str x =>
   simp only[fb]at e;cases q:fb ds with
   |none=>rw[q]at e;cases e
   |some m =>
    rw[q]at e;cases e;simp only[Rep]at b;subst b;cases a with
    |cons i j =>
     obtain⟨t,rfl⟩:=i;exact .cons x t (l9 g j q)
  |_=>cases e
def j5(sep:Str):D->Option D
 |.lst b=>match fb b with|some a=>if(a.map (·.length)).sum+a.length*sep.length<=16777216 then some (.str (Txt.join sep a))else none|none=>none
 |_=>none
def zQ(c te:TEd):TEd:=λb M Q=>c b M λo M1=>∃a,o=.str a/\te b M1 λd M2=>∃z,j5 a (rdM M2 d)=some z/\Q z M2
end
def cy(names:List (Str×S8))(a:List (Str×E9)):List (Str×E9):=(names.filterMap λy=>if y.2==.free then(a.lookup y.1).map λc=>(y.1,c)else none).reverse
def eO(env:Env)(y:Str×S8)(a:List (Str×E9)):Sem (ForInStep (List (Str×E9))):=if(y.2==.free)=true then(do let c <-cellOf env y.1;ae6 (V2 ((y.1,c)::a)))else ae6 (V2 a)
theorem jt{env:Env}:∀(names:List (Str×S8)) (a:List (Str×E9)),(∀y∈names,y.2=.free->(env.cells.lookup y.1).isSome=true) ->
  (forIn names a (eO env):Sem (List (Str×E9)))=ae6 (cy names env.cells++a)
 |[],a,_=>by simp[cy]
 |y::r,a,h=>by
  rw[List.forIn_cons]
  by_cases b:(y.2==W3)=true
  ·have j:=h y R0 (by simpa using b);obtain⟨c,i⟩:=U7.mp j;have g:eO env y a=ae6 (V2 ((y.1,c)::a)):=by
    unfold eO cellOf;rw[if_pos b,i];simp only[aq3]
   rw[g];simp only[aq3];rw[jt r ((y.1,c)::a) λy f=>h y (I0 _ f)];have e:cy (y::r) env.cells=cy r env.cells++[(y.1,c)]:=by
    unfold cy;rw[N8,if_pos b,i];simp
   rw[e];simp
  ·have g:eO env y a=ae6 (V2 a):=by
    unfold eO;rw[if_neg b]
   rw[g];simp only[aq3];rw[jt r a λy f=>h y (I0 _ f)];have e:cy (y::r) env.cells=cy r env.cells:=by
    unfold cy;rw[N8,if_neg b]
   rw[e]
theorem zh{a:ae7}{env:Env}(h:∀y∈a.names,y.2=.free->(env.cells.lookup y.1).isSome=true):closureFor a env=ae6 (cy a.names env.cells):=by
 have:=jt (env:=env) a.names [] h;simp only[ab4]at this;show(forIn a.names [] (eO env) >>= λb=>ae6 b)=_;rw[this];simp only[aq3]
theorem wD{a:List (Str×E9)}{names:List (Str×S8)}{x:Str}{c:E9}(h:(cy names a).lookup x=some c):a.lookup x=some c:=by
 have b:=S9 h;unfold cy at b;rw[List.mem_reverse,V1]at b;obtain⟨y,_,e⟩:=b
 split at e
 ·cases q:a.lookup y.1 with
  |none=>rw[q]at e;cases e
  |some f=>rw[q]at e;cases e;exact q
 ·cases e
theorem dG:∀{l:List (Str×E9)}{x:Str}{c:E9},(x,c)∈l->∃a,l.lookup x=some a
 |(y,d)::l,x,c,h=>by
  rw[P1];cases q:x==y with
  |true=>exact⟨d,by simp⟩
  |false =>
   rcases F8.mp h with e|h
   ·cases e;simp at q
   ·simpa using dG h
theorem vY{a:List (Str×E9)}{names:List (Str×S8)}{x:Str}(h:names.lookup x=some .free)(hs:(a.lookup x).isSome=true):∃c,(cy names a).lookup x=some c:=by
 obtain⟨c,b⟩:=U7.mp hs;refine dG (c:=c) ?_;unfold cy;rw[List.mem_reverse,V1];exact⟨(x,.free),S9 h,by simp[b]⟩
def aY(fs:ae7)(N:List Str)(a:ae7)(ms:List Bool):Bool :=
 a.kind==.function&&a.names.all (λy=>y.2 != .cell)&&a.names.all (λy=>y.2 != .local || a.names.lookup y.1==some .local) &&
 a.names.all (λy=>y.2 != .free || fs.names.lookup y.1==some .cell)&&(ms.zip N).all (λy=>!y.1 || a.names.lookup y.2==some .free)&&decide (ms.length<=N.length)
theorem aG{X:Cx}{f:ae7}{ms:List Bool}{ar:List Str}{n0:Nat}(t:X.env.cells=aq0 n0 X.env.scope.names [])(c:aY X.env.scope X.N f ms=true):gh X f (cy f.names X.env.cells) ms ar:=by
 unfold aY at c;simp only[F1,L4,decide_eq_true_eq]at c;obtain⟨⟨⟨⟨⟨n,z⟩,p⟩,u⟩,w⟩,o⟩:=c;have l:∀x,(x,W3)∈f.names->X.env.scope.names.lookup x=some .cell:=λx j=>by
  have:=u _ j;simpa using this
 have m:∀x,(x,W3)∈f.names->(X.env.cells.lookup x).isSome=true:=λx j=>by
  rw[t];exact PySem.W.cellsFrom_some _ _ _ (.inl (l x j))
 refine⟨by simpa using n,λy g e=>?_,λy g e=>?_,zh λy g e=>?_,λx c h=>wD h,λx h=>vY h (m x (S9 h)),λx h=>.inl (l x (S9 h)),λi x q s=>?_,o⟩
 ·have:=z y g;rw[e]at this;simp at this
 ·have:=p y g;simpa[e]using this
 ·obtain⟨a,b⟩:=y;cases e;exact m a g
 ·have:=w (true,x) (by
   rw[ad7];exact⟨i,by rw[List.getElem?_zip_eq_some];exact⟨q,s⟩⟩)
  simpa using this
structure FnD(P:K3) (w:P4) (K:u8) (mg:Str->Option s0) (base:K0) (x:Str) (k n:Nat) (S:SpD):Prop where
 ex:∃(f:E9) (fd:J7) (ps:List Str),aO P w K mg base CX0 k f fd ps (spD K n S)/\mg x=some (.ref f)/\U9 K (.ref f)=true/\cY K fd ps []
section
variable{X:Cx}{e:L7}{z:List L7}{t:TAd}{pos p:Pos}{x:Str}{k n:Nat}{S:SpD}
theorem dc(F:FnD X.prog X.w X.K X.mg X.base x k n S)(hr:cg k X.A)(hg:Gl X x)(ha:PAd X (e::z) t)(hdb:(x==("__debug__":Str))=false:=by decide)(he:F0 (e::z) X.env=(false,Z1 e X.env)::F0 z X.env:=by rfl)(hpl:(U4 pos (F0 z X.env)).any (·.1)=false:=by rfl):
  PEd X (.Call (.Name x p) (e::z) [] pos) (qr n S t):=by
 obtain⟨f,i,h,b,c,a,g⟩:=F.ex;exact BU b hr hg c a g ha hdb he hpl
end
section
variable{X:Cx}{a b c e:L7}{G:List L7}{te J O:TEd}{t:TAd}{pos:Pos}{Y z:L7}
theorem yj:Ci X (unaryOp .USub) (λd=>match d with|.int i=>some (.int (-i))|_=>none):=by
 intro b s a H M x v dx dz Q I hr rx r1 e k;cases dx with
 |int i=>cases e;exact AU b s a H x v Q I rx ⟨i,ij r1,k _ H (Ext.refl _ _) hr (by simp[Rep])⟩
 |_=>cases e
def iI:D->Option (List D)
 |.tup a=>some a
 |.lst a=>some a
 |.scr a=>some a
 |.str x=>if x.length<=F2 then some (eK x)else none
 |_=>none
def zE(te:TEd):TId:=λb M R=>te b M λd M1=>∃a,iI d=some a/\(a.length<=F2->R a M1)
theorem sG{a:List (E9×Obj)}{σ:St}{H:Hp}{s:E3}{o:Obj}(I:Inv X a σ H s):∀b∈[s.heap.objs.size],eQ X a H b:=λb c=>by
 have e:b=s.heap.objs.size:=by simpa using c
 subst e;exact I.fpOk (F3 _) (I.hok.fresh (F3 _))
theorem Ah{K:u8}{x:Str}{M1:DH}{H1:Hp}:ItD K (ItW x.cps.size λi v=>∃c,x.cps[i]?=some c/\v=.str ⟨#[c]⟩) (eK x) M1 H1:=λM2 H2 l e i=>⟨λd a=>by
  unfold eK at a;rw[K8]at a;cases q:x.cps.toList[i]? with
  |none=>rw[q]at a;cases a
  |some c =>
   rw[q]at a;cases a;have f:x.cps[i]?=some c:=by simpa using q
   refine⟨?_,λy H' ⟨g,m,b,h⟩=>?_⟩
   ·exact(O3.mp f).1
   ·subst g;subst h;rw[f]at b;cases b;exact⟨Ext.refl _ _,e,by simp[Rep]⟩,λj=>by
  show x.cps.size<=i;simpa[eK]using j⟩
end
section
variable{M:DH}
theorem yu{i:Int}:rdM M (.int i)=.int i:=rfl
theorem Ac{i:Bool}:rdM M (.bl i)=.bl i:=rfl
theorem iN{i:Str}:rdM M (.str i)=.str i:=rfl
theorem yT:rdM M .non=.non:=rfl
theorem ze{i:List D}:rdM M (.tup i)=.tup i:=rfl
theorem yi{i:List D}:rdM M (.lst i)=.lst i:=rfl
theorem zw{i:List D}:rdM M (.scr i)=.scr i:=rfl
theorem fA{a:E9}{ds:List D}(h:M a=some (.lst ds)):rdM M (.ref a)=.lst ds:=by simp[rdM,h]
theorem zl{a:E9}{ds:List D}:rdM (ay M a (.lst ds)) (.ref a)=.lst ds:=fA aw
theorem Af{f:Int->Int->Option D}{a b:Int}:iOp f (.int a) (.int b)=f a b:=rfl
theorem yp{a b:Int}:mK (.int a) (.int b)=some (.int (a+b)):=rfl
theorem yE{a b:Str}:mK (.str a) (.str b)=if a.length+b.length<=F2 then some (.str (a++b))else none:=rfl
theorem um{a b:List D}:mK (.lst a) (.lst b)=if a.length+b.length<=F2 then some (.lst (a++b))else none:=rfl
theorem yz{a b:List D}:mK (.tup a) (.tup b)=if a.length+b.length<=F2 then some (.tup (a++b))else none:=rfl
theorem uh{a:List D}{b:Int}:ixD (.lst a) (.int b)=atI a b:=rfl
theorem B6{a:List D}{b:Int}:ixD (.scr a) (.int b)=atI a b:=rfl
theorem Dj{a:List D}{b:Int}:ixD (.tup a) (.int b)=atI a b:=rfl
theorem B8{a:Type}{x:a}{xs:List a}:atI (x::xs) 0=some x:=cQ (j:=0) rfl
theorem Da{a:Type}{x y:a}{xs:List a}:atI (x::y::xs) 1=some y:=cQ (j:=1) rfl
theorem Dn{a:Type}{x y z:a}{xs:List a}:atI (x::y::z::xs) 2=some z:=cQ (j:=2) rfl
theorem wM{f:D->Option D}{d:D}:uZ f [d]=f d:=rfl
theorem rY{a:List D}:ql (.lst a)=some (.int a.length):=rfl
theorem AN{a:List D}:ql (.tup a)=some (.int a.length):=rfl
theorem By{a:List D}:ql (.scr a)=some (.int a.length):=rfl
theorem xr{x:Str}:ql (.str x)=if x.length<=F2 then some (.int x.length)else none:=rfl
theorem Bw{i:Int}:DG (.int i)=some (.int (if i<0 then -i else i)):=rfl
theorem Am{a:List D}:z8 (.lst a)=some (.tup a):=rfl
theorem Av{a:List D}:z8 (.tup a)=some (.tup a):=rfl
theorem C3{b:Bool}{x:D}{ds:List D}:inD b x (.lst ds)=if bu x=true/\ds.all bu=true then some (.bl (xor b (ds.any λd=>eqD d x)))else none:=rfl
theorem Dz{b:Bool}{x:D}{ds:List D}:inD b x (.tup ds)=if bu x=true/\ds.all bu=true then some (.bl (xor b (ds.any λd=>eqD d x)))else none:=rfl
theorem BG{a b:Int}:eqF (.int a) (.int b)=some (.bl (a==b)):=by simp[eqF,dLe,eqD]
theorem lL{a b:Str}:eqF (.str a) (.str b)=some (.bl (a==b)):=by simp[eqF,dLe,eqD]
theorem BN{a b:Bool}:eqF (.bl a) (.bl b)=some (.bl (a==b)):=by simp[eqF,dLe,eqD]
theorem B1{ds:List D}{lo a:Option Int}:slD (.scr ds) lo a=some (.lst (dI ds lo a)):=rfl
theorem Cj{ds:List D}{lo a:Option Int}:slD (.lst ds) lo a=some (.lst (dI ds lo a)):=rfl
theorem DJ{x:Str}{lo a:Option Int}:slD (.str x) lo a=if x.length<=F2 then some (.str (aa0 x lo a))else none:=rfl
theorem vC{a:List D}:iI (.lst a)=some a:=rfl
theorem xl{a:List D}:iI (.tup a)=some a:=rfl
theorem xp{a:List D}:iI (.scr a)=some a:=rfl
theorem we{x:Str}:iI (.str x)=if x.length<=F2 then some (eK x)else none:=rfl
theorem CV{n:Nat}:ixN (n+1) 0=some 0:=by simp[ixN]<;>omega
theorem B3{n:Nat}:ixN (n+2) 1=some 1:=by simp[ixN]<;>omega
theorem CC{n:Nat}:ixN (n+3) 2=some 2:=by simp[ixN]<;>omega
theorem sz3(n:Nat)(h:n<=1000:=by decide):n<=F2:=L5 h (by decide)
theorem Bq{b:Bool}:yR "bool" (.bl b)=some true:=rfl
end
end L2
namespace L2
theorem Dd{i j:Int}(h:-18446744073709551616<j/\j<18446744073709551616):jM i j=True:=by unfold jM;simp;right;omega
theorem zG{i j:Int}(h:-18446744073709551616<i/\i<18446744073709551616):jM i j=True:=by unfold jM;simp;left;omega
theorem vF:pW 10 18=True:=by simp[pW]
theorem CG{i j:Int}(h:0<j/\j<1073741824):n9 i j=True:=by unfold n9;simp[h]
end L2
namespace L2
open PySem PySem.Spec PyProof.Rows
theorem bR{g:GD}{tc:TTd}{te:TEd}{M:DH}{Q:List D->DH->Prop}(b:D->Bool)(y:D->D)(Ok:DE->Prop):∀(ds:List D) (e:DE) (c:List D),
  (∀d∈ds,∀ e,Ok e->∃ a,g d e=some a/\Ok a/\(∀i:Bool->DH->Prop,i (b d) M->tc a M i)/\(b d=true->∀f:D->DH->Prop,f (y d) M->te a M f))->Ok e ->
  Q (c++(ds.filter b).map y) M->cE g tc te ds e M c Q
 |[],e,c,_,_,q=>by simpa[cE]using q
 |d::ds,e,c,h,l,q=>by
  simp only[cE];obtain⟨a,p,ok,n,o⟩:=h d R0 e l;refine⟨a,p,n _ ?_⟩;have m:∀d∈ds,∀ e,Ok e->∃ a,g d e=some a/\Ok a/\(∀i:Bool->DH->Prop,i (b d) M->tc a M i)/\(b d=true->∀f:D->DH->Prop,f (y d) M->te a M f):=λx s=>h x (I0 _ s);cases j:b d with
  |true =>
   simp only[if_true];refine o j _ (bR b y Ok ds a (c++[y d]) m ok ?_);simpa[List.filter_cons,j]using q
  |false =>
   simp only[E7,if_false];refine bR b y Ok ds a c m ok ?_;simpa[List.filter_cons,j]using q
theorem iD:∀{a:List Str},fb (a.map D.str)=some a
 |[]=>rfl
 |w::a=>by rw[K7];simp only[fb];rw[iD];rfl
section
variable{X:Cx}{e:L7}{te:TEd}{pos:Pos}
def zO(te:TEd):TSd:=λE a M=>te a M λd M1=>∃M2,LeM M2 M1/\E.rt d M2
end
end L2
namespace L2
open PySem PySem.Spec PyProof.Rows PySem.Builtin.Str
def tx(a:List Nat):Str:=⟨a.toArray⟩
theorem jS(x:Str):x=tx x.cps.toList:=by cases x;simp[tx]
theorem sv{a b:List Nat}:tx a=tx b↔a=b:=by
 unfold tx;constructor
 ·intro h;injection h with h;simpa using congrArg Array.toList h
 ·intro h;rw[h]
theorem ax(a:List Nat):(tx a).cps.toList=a:=by simp[tx]
theorem aA(a:List Nat):(tx a).length=a.length:=by show(tx a).cps.size=_;simp[tx]
theorem mi(a b:List Nat):tx a++tx b=tx (a++b):=by
 show Str.mk (a.toArray++b.toArray)=_;simp[tx]
theorem uX{x:Array Nat}:∀k,k<=x.size->(T6 k).filterMap (x[·]?)=x.toList.take k:=by
 intro k
 induction k with
 |zero=>intro _;simp
 |succ k ih =>
  intro h;rw[List.range_succ,List.filterMap_append,ih (by lia)];have a:x[k]?=some x[k]:=by simp[show k<x.size by lia]
  rw[List.take_add_one];simp[a,show k<x.size by lia]
theorem iE(a:List Nat)(k:Nat):aa0 (tx a) none (some (k:Int))=tx (a.take k):=by
 have h:strSliceIndices none (some (k:Int)) 1 (tx a).length=T6 (min k a.length):=by
  unfold strSliceIndices sliceRange;rw[aA];have c:(max 0 (min (if(k:Int)<0 then(k:Int)+(a.length:Int)else(k:Int)) (a.length:Int)))=((min k a.length:Nat):Int):=by
   rw[if_neg (by lia)];lia
  simp only[show(1:Int) > 0 by decide,if_true];rw[c];have f:(if(0:Int)<((min k a.length:Nat):Int)then(((min k a.length:Nat):Int)-0+1-1) / 1 else 0).toNat=min k a.length:=by
   split<;>lia
  rw[f];apply ae2;intro j;rw[K8]
  by_cases g:j<min k a.length
  ·rw[List.getElem?_range g];simp
  ·rw[P8 (by simp;lia)];rfl
 unfold aa0;rw[h]
 by_cases b:(((1:Int)==1&&(T6 (min k a.length)).length==(tx a).length))=true
 ·rw[if_pos b];have:a.length<=k:=by
   simp[aA]at b
   lia
  rw[Z0 this]
 ·rw[if_neg b];have e:(T6 (min k a.length)).filterMap ((tx a).cps[·]?)=a.take k:=by
   rw[uX _ (by simp[tx];lia),ax];rw[List.take_eq_take_iff]
   lia
  rw[e];rfl
def nF(c:Nat):Prop:=97<=c/\c<=122
def aM(w:Str):Prop:=1<=w.cps.toList.length/\w.cps.toList.length<=8/\∀c∈w.cps.toList,nF c
abbrev abc:Str:=J5 "abcdefghijklmnopqrstuvwxyz"
def fQ:List Nat:=List.range' 97 26
theorem BJ:abc=tx fQ:=by decide +kernel
end L2
namespace L2
open PySem PySem.Spec PyProof.Rows
theorem ni{g:GD}{l:TSd}{E:dR}{all:List D}(I:Nat->DE->DH->Prop)
  (step:∀(i:Nat) (d:D) (b:DE) (M:DH) (X:DE->DH->Prop),all[i]?=some d->I i b M->(∀ a f,I (i+1) a f->X a f)->∃ a,g d b=some a/\l { E with nx:=X,ct:=X,bk:=E.nx } a M)
  (c:∀ b M,I all.length b M->E.nx b M):∀(ds:List D) (i:Nat) (b:DE) (M:DH),all.drop i=ds->i<=all.length->I i b M->cx g l E ds b M
 |[],i,b,M,e,p,h=>by
  have:i=all.length:=by
   have:=congrArg ak5 e;simp at this;lia
  subst this;simpa only[cx]using c b M h
 |d::ds,i,b,M,e,p,h=>by
  have j:i<all.length:=by
   have:=congrArg ak5 e;simp at this;lia
  have n:all[i]?=some d:=by
   have:=congrArg List.head? e;simpa using this
  have o:all.drop (i+1)=ds:=by
   rw[<-List.tail_drop,e];rfl
  simp only[cx];exact step i d b M _ n h λa f m=>ni I step c ds (i+1) a f o j m
theorem eL{g:GD}{f:TSd}{E:dR}{ds:List D}{b:DE}{M:DH}(I:Nat->DE->DH->Prop)(h0:I 0 b M)
  (step:∀(i:Nat) (d:D) (b:DE) (M:DH) (X:DE->DH->Prop),ds[i]?=some d->I i b M->(∀ a e,I (i+1) a e->X a e)->∃ a,g d b=some a/\f { E with nx:=X,ct:=X,bk:=E.nx } a M)
  (c:∀ b M,I ds.length b M->E.nx b M):cx g f E ds b M:=ni I step c ds 0 b M rfl (O2 _) h0
theorem pL{g:GD}{tc:TTd}{te:TEd}{all:List D}{Q:List D->DH->Prop}(I:Nat->List D->DE->DH->Prop)
  (step:∀ (i:Nat) (d:D) (a:List D) (j:DE) (M:DH) (X:List D → DE → DH → Prop),all[i]? = some d → I i a j M → (∀ f c l,I (i + 1) f c l → X f c l) →
   ∃ c,g d j=some c/\tc c M λb M1=>if b=true then te c M1 λy M2=>X (a++[y]) c M2 else X a c M1)
  (m:∀a j M,I all.length a j M->Q a M):∀(ds:List D) (i:Nat) (a:List D) (j:DE) (M:DH),all.drop i=ds->i<=all.length->I i a j M->cE g tc te ds j M a Q
 |[],i,a,j,M,e,s,h=>by
  have:i=all.length:=by
   have:=congrArg ak5 e;simp at this;lia
  subst this;simpa only[cE]using m a j M h
 |d::ds,i,a,j,M,e,s,h=>by
  have n:i<all.length:=by
   have:=congrArg ak5 e;simp at this;lia
  have p:all[i]?=some d:=by
   have:=congrArg List.head? e;simpa using this
  have q:all.drop (i+1)=ds:=by
   rw[<-List.tail_drop,e];rfl
  simp only[cE];exact step i d a j M (λf c l=>cE g tc te ds c l f Q) p h λf c l o=>pL I step m ds (i+1) f c l q n o
theorem qP{g:GD}{tc:TTd}{te:TEd}{ds:List D}{e:DE}{M:DH}{Q:List D->DH->Prop}(I:Nat->List D->DE->DH->Prop)(h0:I 0 [] e M)
  (step:∀ (i:Nat) (d:D) (c:List D) (e:DE) (M:DH) (X:List D → DE → DH → Prop),ds[i]? = some d → I i c e M → (∀ f a j,I (i + 1) f a j → X f a j) →
   ∃ a,g d e=some a/\tc a M λb M1=>if b=true then te a M1 λy M2=>X (c++[y]) a M2 else X c a M1)
  (h:∀c e M,I ds.length c e M->Q c M):cE g tc te ds e M [] Q:=pL I step h ds 0 [] e M rfl (O2 _) h0
theorem szB(n:Nat)(h:n<=16000000:=by decide):n<=F2:=L5 h (by decide)
theorem yh{a:Type}{f:a->D}{xs:List a}{i:Nat}{d:D}(h:(xs.map f)[i]?=some d):∃x,xs[i]?=some x/\d=f x:=by
 rw[K8]at h;cases e:xs[i]? with
 |none=>rw[e]at h;cases h
 |some x=>rw[e]at h;cases h;exact⟨x,rfl,rfl⟩
theorem qD{K:u8}{M:DH}{H:Hp}:∀ns:List Int,ak K M H (ns.map D.int) (ns.map V.int)
 |[]=>ak.nil
 |n::ns=>ak.cons (by simp[Rep]) (qD ns)
theorem vn{K:u8}{H:Hp}{a:E9}{ns:List Int}(c:yk H)(b:SqL K H a (ns.map V.int)):ak K noM H [.scr (ns.map D.int)] [.ref a]:=by
 refine ak.cons ?_ ak.nil;simp only[Rep];refine⟨a,ns.map V.int,rfl,?_,qD ns⟩;rcases b with h|h
 ·left;rcases h with h|h
  ·rcases c a with z|⟨o,e,z⟩<;>(rw[h]at z;cases z)
  ·exact⟨h,rfl⟩
 ·right;exact .inr h
def CS(S:SpD):Prop:=∀(a:List Int) (R:D->DH->Prop),a.length<=63->(∀b,R (.bl true) b)->S [.scr (a.map .int)] noM R
theorem DF{S:SpD}(E:CS S){k:Nat}{x:Str}{l:PySem.W.OpenLaw}{q:K3}{b:List Str}{G:(Str->Option s0)->K0->Prop}{m:P4->K0->Prop}{d:DefRec}{K:Params->u8}(hr:cg k ao3)(hn:l.most=some 63)(g:d.params.defaults=[])
  (A:∀(w:P4) (h:K0),m w h->(K w.params).In h)
  (F:∀ (w:P4) (c:Str → Option s0) (o:E9) (h:K0),(K w.params).In h → h.Ns K1 c → c d.name = some (.ref o) →
   ∃j:J7,(∀(s:E3) (u:s0),ap1 s j ⟨[u],[]⟩ [(x,u)])/\∀base:K0,(K w.params).In base->base.Ns K1 c->aO l.prog w (K w.params) c base CX0 k o j [x] (spD (K w.params) 1 S)) :
  PySem.W.WalkO q b G m l.row.toRowW d [] (λf I=>PySem.call f I) :=
 L2.tT (n:=63) (k:=k) (x:=x) (CX:=λ_=>CX0) (sp:=λw=>spD (K w.params) 1 S) hn (by decide) g hr A F
  (λw H a i t p B=>⟨[.scr (i.map .int)],noM,λd _=>d=.bl true,rfl,vn p B,HR.nil,E i _ t (λ_=>rfl),λd L v J e _ _ C=>by subst e;simpa only[Rep]using C⟩) λ_ _ _ _ _ z=>z
section
variable{X:Cx}
def neF(x y:D):Option D:=if dLe x 60=true/\dLe y 60=true then some (.bl (!(eqD x y)))else none
theorem An(c:X.A.units+64<ai7):b7 X (Q6 .NotEq) neF:=by
 intro f s b H M x y v u dx dy dz Q I hr rx ry r1 r2 e k;unfold neF at e
 by_cases a:dLe dx 60=true/\dLe dy 60=true
 ·rw[if_pos a]at e;cases e;exact(pb I 60 (A:=X.A) (by lia) a.1 a.2 r1 r2 rx ry).2.2 X.prog X.w X.xe _ ⟨.bl (!(eqD dx dy)),H,I,rfl,k _ H (Ext.refl _ _) hr (by simp[Rep])⟩
 ·rw[if_neg a]at e;cases e
theorem Bu{a b:Int}:neF (.int a) (.int b)=some (.bl (!(a==b))):=by simp[neF,dLe,eqD]
theorem Bj{a b:Str}:neF (.str a) (.str b)=some (.bl (!(a==b))):=by simp[neF,dLe,eqD]
theorem Br{a b:Bool}:neF (.bl a) (.bl b)=some (.bl (!(a==b))):=by simp[neF,dLe,eqD]
end
end L2
namespace HT
open PySem PyProof.Rows
section
variable{prog:K3}{w:P4}{A:L6}{E:s0->E3->Prop}{s:E3}
theorem mD{t:E9}{a:Array s0}{Q:Bool->E3->Prop}(b:an4 s.heap t a)(h:Q true s):H0 (M8 prog w) A (K6.Tuple.tupleIsExact (.ref t)) Q E s:=by
 unfold K6.Tuple.tupleIsExact;exact o0 (al7 b.typeIs (E1 (by simpa using h)))
theorem getItem_tuple_whole{t i:E9}{a:Array s0}{j m:s0}{lo g:Option Int}{Q:s0->E3->Prop}(b:an4 s.heap t a)(hs:s.heap.IsSliceOf i j m .none)(pl:ao7 j lo)(o:ao7 m g)
  (l:sIx a.size 0 lo=0/\sIx a.size a.size g=a.size) (h:Q (.ref t) s):H0 (M8 prog w) A (ap2 (.ref t) (.ref i)) Q E s:=by
 obtain⟨os,c,f,n⟩:=id hs;have e:s.TypeIs (.ref i) "slice":=⟨os,c,f⟩;unfold ap2
 try with_reducible refine O5 ?_
 first|refine o0 (E1 ?_)|skip
 refine o0 (wpAny_sequenceKey b.typeIs (by decide) ?_);refine o0 (ac4 (name:=J5 "__getitem__") b.typeIs Q7
  (ae9 Q7 b.typeIs entry_tuple_getitem ?_ (args_tuple_getitem _ _)))
 show H0 _ _ (Z3 (.ref t) >>= _) _ _ s;refine o0 (tupleItemsOf_ b ?_);refine o0 (al7 e ?_);rw[if_pos (by decide)];refine o0 (eR hs pl o ?_);show H0 _ _ (if(((sIx a.size 0 lo:Nat):Int)==0&&(1:Int)==1&&(sIx a.size a.size g-sIx a.size 0 lo)==a.size)=true then _ else _) _ _ s;rw[if_pos (by rw[l.1,l.2];simp)];refine o0 (mD b ?_);rw[if_pos rfl];refine o0 (ak0 ?_)
 first
  |exact E1 ⟨_,rfl,E1 h⟩
  |exact o0 (E1 (E1 ⟨_,rfl,E1 h⟩))
end
end HT
namespace L2
open PySem PySem.Spec PyProof.Rows
section
variable{X:Cx}{a b c e:L7}{es:List L7}{te Y tb ts:TEd}{t:TAd}{pos:Pos}
def slE:D->Option Int->Option Int->Option D
 |.tup b,lo,a=>some (.tup (dI b lo a))
 |d,lo,a=>slD d lo a
def Ec(K:u8):V->Option Int->Option Int->Hp->VK->Prop:=λx lo c H Q=>∃a b,x=.ref a/\SqT K H a b/\(HT.sIx b.length 0 lo=0/\HT.sIx b.length b.length c=b.length)/\Q (.ref a) H
theorem wL:SlR X (Ec X.K):=by
 intro l s j H x v vl vu lo hi sl Q I rx hs pl pu h;obtain⟨a,f,rfl,i,g,q⟩:=h;cases rx;obtain⟨b,r,c,m⟩:=I.tuple i;have e:b.toArray.size=f.length:=by rw[F7];exact r.length.symm
 exact⟨"tuple",_,Q7.lookup,c.typeIs,HT.getItem_tuple_whole c hs pl pu (by rw[e];exact g) ⟨.ref a,H,I,rfl,q⟩⟩
theorem rf{ds:List D}{lo a:Option Int}(h:HT.sIx ds.length 0 lo=0/\HT.sIx ds.length ds.length a=ds.length):dI ds lo a=ds:=by
 unfold dI;rw[h.1,h.2];simp
def C5(te:TEd)(e c:TOd):TEd:=λa M Q=>te a M λx M1=>e a M1 λl M2=>c a M2 λu b=>∃z,slE (rdM b x) l u=some z/\Q z b
theorem Cn{ds:List D}{lo a:Option Int}:slE (.tup ds) lo a=some (.tup (dI ds lo a)):=rfl
theorem C9{ds:List D}{lo a:Option Int}:slE (.lst ds) lo a=some (.lst (dI ds lo a)):=rfl
theorem Dq{ds:List D}{lo a:Option Int}:slE (.scr ds) lo a=some (.lst (dI ds lo a)):=rfl
theorem zD{x:Str}{lo a:Option Int}:slE (.str x) lo a=if x.length<=F2 then some (.str (aa0 x lo a))else none:=rfl
theorem ak.reverse{K:u8}{M:DH}{H:Hp}:∀{ds:List D}{a:List V},ak K M H ds a->ak K M H ds.reverse a.reverse
 |[],_,h=>by simp only[ak]at h;subst h;exact ak.nil
 |d::ds,_,h=>by
  simp only[ak]at h;obtain⟨v,e,rfl,b,c⟩:=h;rw[ah8,ah8];exact(ak.reverse c).append (ak.cons b ak.nil)
variable{G:ae7}{J:List (Str×E9)}{ar:List Str}{O:L7}
def yc(X:Cx)(G:ae7)(J:List (Str×E9))(ar:List Str)(c:List L7)(g:GDs):Prop:=∃h:TGs,(∀C s H l,PGs (aZ X G J (X.N++ar) C s H l) c h)/\∀(j:List D) (i:List V) (f:St) (e b:DE) (M:DH) (H:Hp) (Q:St->Hp->Prop),SR X.K M H f e->HR X.K M H->ak X.K M H j i->g j e=some b->(∀ a,SR X.K M H a b->Q a H)->h i f H Q
theorem sE:yc X G J ar [] j0:=⟨Ab,λ_ _ _ _=>tW,λb j h g f M H Q c i a e k=>by
 cases b with
 |nil=>simp only[ak]at a;subst a;cases e;exact⟨rfl,k _ c⟩
 |cons _ _=>cases e⟩
theorem g6{a:List L7}{g:GD}{o:GDs}(I:PGa X G J ar O g)(w:yc X G J ar a o)
  (hs:∀env,(V9 (O::a) env).map (·.2)=al5 O env::(V9 a env).map (·.2):=by intro _;rfl):yc X G J ar (O::a) (eA g o):=by
 obtain⟨x,A,t⟩:=I;obtain⟨N,u,P⟩:=w;refine⟨vW x N,λC s H n=>pI (A C s H n) (u C s H n) (hs _),λz R E i c M H Q L j m e k=>?_⟩;cases z with
 |nil=>cases e
 |cons d r =>
  simp only[ak]at m;obtain⟨v,l,rfl,p,B⟩:=m;simp only[eA]at e;cases q:g d i with
  |none=>rw[q]at e;cases e
  |some b =>
   rw[q]at e;exact⟨v,l,rfl,t d v E i b M H _ L j p q λf h=>P r l f b c M H Q h j B e k⟩
theorem rm{b:List L7}{z:Nat}{g:GDs}{n:Nat}(w:X.calm=true)(h:yc X G J ar b g)(hn:∀env,(V9 b env).length=n:=by intro _;rfl)(f:∀env,(V9 b env).findIdx? (·.1)=none:=by intro _;rfl):PGa X G J ar (.Tuple b z pos) (ib g n):=by
 obtain⟨A,E,x⟩:=h;refine⟨BM X.K n A,λC s H l=>vR (X:=aZ X G J (X.N++ar) C s H l) w (E C s H l) (hn _) (f _),λd v t q i M H Q u B j e k=>?_⟩;cases d with
 |tup p =>
  simp only[ib]at e
  by_cases c:p.length=n
  ·rw[if_pos c]at e;simp only[Rep]at j;obtain⟨a,o,rfl,Y,m⟩:=j;exact⟨a,o,rfl,Y.sq,by rw[<-m.length];exact c,x p o t q i M H Q u B m e k⟩
  ·rw[if_neg c]at e;cases e
 |_=>cases e
end
section
variable{X:Cx}{a b c e:L7}{es:List L7}{te ta tb ts:TEd}{t:TAd}{pos:Pos}
def inE(a:Bool)(x y:D):Option D:=match y with
 |.str j=>match x with
  |.str i=>some (.bl (xor a (!(W8 j i 0 j.length 1).isEmpty)))
  |_=>none
 |y=>inD a x y
theorem vJ:b7 X (Q6 .In) (inE false):=by
 intro b s a H M x y v u dx dy dz Q I hr rx ry r1 r2 e k;cases dy with
 |str j =>
  cases dx with
  |str i =>
   cases e;exact uL b s a H x y v u Q I rx ry ⟨i,j,qy r1,qy r2,k _ H (Ext.refl _ _) hr (by simp[Rep])⟩
  |_=>cases e
 |_=>exact DQ b s a H M x y v u dx _ dz Q I hr rx ry r1 r2 e k
theorem C7{b:Bool}{x:D}{ds:List D}:inE b x (.lst ds)=if bu x=true/\ds.all bu=true then some (.bl (xor b (ds.any λd=>eqD d x)))else none:=rfl
theorem Cf{b:Bool}{x:D}{ds:List D}:inE b x (.tup ds)=if bu x=true/\ds.all bu=true then some (.bl (xor b (ds.any λd=>eqD d x)))else none:=rfl
theorem wZ{b:Bool}{c:Nat}{y:Str}:inE b (.str (tx [c])) (.str y)=some (.bl (xor b (decide (c∈y.cps.toList)))):=by
 show some (D.bl (xor b (!(W8 y ⟨#[c]⟩ 0 y.length 1).isEmpty)))=_;rw[StrLaws.found_one]
theorem jP:fillsNumberSlot (.type "tuple") "mul"=ae6 false :=
 PySem.fillsNumberSlot_seq (id:="tuple.__mul__") (r:=some (.builtin "tuple.__rmul__")) F.slot_tuple_mul.lookup (by decide +kernel) F.slot_tuple_rmul.lookup (by decide +kernel)
theorem o9:seqRepeat? (.type "tuple")=ae6 (some (.builtin "tuple.__mul__")):=by
 unfold seqRepeat?;rw[PySem.seqSlot_of (T:="tuple") (name:="__mul__") (id:="tuple.__mul__") F.slot_tuple_mul.lookup (by decide +kernel),PySem.seqSlot_of (T:="tuple") (name:="__rmul__") (id:="tuple.__rmul__") F.slot_tuple_rmul.lookup (by decide +kernel)];rfl
theorem lV(a:Int)(t:Tok)(l:E9)(b:Array s0):
  Meets (K6.«int.__rmul__» ⟨[.int a t,.ref l],[]⟩) (λ_ R s=>an4 s.heap l b/\R (.ok (.ret s0.notImplemented)) s) :=
 .of_wp λprog w A R s h=>by
  obtain⟨j,g,d,m,os⟩:=s;obtain⟨⟨⟨cls,i,e,p⟩,o,f,n,c⟩,h⟩:=h;simp only at f c;subst f c
  wp_walk;exact⟨_,rfl,h⟩
theorem mL(l:E9)(b:Array s0)(x:Int)(u:Tok)(e:b.isEmpty=false)(C:2<=x)(B:x<2 ^ 62)(j:b.size*x.toNat<=F2):
  Meets (K6.«tuple.__mul__» ⟨[.ref l,.int x u],[]⟩) (λ_ R s=>an4 s.heap l b/\R (.ok (.ret (.ref s.heap.objs.size))) { s with heap:=s.heap.push { cls:=.type "tuple",data:=.seq (E5 x.toNat b.toList).flatten.toArray } }) :=
 .of_wp λprog w A R s h=>by
  obtain⟨z,h⟩:=h;show H0 _ _ (do
   let n <-asIndex (.int x u)
   if n < -(2 ^ 63) || n>=2 ^ 63 then
    rule "tuple.repeat.overflow";raiseError "OverflowError" s!"cannot fit '{← typeNameOf (.int x u)}' into an index-sized integer"
   let c <-Z3 (.ref l)
   if c.isEmpty || n==1 then
    if <-K6.Tuple.tupleIsExact (.ref l)then rule "tuple.repeat.same-object";return <-ret (.ref l)
   if n<=0 || c.isEmpty then return <-ret (<-S7 #[])
   if c.size*n > (2 ^ 63-1) / 8 then rule "tuple.repeat.no-memory";raiseNew (<-newExc (.type "MemoryError") [])
   if K6.Tuple.tupleTooMany (c.size*n)then ao5 "tuple.__mul__:memory"
   ret (<-S7 ((E5 n.toNat c).foldl (·++·) #[]))) _ _ s
  refine o0 (am7 (a:=x) rfl ?_);dsimp only;rw[if_neg (by simp only[Bool.or_eq_true,decide_eq_true_eq];lia)];refine o0 (tupleItemsOf_ z ?_);rw[if_neg (by simp[e];lia)];rw[if_neg (by simp[e];lia)];have f:((x.toNat:Nat):Int)=x:=by lia
  have g:(b.size:Int)*x=((b.size*x.toNat:Nat):Int):=by rw[Int.natCast_mul,f]
  have q:F2=16777216:=rfl;rw[if_neg (by rw[g];lia)];rw[if_neg (by unfold K6.Tuple.tupleTooMany;rw[g];simp only[decide_eq_true_eq];lia)];have i:ap3 (λp o=>p++o) #[] (E5 x.toNat b)=(E5 x.toNat b.toList).flatten.toArray:=by
   have:=jJ b.toList x.toNat [];rw[M9]at this;simpa using this
  rw[i];have t:sizeOk (.seq (E5 x.toNat b.toList).flatten.toArray):=by
   show(E5 x.toNat b.toList).flatten.toArray.size<=F2;rw[F7,og,K4,ai8];exact j
  exact o0 (m:=S7 _) (U8 (E1 ⟨_,rfl,h⟩) t)
theorem ak.rep{K:u8}{M:DH}{H:Hp}{ds:List D}{a:List V}(h:ak K M H ds a):∀k:Nat,ak K M H (E5 k ds).flatten (E5 k a).flatten
 |0=>ak.nil
 |k+1=>by
  rw[R5,R5,ab7,ab7];exact h.append (ak.rep h k)
def sx:D->D->Option D
 |.int a,.int b=>if jM a b then some (.int (a*b))else none
 |.str x,.int n=>if x.length<=16777216/\-(2 ^ 63)<=n/\n<=16777216/\x.length*n.toNat<=16777216 then some (.str (Txt.mul x n))else none
 |.tup c,.int n=>if 2<=n/\n<2 ^ 62/\c≠[]/\c.length*n.toNat<=F2 then some (.tup (E5 n.toNat c).flatten)else none
 |.lst c,.int n=>if -(2 ^ 63)<=n/\n<2 ^ 63/\c.length*n.toNat<=F2 then some (.lst (E5 n.toNat c).flatten)else none
 |_,_=>none
theorem eE:b7 X (X9 .Mult) sx:=by
 intro G s C H M x y v u dx dy dz Q I hr rx ry r1 r2 e k;cases dx with
 |int a =>
  cases dy with
  |int b=>exact BF G s C H M x y v u _ _ dz Q I hr rx ry r1 r2 e k
  |_=>cases e
 |str z =>
  cases dy with
  |int n =>
   simp only[sx]at e
   by_cases c:z.length<=16777216/\-(2 ^ 63)<=n/\n<=16777216/\z.length*n.toNat<=16777216
   ·rw[if_pos c]at e;cases e;have O:=qy r1;have A:=ij r2;subst O;subst A;obtain⟨Y,rfl⟩:=rx;obtain⟨l,rfl⟩:=ry;have w:MulOk z n:=by
     by_cases hn:0<=n
     ·exact mulOk_of z.length n.toNat (F3 _) (by lia) c.2.1 (by lia) c.2.2.2
     ·exact mulOk_of z.length 0 (F3 _) (by lia) c.2.1 (by lia) (by lia)
    exact SB.mul w λJ S=>⟨.str _,H,I.tok _,⟨J,rfl⟩,k _ H (Ext.refl _ _) hr (by simp[Rep])⟩
   ·rw[if_neg c]at e;cases e
  |_=>cases e
 |tup j =>
  cases dy with
  |int n =>
   simp only[sx]at e
   by_cases c:2<=n/\n<2 ^ 62/\j≠[]/\j.length*n.toNat<=F2
   ·rw[if_pos c]at e;cases e;have A:=ij r2;subst A;obtain⟨l,rfl⟩:=ry;obtain⟨a,m,rfl,sq,h⟩:=r1;cases rx;obtain⟨f,E,pt,Z⟩:=I.tuple sq;have i:=E.length;have g:=h.length;have t:f.toArray.isEmpty=false:=by
     cases f with
     |nil =>
      have N:j.length=0:=by rw[g,i];rfl
      exact absurd (List.length_eq_zero_iff.mp N) c.2.2.1
     |cons _ _=>rfl
    have B:f.toArray.size*n.toNat<=F2:=by rw[F7,<-i,<-g];exact c.2.2.2
    refine wpAny_binaryOp_repeat_ref (T:="tuple") (U:="int") (by decide) pt.typeIs (λP=>an9 P n l) jP F.fills_int_mul ak6 o9 F.slot_int_index.lookup
     (af8 ak6 (an9 s n l) F.entry_int_rmul (F.args_int_rmul_2 _ _) (lV n l a f.toArray)
      ⟨pt,rfl,pt.typeIs,af8 F.slot_tuple_mul pt.typeIs F.entry_tuple_mul (F.args_tuple_mul_2 _ _) (mL a f.toArray n l t c.1 c.2.1 B) ⟨pt,?_⟩⟩)
    have R:az (E5 n.toNat m).flatten (E5 n.toNat f).flatten:=E.rep n.toNat;refine⟨.ref s.heap.objs.size,_,I.laid (t':=s.toks) (o:=.tup (E5 n.toNat m).flatten) (λb ob q=>E2 _ q) (F3 _) ?_,rfl,?_⟩
    ·refine⟨?_,_,R,by simpa using lT.new _ _⟩;rw[og,ai8,<-g];exact c.2.2.2
    ·exact jo hr (I.hok.fresh (F3 _)) (h.rep n.toNat) k
   ·rw[if_neg c]at e;cases e
  |_=>cases e
 |lst j =>
  cases dy with
  |int n =>
   simp only[sx]at e
   by_cases c:-(2 ^ 63)<=n/\n<2 ^ 63/\j.length*n.toNat<=F2
   ·rw[if_pos c]at e;cases e;obtain⟨a,m,rfl,sq,h⟩:=r1;exact AF G s C H _ _ v u Q I rx ry ⟨a,n,m,rfl,ij r2,sq,c.1,c.2.1,by rw[<-h.length];exact c.2.2,λp L=>mj hr L (h.rep n.toNat) k⟩
   ·rw[if_neg c]at e;cases e
  |_=>cases e
 |_=>cases e
theorem zt{a b:Int}:sx (.int a) (.int b)=if jM a b then some (.int (a*b))else none:=rfl
def lO:D->Bool
 |.non=>true
 |_=>false
def oG(a:Bool)(x y:D):Option D:=match y with|.non=>some (.bl (xor a (lO x)))|_=>none
theorem sO{K:u8}{M:DH}{H:Hp}{d:D}{x:V}(r:aN K M H d x):decide (x=V.non)=lO d:=by
 cases d with
 |tup c=>obtain⟨a,b,rfl,_⟩:=r;rfl
 |lst c=>obtain⟨a,b,rfl,_⟩:=r;rfl
 |scr c=>obtain⟨a,b,rfl,_⟩:=r;rfl
 |emp=>simp only[aN,Rep]at r;obtain⟨a,rfl,_⟩:=r;rfl
 |box _ _=>simp only[aN,Rep]at r;obtain⟨a,_,rfl,_⟩:=r;rfl
 |_=>simp only[aN,Rep]at r;subst r;rfl
theorem DY:b7 X (Q6 .Is) (oG false):=by
 intro b s a H M x y v u dx dy dz Q I hr rx ry r1 r2 e k;cases dy with
 |non =>
  cases e;refine Ad b s a H x y v u Q I rx ry ⟨Cb r2,?_⟩;rw[sO r1];exact k _ H (Ext.refl _ _) hr (by simp[Rep])
 |_=>cases e
theorem xR:b7 X (Q6 .IsNot) (oG true):=by
 intro b s a H M x y v u dx dy dz Q I hr rx ry r1 r2 e k;cases dy with
 |non =>
  cases e;refine yP b s a H x y v u Q I rx ry ⟨Cb r2,?_⟩;rw[sO r1];exact k _ H (Ext.refl _ _) hr (by simp[Rep])
 |_=>cases e
theorem vi{b:Bool}{x:D}:oG b x .non=some (.bl (xor b (lO x))):=rfl
variable{G:ae7}{cl:List (Str×E9)}{ms:List Bool}{ar:List Str}{O:List L7}{tg J Y:L7}
end
@[irreducible] def QEd(X:Cx)(e:L7)(t:TEd):Prop:=PEd X e t
theorem QEd.eq{X:Cx}{e:L7}{t:TEd}:QEd X e t=(PEd X e t):=by unfold QEd;rfl
@[irreducible] def QAd(X:Cx)(e:List L7)(t:TAd):Prop:=PAd X e t
theorem QAd.eq{X:Cx}{e:List L7}{t:TAd}:QAd X e t=(PAd X e t):=by unfold QAd;rfl
@[irreducible] def QTd(X:Cx)(e:L7)(t:TTd):Prop:=PTd X e t
theorem QTd.eq{X:Cx}{e:L7}{t:TTd}:QTd X e t=(PTd X e t):=by unfold QTd;rfl
@[irreducible] def QWd(X:Cx)(e:L7)(t:TTd):Prop:=PWd X e t
theorem QWd.eq{X:Cx}{e:L7}{t:TTd}:QWd X e t=(PWd X e t):=by unfold QWd;rfl
@[irreducible] def QSd(X:Cx)(e:X5)(t:TSd):Prop:=PSd X e t
theorem QSd.eq{X:Cx}{e:X5}{t:TSd}:QSd X e t=(PSd X e t):=by unfold QSd;rfl
@[irreducible] def QSs(X:Cx)(e:List X5)(t:TSd):Prop:=ym X e t
theorem QSs.eq{X:Cx}{e:List X5}{t:TSd}:QSs X e t=(ym X e t):=by unfold QSs;rfl
@[irreducible] def QId(X:Cx)(a e:L7)(t:TId):Prop:=PId X a e t
theorem QId.eq{X:Cx}{a e:L7}{t:TId}:QId X a e t=(PId X a e t):=by unfold QId;rfl
@[irreducible] def QIf(X:Cx)(e:List L7)(t:TTd):Prop:=Ct X e t
theorem QIf.eq{X:Cx}{e:List L7}{t:TTd}:QIf X e t=(Ct X e t):=by unfold QIf;rfl
@[irreducible] def QOd(X:Cx)(e:Option L7)(t:TOd):Prop:=POd X e t
theorem QOd.eq{X:Cx}{e:Option L7}{t:TOd}:QOd X e t=(POd X e t):=by unfold QOd;rfl
theorem af{X:Cx}(i:Nat){x:Str}{pos:Pos}(l:X.N[i]?=some x:=by rfl)(g:Vis X.env.scope x:=by first|exact O8 rfl|exact Or.inr (O8 rfl)|exact Or.inr (Or.inr rfl))(b:(x==("__debug__":Str))=false:=by decide)
  (a:(x==("__classdict__":Str))=false:=by decide):QEd X (.Name x pos) (CF i):=by
 simp only[QEd.eq]at *
 exact(wc l g b a).conv λn H Q ⟨m,M,R,f,h,⟨d,e,q⟩,k⟩=>let⟨v,j,c⟩:=f.2 i d e;⟨v,j,k d M v H q (Ext.refl _ _) h c⟩
theorem ai{X:Cx}{i j pos}:QEd X (.Constant (.int i) j pos) (dC (.int i)):=by
 simp only[QEd.eq]at *
 exact Ba.conv λe H Q a=>a.el λc M R f b q k=>k _ M _ H q (Ext.refl _ _) b (by simp[Rep])
theorem Bb{X:Cx}{i j pos}:QEd X (.Constant (.bool i) j pos) (dC (.bl i)):=by
 simp only[QEd.eq]at *
 exact Dy.conv λe H Q a=>a.el λc M R f b q k=>k _ M _ H q (Ext.refl _ _) b (by simp[Rep])
theorem am{X:Cx}{i j pos}:QEd X (.Constant (.str i) j pos) (dC (.str i)):=by
 simp only[QEd.eq]at *
 exact xq.conv λe H Q a=>a.el λc M R f b q k=>k _ M _ H q (Ext.refl _ _) b (by simp[Rep])
theorem cp{X:Cx}{j pos}:QEd X (.Constant .none j pos) (dC .non):=by
 simp only[QEd.eq]at *
 exact Bh.conv λe H Q a=>a.el λc M R f b q k=>k _ M _ H q (Ext.refl _ _) b (by simp[Rep])
theorem dn{X:Cx}{x:Str}{i:Int}{pos:Pos}(hg:Gl X x)(b:∃c,X.mg x=some (.int i c))(a:(x==("__debug__":Str))=false:=by decide):QEd X (.Name x pos) (dC (.int i)):=by
 simp only[QEd.eq]at *
 obtain⟨t,e⟩:=b;exact yL hg e a
theorem bT{X:Cx}{x y:Str}{pos:Pos}(hg:Gl X x)(b:∃c,X.mg x=some (.str y c))(a:(x==("__debug__":Str))=false:=by decide):QEd X (.Name x pos) (dC (.str y)):=by
 simp only[QEd.eq]at *
 obtain⟨t,e⟩:=b;exact ya hg e a
theorem ag{X:Cx}:QAd X [] C1:=by
 simp only[QAd.eq]at *
 exact fH.conv λe H Q a=>a.el λc M R f b q k=>k _ M _ H q (Ext.refl _ _) b ak.nil
theorem aa{X:Cx}{a:L7}{b:List L7}{i:TEd}{n:TAd}(ha:QEd X a i)(hr:QAd X b n)(hs:F0 (a::b) X.env=(false,Z1 a X.env)::F0 b X.env:=by rfl):QAd X (a::b) (zx i n):=by
 simp only[QEd.eq,QAd.eq]at *
 exact(cu ha hr hs).conv λu H Q c=>c.el λh M R l hr q k=>⟨h,M,_,l,hr,q,λd M1 v x t m e o=>⟨h,M1,_,l.ext m,e,t,λw M2 z p s j f g =>
   k _ M2 _ p s (m.trans j) f (ak.cons (o.ext j) g)⟩⟩
theorem bF{X:Cx}{f:List L7}{pos:Pos}{x1}{t:TAd}(h:QAd X f t):QEd X (.Tuple f x1 pos) (CM t):=by
 simp only[QEd.eq,QAd.eq]at *
 exact(Bm h).conv λo H Q c=>c.el λg M R j n q k=>⟨g,M,_,j,n,q,λs M1 m u ⟨z,i⟩ l a e=>⟨by rw[<-e.length];exact z,λp b=>k _ M1 _ _ i (l.trans (Ext.new a b)) (a.new b) (by
   simp only[Rep];exact⟨p,m,rfl,.inl ⟨.inl aT,a.fresh b⟩,e.ext (Ext.new a b)⟩)⟩⟩
theorem cn{X:Cx}{f:List L7}{pos:Pos}{t:TAd}(h:QAd X f t):QEd X (.List f pos) (Ck t):=by
 simp only[QEd.eq,QAd.eq]at *
 exact(vv h).conv λo H Q c=>c.el λg M R j n q k=>⟨g,M,_,j,n,q,λs M1 m u ⟨z,i⟩ l a e=>⟨by rw[<-e.length];exact z,λp b=>k _ M1 _ _ i (l.trans (Ext.new a b)) (a.new b) (by
   simp only[Rep];exact⟨p,m,rfl,⟨aT,a.fresh b⟩,e.ext (Ext.new a b)⟩)⟩⟩
theorem lJ{X:Cx}{f:List L7}{pos:Pos}{t:TAd}(h:QAd X f t):QEd X (.List f pos) (zJ t):=by
 simp only[QEd.eq,QAd.eq]at *
 exact(vv h).conv λn H Q b=>b.el λg M R j m q k=>⟨g,M,_,j,m,q,λs M1 o u ⟨z,i⟩ l a e=>⟨by rw[<-e.length];exact z,λp c=>k _ _ _ _ (i p (a.fresh c)) (l.trans (Ext.own c)) (a.own c e) (by
   simp only[Rep])⟩⟩
theorem aJ{X:Cx}{a:L7}{b:L7}{c:TEd}{e:TEd}{pos:Pos}{f:Operator}{r:D->D->Option D}(h:b7 X (X9 f) r)(ha:QEd X a c)(g:QEd X b e):QEd X (.BinOp a f b pos) (dOp r c e):=by
 simp only[QEd.eq]at *
 exact(CQ h.v ha g).conv xm
theorem jc{X:Cx}{a:L7}{b:L7}{e:TEd}{f:TEd}{pos:Pos}{c:CmpOp}{r:D->D->Option D}(i:b7 X (Q6 c) r)(ha:QEd X a e)(h:QEd X b f)(g:ae1 c b=false):QEd X (.Compare a [c] [b] pos) (dOp r e f):=by
 simp only[QEd.eq]at *
 exact(y8 i.v ha h g).conv xm
theorem bj{X:Cx}{a:L7}{b:L7}{c:TEd}{e:TEd}{pos:Pos}{r:D->D->Option D}(g:IxR X (opV X.K r))(ha:QEd X a c)(f:QEd X b e)(hs:tE b):QEd X (.Subscript a b pos) (dOp r c e):=by
 simp only[QEd.eq]at *
 exact(CY g ha f hs).conv xm
theorem yI{X:Cx}{a:L7}{o:TEd}{pos:Pos}{n:UnaryOp}{r:D->Option D}(E:Ci X (unaryOp n) r)(ha:QEd X a o):QEd X (.UnaryOp n a pos) (dUn r o):=by
 simp only[QEd.eq]at *
 have h:UnR X (unaryOp n) (λx H Q=>∃g f M,HR X.K M H/\aN X.K M H g x/\r g=some f/\∀w b,Ext M H M b->HR X.K M b->Rep X.K M b f w->Q w b):=λN s p H x v Q I J ⟨g,f,M,l,G,e,k⟩=>E N s p H M x v g f Q I l J G e k;exact(CU h ha).conv λp H Q i=>i.el λt M R O l q k=>⟨t,M,_,O,l,q,λx M1 v P ⟨z,u,B⟩ C c L=>⟨_,z,M1,c,L.rd c,u,λw b A j m=>k z M1 w b B (C.trans A) j m⟩⟩
theorem aD{X:Cx}{a:L7}{b:L7}{l:TEd}{m:TEd}{pos:Pos}{i:CmpOp}{r:D->D->Option D}(O:b7 X (Q6 i) r)(ha:QEd X a l)(G:QEd X b m)(L:ae1 i b=false):QTd X (.Compare a [i] [b] pos) (zp (dOp r l m)):=by
 simp only[QEd.eq,QTd.eq]at *
 refine(y3 O.v ha G L).conv λP H Q h=>?_;obtain⟨j,M,R,o,E,q,k⟩:=h;exact⟨j,M,_,o,E,q,λx M1 v T I p f s=>⟨j,M1,_,o.ext p,f,I,λy M2 u S ⟨z,A,b,J,t⟩ n c C=>⟨_,_,z,M2,c,(s.ext n).rd c,C.rd c,A,λw N B g e =>
  ⟨b,by subst J;simpa only[Rep]using e,k b M2 N t ((p.trans n).trans B) g⟩⟩⟩⟩
theorem cJ{X:Cx}{a:L7}{c:TEd}(h:QEd X a c)(he:∀b,isTrue a X.env b=(do let v <-b;ap7 a.pos;ak2 [v] (truthy v)):=by intro _;rfl):QTd X a (zp c):=by
 simp only[QEd.eq,QTd.eq]at *
 exact(BQ h he).conv Cz
theorem kS{X:Cx}{a:L7}{pos:Pos}{f:TTd}(h:QTd X a f):QTd X (.UnaryOp .Not a pos) (zV f):=by
 simp only[QTd.eq]at *
 exact(AH h).conv λo H Q c=>c.el λg M R j m q k=>⟨g,M,_,j,m,q,λb M1 n i l e=>k _ M1 n i l e⟩
theorem ji{X:Cx}{a:L7}{pos:Pos}{b:TTd}(ha:QTd X a b):QWd X (.BoolOp .And [a] pos) b:=by
 simp only[QTd.eq,QWd.eq]at *
 exact yo ha
theorem jz{X:Cx}{a:L7}{pos:Pos}{b:TTd}(ha:QTd X a b):QWd X (.BoolOp .Or [a] pos) b:=by
 simp only[QTd.eq,QWd.eq]at *
 exact BY ha
theorem fC{X:Cx}{a:L7}{b:L7}{pos:Pos}{n:TTd}{f:TTd}{rest:List L7}(ha:QTd X a n)(u:QWd X (.BoolOp .And (b::rest) pos) f):QWd X (.BoolOp .And (a::b::rest) pos) (zK n f):=by
 simp only[QTd.eq,QWd.eq]at *
 exact(AM ha u).conv λx H Q h=>h.el λl M R m t q k=>⟨l,M,_,m,t,q,λc M1 w g j e=>by
   cases c with
   |true=>simp only[if_true]at g ⊢;exact⟨l,M1,R,m.ext j,e,g,λb M2 o p s i=>k b M2 o p (j.trans s) i⟩
   |false=>simp only[E7,if_false]at g ⊢;exact k _ M1 w g j e⟩
theorem ic{X:Cx}{a:L7}{b:L7}{pos:Pos}{n:TTd}{f:TTd}{rest:List L7}(ha:QTd X a n)(u:QWd X (.BoolOp .Or (b::rest) pos) f):QWd X (.BoolOp .Or (a::b::rest) pos) (B5 n f):=by
 simp only[QTd.eq,QWd.eq]at *
 exact(Dv ha u).conv λx H Q h=>h.el λl M R m t q k=>⟨l,M,_,m,t,q,λc M1 w g j e=>by
   cases c with
   |false=>simp only[E7,if_false]at g ⊢;exact⟨l,M1,R,m.ext j,e,g,λb M2 o p s i=>k b M2 o p (j.trans s) i⟩
   |true=>simp only[if_true]at g ⊢;exact k _ M1 w g j e⟩
theorem df{X:Cx}{a:L7}{b:TEd}{pos:Pos}{op}(h:QEd X a b):QEd X (.BoolOp op [a] pos) b:=by
 simp only[QEd.eq]at *
 exact Aw h
theorem bS{X:Cx}{a:L7}{b:L7}{m:TEd}{n:TEd}{pos:Pos}{rest:List L7}(ha:QEd X a m)(x:QEd X (.BoolOp .And (b::rest) pos) n):QEd X (.BoolOp .And (a::b::rest) pos) (CI m n):=by
 simp only[QEd.eq]at *
 exact(AC ha x).conv λC H Q h=>h.el λl M R o w q k=>⟨l,M,_,o,w,q,λd M1 v A ⟨c,e,g⟩ j f p=>⟨c,by subst e;simpa only[Rep]using p,by
   cases c with
   |true=>simp only[if_true]at g ⊢;exact⟨l,M1,R,o.ext j,f,g,λb M2 B s t u i z=>k b M2 B s t (j.trans u) i z⟩
   |false=>simp only[E7,if_false]at g ⊢;exact k _ M1 _ A g j f (by simp[Rep])⟩⟩
theorem D3{X:Cx}{a:L7}{b:L7}{m:TEd}{n:TEd}{pos:Pos}{rest:List L7}(ha:QEd X a m)(x:QEd X (.BoolOp .Or (b::rest) pos) n):QEd X (.BoolOp .Or (a::b::rest) pos) (dOr m n):=by
 simp only[QEd.eq]at *
 exact(DC ha x).conv λC H Q h=>h.el λl M R o w q k=>⟨l,M,_,o,w,q,λd M1 v A ⟨c,e,g⟩ j f p=>⟨c,by subst e;simpa only[Rep]using p,by
   cases c with
   |false=>simp only[E7,if_false]at g ⊢;exact⟨l,M1,R,o.ext j,f,g,λb M2 B s t u i z=>k b M2 B s t (j.trans u) i z⟩
   |true=>simp only[if_true]at g ⊢;exact k _ M1 _ A g j f (by simp[Rep])⟩⟩
theorem Ca{X:Cx}{a:L7}{g:TEd}{pos:Pos}(ha:QEd X a g):QEd X (.UnaryOp .Not a pos) (CW g):=by
 simp only[QEd.eq]at *
 exact(Be ha).conv λp H Q b=>b.el λh M R l n q k=>⟨h,M,_,l,n,q,λd M1 v o ⟨c,e,i⟩ m f j =>
  ⟨c,by subst e;simpa only[Rep]using j,k _ M1 _ o i m f (by simp[Rep])⟩⟩
theorem D4{X:Cx}{a:L7}{b:L7}{c:L7}{t:TEd}{u:TEd}{pos:Pos}{w:TTd}(A:QTd X c w)(ha:QEd X a t)(z:QEd X b u):QEd X (.IfExp c a b pos) (dIf w t u):=by
 simp only[QEd.eq,QTd.eq]at *
 exact(xI A ha z).conv λB H Q j=>j.el λi M R s x q k=>⟨i,M,_,s,x,q,λc M1 C g h f=>by
   cases c with
   |true=>simp only[if_true]at g ⊢;exact⟨i,M1,R,s.ext h,f,g,λb M2 p l m n e o=>k b M2 p l m (h.trans n) e o⟩
   |false=>simp only[E7,if_false]at g ⊢;exact⟨i,M1,R,s.ext h,f,g,λb M2 p l m n e o=>k b M2 p l m (h.trans n) e o⟩⟩
theorem jg{X:Cx}{a:L7}{b:L7}{c:L7}{E:TEd}{G:TEd}{pos:Pos}{tc:TEd}{t g:CmpOp}{r J:D->D->Option D}(ho:b7 X (Q6 t) r)(C:b7 X (Q6 g) J)(ha:QEd X a E)(Z:QEd X b G)(hc:QEd X c tc)
  (hm:lastMarks [t,g] [b,c]=false:=by with_unfolding_all rfl):QEd X (.Compare a [t,g] [b,c] pos) (wx r J E G tc):=by
 simp only[QEd.eq]at *
 refine(xH ho.v C.v ha Z hc hm).conv λσ H Q h=>?_;obtain⟨o,M,R,B,Y,q,k⟩:=h;refine⟨o,M,_,B,Y,q,λx M1 v H1 q1 n s P=>⟨o,M1,_,B.ext n,s,q1,λy M2 u H2 ⟨b,eb,j⟩ m f L=>⟨_,_,.bl b,M2,f,(P.ext m).rd f,L.rd f,eb,λw S l i p =>
  ⟨b,by simpa only[Rep]using p,?_⟩⟩⟩⟩
 cases b with
 |true =>
  simp only[if_true]at j ⊢;exact⟨o,M2,_,(B.ext (n.trans m)).ext l,i,j,λz I w4 H4 ⟨d,ed,O⟩ N e T=>⟨_,_,d,I,e,((L.ext l).ext N).rd e,T.rd e,ed,λw5 U e5 A r5=>k d I w5 U O ((((n.trans m).trans l).trans N).trans e5) A r5⟩⟩
 |false =>
  simp only[E7,if_false]at j ⊢;exact k _ M2 _ S j ((n.trans m).trans l) i (by simp[Rep])
theorem aC{X:Cx}{pos:Pos}{x:Str}{p:Pos}{e:L7}{a:List L7}{t:TAd}{id:String}{r:List D->Option D}(f:cK X (.builtin id) r)(hg:Gl X x)(b:X.mg x=none)(c:Z8 x=some (.builtin id))(ha:QAd X (e::a) t)(hn:x≠"__name__":=by decide)(hdb:(x==("__debug__":Str))=false:=by decide)
  (he:F0 (e::a) X.env=(false,Z1 e X.env)::F0 a X.env:=by rfl) (hpl:(U4 pos (F0 a X.env)).any (·.1)=false:=by rfl):QEd X (.Call (.Name x p) (e::a) [] pos) (dCB r t):=by
 simp only[QEd.eq,QAd.eq]at *
 exact(qA f.v hg b c ha hn hdb he hpl).conv zS
theorem dD{X:Cx}{pos:Pos}{x:Str}{p:Pos}{e:L7}{a:List L7}{t:TAd}{id:String}{r:List D->Option D}(f:cK X (.type id) r)(hg:Gl X x)(b:X.mg x=none)(c:Z8 x=some (.type id))(ha:QAd X (e::a) t)(hn:x≠"__name__":=by decide)(hdb:(x==("__debug__":Str))=false:=by decide)
  (he:F0 (e::a) X.env=(false,Z1 e X.env)::F0 a X.env:=by rfl) (hpl:(U4 pos (F0 a X.env)).any (·.1)=false:=by rfl):QEd X (.Call (.Name x p) (e::a) [] pos) (dCB r t):=by
 simp only[QEd.eq,QAd.eq]at *
 exact(u7 f.v hg b c ha hn hdb he hpl).conv zS
theorem aR{X:Cx}:QSs X [] wY:=by
 simp only[QSs.eq]at *
 exact uf.conv λD c H a=>a.el λb M E e f q u=>u.nx b M c H q (Ext.refl _ _) f e
theorem aj{X:Cx}{st:X5}{rest:List X5}{t:TSd}{u:TSd}(l:QSd X st t)(m:QSs X rest u):QSs X (st::rest) (xT t u):=by
 simp only[QSd.eq,QSs.eq]at *
 exact(lQ l m).conv λD p H a=>a.el λf M E j o q k=>⟨f,M,{ E with nx:=u E },j,o,q,⟨λb g h s n i c e=>⟨b,g,E,e,c,n,k.ext i⟩,k.bk,k.ct,k.rt⟩⟩
theorem ao{X:Cx}{st:X5}{t:TSd}(a:QSd X st t):QSs X [st] t:=by
 simp only[QSd.eq,QSs.eq]at *
 exact o8 a
theorem aB{X:Cx}{e:L7}{te:TEd}{pos:Pos}(he:QEd X e te):QSd X (.Return (some e) pos) (Dr te):=by
 simp only[QEd.eq,QSd.eq]at *
 exact(xb he).conv λD g H a=>a.el λb M E c f q k=>⟨b,M,_,c,f,q,k.rt⟩
theorem jN{X:Cx}{e:L7}{te:TEd}{pos:Pos}(he:QEd X e te)(hs:ak3 e none pos.line X.env=ae6 false:=by rfl):QSd X (.Expr e pos) (z4 te):=by
 simp only[QEd.eq,QSd.eq]at *
 exact(sY he hs).conv λD i H a=>a.el λc M E f j q k=>⟨c,M,_,f,j,q,λd M1 v l h g b _=>k.nx c M1 i l h g b (f.ext g)⟩
theorem bp{X:Cx}{c:L7}{pos:Pos}{t:TSd}{u:TSd}{j l:List X5}{tc:TTd}(o:QTd X c tc)(ha:QSs X j t)(n:QSs X l u):QSd X (.If c j l pos) (z9 tc t u):=by
 simp only[QTd.eq,QSd.eq,QSs.eq]at *
 exact(zM o ha n).conv λD p H h=>h.el λg M E i m q k=>⟨g,M,_,i,m,q,λb M1 s e f a=>by
   cases b with
   |true=>simp only[if_true]at e ⊢;exact⟨g,M1,E,i.ext f,a,e,k.ext f⟩
   |false=>simp only[E7,if_false]at e ⊢;exact⟨g,M1,E,i.ext f,a,e,k.ext f⟩⟩
theorem aU{X:Cx}{e:L7}{te:TEd}{pos:Pos}{i:Nat}{x:Str}{a:Pos}(n:X.N.Nodup)(s:X.N[i]?=some x)(t:Loc X.env.scope x)(he:QEd X e te)(hs:ak3 e (some (.Name x a)) pos.line X.env=ae6 false:=by rfl)(p:X.fn x=true∨X.env.scope.names.lookup x=some .local:=by first|exact .inl rfl|exact .inr rfl|assumption):
  QSd X (.Assign [.Name x a] e pos) (BD i te):=by
 simp only[QEd.eq,QSd.eq]at *
 exact(BW n s t he hs p).conv λD u H b=>b.el λh M E f l q k=>⟨h,M,_,f,l,q,λd M1 v m o g c j=>k.nx _ M1 _ m o g c ((f.ext g).set i j)⟩
theorem zb{X:Cx}{t:TSd}{b:List X5}(i:Nat)(h:QSs X b t):QSs X b (rO i t):=by
 simp only[QSs.eq]at *
 exact PSs.conv h λD c H ⟨u,M,E,f,l,⟨a,w,p,s,q⟩,k⟩=>by
  refine⟨_,lP M a,E,?_,l.le LeM.del,q,k.ext (Ext.le LeM.del)⟩;obtain⟨v,m,e⟩:=f.2 i _ p;simp only[Rep]at e;subst e;have:=(f.ext (Ext.le (M1:=lP M a) LeM.del)).set i (Rep.froze (M1:=lP M a) l LeM.del s vh);have n:c.set i (some (.ref a))=c:=by
   apply ae2;intro j
   by_cases g:j=i
   ·subst g;have o:j<c.length:=(J8.mp m).1;rw[S4 o,m]
   ·rw[V7 (T9 g)]
  rw[n]at this;exact this
theorem nt{X:Cx}{e:L7}{te:TEd}{pos:Pos}{a:L7}{g:GD}(he:QEd X e te)(hg:PGd X a g)(hs:swapsWithSole [a] e pos.line X.env=ae6 false:=by rfl)(s:swappedStores [a] e X.env=ae6 none:=by rfl)
  (t:(V9 [a] X.env).map (·.2)=[al5 a X.env]:=by rfl):QSd X (.Assign [a] e pos) (Ce te g):=by
 simp only[QEd.eq,QSd.eq]at *
 obtain⟨B,w,A⟩:=hg;exact(vQ he w hs s t).conv λD o H f=>f.el λj M E m u q k=>⟨j,M,_,m,u,q,λd M1 v l ⟨c,z,x⟩ n b p=>A d v o j c M1 l _ (m.ext n) b p z λh i=>k.nx c M1 h l x n b i⟩
theorem kE{X:Cx}{a:L7}{pos:Pos}{i:L7}{g:TAd}{p:Pos}(hg:Gl X "range")(w:X.mg "range"=none)(ha:QAd X [a] g)(hs:F0 [a] X.env=[(false,Z1 a X.env)]:=by rfl):QId X i (.Call (.Name "range" p) [a] [] pos) (vK g):=by
 simp only[QAd.eq,QId.eq]at *
 exact(vc hg w ha hs).conv λB H R b=>b.el λh M G x o q k=>⟨h,M,_,x,o,q,λC M1 E s ⟨j,u,m,n,t⟩ z c l=>by
   subst u;obtain⟨v,A,e⟩:=l.one;have f:v=.int j:=by simpa only[Rep]using e
   subst f;subst A;exact⟨j,rfl,m,n,k _ M1 _ s t z c tR⟩⟩
theorem yY{X:Cx}{a:L7}{b:L7}{pos:Pos}{s:L7}{n:TAd}{p:Pos}(hg:Gl X "range")(C:X.mg "range"=none)(ha:QAd X [a,b] n)(hs:F0 [a,b] X.env=[(false,Z1 a X.env),(false,Z1 b X.env)]:=by rfl)(f:F0 [b] X.env=[(false,Z1 b X.env)]:=by rfl):QId X s (.Call (.Name "range" p) [a,b] [] pos) (w9 n):=by
 simp only[QAd.eq,QId.eq]at *
 exact(vm hg C ha hs f).conv λJ H R c=>c.el λo M O E x q k=>⟨o,M,_,E,x,q,λL M1 N z ⟨i,j,B,u,A⟩ G e t=>by
   subst B;obtain⟨v,w,I,g,h⟩:=t.two;have l:v=.int i:=by simpa only[Rep]using g
   have m:w=.int j:=by simpa only[Rep]using h
   subst l;subst m;subst I;exact⟨i,j,rfl,u,k _ M1 _ z A G e tR⟩⟩
theorem qI{X:Cx}{pos:Pos}{R:L7}{iter:L7}{o:List X5}{Y:TId}{g:GD}{N:TSd}(hp:ai6 (M8 X.prog X.w) X.A X.env X.xe)(hc:X.calm=true)(hi:QId X R iter Y)(hg:PGd X R g)(hb:QSs X o N)
  (hs:∀x,X2 iter X.env x=ae6 x:=by intro _;rfl):QSd X (.For R iter o [] pos) (Az Y g N):=by
 simp only[QSd.eq,QSs.eq,QId.eq]at *
 obtain⟨gv,pg,kg⟩:=hg;refine(wa hp hc hi pg hb hs).conv λD σ H hh=>?_;obtain⟨T,M,E,sr,hr,q,k⟩:=hh;refine⟨T,M,_,sr,hr,q,λj M1 J U q1 O S it=>?_⟩;refine⟨λi m c l=>∃ a b,m=j.length-i/\i<=j.length/\Ext M1 U b l/\HR X.K b l/\SR X.K b l c a/\cx g N E (j.drop i) a b,⟨j.length,T,M1,by simp,O2 _,Ext.refl _ _,S,sr.ext O,q1⟩,?_⟩;rintro i m w H2 ⟨L,M2,rfl,a1,t,G,C,B⟩;obtain⟨go,stop⟩:=it M2 H2 t G i
 by_cases n:i<j.length
 ·have hd:j[i]?=some j[i]:=by simp[n]
  obtain⟨g1,y1⟩:=go _ hd;rw[S0 n]at B;simp only[cx]at B;obtain⟨A,eg,f3⟩:=B;refine .inr ⟨g1,λc l=>∃Z,Z<j.length-i/\∃ a b,Z=j.length-(i+1)/\i+1<=j.length/\Ext M1 U b l/\HR X.K b l/\SR X.K b l c a/\cx g N E (j.drop (i+1)) a b,λc l z=>z,λx l hy=>?_⟩;obtain⟨u,I,rx⟩:=y1 x l hy;refine kg _ x w L A M2 l _ (C.ext u) I rx eg λa0 P=>?_;refine⟨A,M2,_,P,I,f3,⟨λa b c h p s e f=>?_,λa b c h p s e f=>?_,λa b c h p s e f=>?_,λd b v h p s e Q=>?_⟩⟩
  ·exact⟨_,by lia,a,b,rfl,n,(t.trans u).trans s,e,f,p⟩
  ·exact k.nx a b c h p (((O.trans t).trans u).trans s) e f
  ·exact⟨_,by lia,a,b,rfl,n,(t.trans u).trans s,e,f,p⟩
  ·exact k.rt d b v h p (((O.trans t).trans u).trans s) e Q
 ·rw[ad3 (by lia)]at B;exact .inl ⟨stop (by lia),k.nx L M2 w H2 B (O.trans t) G C⟩
theorem bH{X:Cx}:QIf X [] yd:=by
 simp only[QIf.eq]at *
 exact λb s a H Q I ⟨e,M,R,f,c,q,k⟩=>za b s a H Q I (k true M H q (Ext.refl _ _) c)
theorem gj{X:Cx}{pos:Pos}{f:L7}{iter:L7}{b:L7}{a:ae7}{e:List (Str×E9)}{ms:List Bool}{ar:List Str}{c:List L7}{j:TId}{g:GD}{tc:TTd}{te:TEd}(S:gh X a e ms ar)(l:X.calm=true)(m:QId X f iter j)(hg:PGa X a e ar f g)
  (i:∀C s H h,QIf (aZ X a e (X.N++ar) C s H h) c tc) (he:∀C s H h,QEd (aZ X a e (X.N++ar) C s H h) b te)
  (hs:∀x,X2 iter X.env x=ae6 x:=by intro _;rfl):QEd X (.ListComp b [⟨f,iter,c,0⟩] a pos) (dLc ms ar.length j g tc te):=by
 simp only[QEd.eq,QId.eq,QIf.eq]at *
 obtain⟨p,n,o⟩:=hg;exact(AJ (tc:=upT X.K tc) S l m n i (vV (te:=up X.K te) he) hs).conv (sX o)
theorem sQ{X:Cx}{pos:Pos}{h:L7}{iter:L7}{e:L7}{a:ae7}{j:List (Str×E9)}{ms:List Bool}{ar:List Str}{f:List L7}{i:Nat}{x:Str}{c b:Pos}{u:TId}{g:GD}{tc:TTd}{te:TEd}(G:X.N.Nodup)(o:X.N[i]?=some x)(T:X.env.scope.names.lookup x=some .local)
  (n:ak3 (.ListComp e [⟨h,iter,f,0⟩] a pos) (some (.Name x b)) c.line X.env=ae6 true) (S:gh X a j ms ar) (L:X.calm=true) (R:QId X h iter u) (hg:PGa X a j ar h g)
  (m:∀C s H p,QIf (aZ X a j (X.N++ar) C s H p) f tc) (he:∀C s H p,QEd (aZ X a j (X.N++ar) C s H p) e te)
  (hs:∀x,X2 iter X.env x=ae6 x:=by intro _;rfl):QSd X (.Assign [.Name x b] (.ListComp e [⟨h,iter,f,0⟩] a pos) c) (BD i (dLc ms ar.length u g tc te)):=by
 simp only[QEd.eq,QSd.eq,QId.eq,QIf.eq]at *
 obtain⟨U,Q,N⟩:=hg;refine(uV (tc:=upT X.K tc) G o T n S L R Q m (vV (te:=up X.K te) he) hs).conv λD O H J=>?_;obtain⟨z,M,E,w,A,q,k⟩:=J;exact sX N O H _ ⟨z,M,_,w,A,q,λd M1 v B I t l P=>k.nx _ M1 _ B I t l ((w.ext t).set i P)⟩
theorem tV{X:Cx}{e:L7}{te:TEd}{pos:Pos}{o i:L7}{z B:TEd}{p:Pos}(Q:QEd X o z)(hi:QEd X i B)(he:QEd X e te)
  (ha:∀ v,al5 (.Subscript o i p) X.env v = (do
   let c <-ak2 [v] (Z1 o X.env)
   let m <-ak2 [v,c] (Z1 i X.env)
   ap7 p
   ak2 [v,c,m] (setItem c m v)
   release [v,c,m] []):=by intro _;rfl) (hs:swapsWithSole [.Subscript o i p] e pos.line X.env=ae6 false:=by rfl) (I:swappedStores [.Subscript o i p] e X.env=ae6 none:=by rfl)
  (T:(V9 [.Subscript o i p] X.env).map (·.2)=[al5 (.Subscript o i p) X.env]:=by rfl):QSd X (.Assign [.Subscript o i p] e pos) (CZ z B te):=by
 simp only[QEd.eq,QSd.eq]at *
 exact(vQ he (Al Q hi xa ha) hs I T).conv λD R H s=>s.el λf M E n N q k=>⟨f,M,_,n,N,q,λd M1 v H1 P h w S=>⟨f,M1,_,n.ext h,w,P,λo M2 c H2 L g t A=>⟨f,M2,_,(n.ext h).ext g,t,L,λi M3 m H3 ⟨a,ds,G,j,Z,Y,l,U,O⟩ u b x=>by
   subst Z;subst Y;simp only[Rep]at A x;subst A;subst x;obtain⟨vs,J,C⟩:=b a _ l;refine⟨a,vs,G,j,rfl,rfl,J,by rw[<-C.length];exact U,?_⟩;exact k.nx f _ R _ O (((h.trans g).trans u).trans (Ext.write l)) (b.write l (C.set j ((S.ext g).ext u))) ((((n.ext h).ext g).ext u).ext (Ext.write l))⟩⟩⟩
theorem nq{X:Cx}{e:L7}{te:TEd}{o:L7}{s:TEd}{t h:Pos}(U:QEd X o s)(he:QEd X e te)(z:W9 o "append" X.env (Z1 o X.env)=Z1 o X.env:=by rfl)
  (i:F0 [e] X.env=(false,Z1 e X.env)::F0 [] X.env:=by rfl)
  (w:((U4 h (F0 [e] X.env)).all (λx => !x.1) && (ag7 h (X6 [] X.env)).all (λx => x.1.isSome)
  &&decide ([e].length+([]:List af3).length+(if([]:List af3).isEmpty then 0 else 1)<30))=true:=by rfl)
  (Y:(t.endLine==h.line)=true:=by rfl) (S:(U4 h (F0 [] X.env)).any (·.1)=false:=by rfl):QEd X (.Call (.Attribute o "append" t) [e] [] h) (B7 s te):=by
 simp only[QEd.eq]at *
 exact(qR PySem.F.plainAttrs_list PySem.F.slot_list_append PySem.F.type_list_append (show MtR X "list.append" ue from vo) U (cu he fH i) z w Y i S).conv λZ H Q j=>j.el λm M R n L q k=>⟨m,M,_,n,L,q,λo M1 ov H1 ⟨a,l,J,G,O⟩ p f u=>by
   subst J;simp only[Rep]at u;subst u;obtain⟨T,C,rl⟩:=f a _ G;refine⟨.inl ⟨rfl,T,SqL.of C⟩,m,M1,_,n.ext p,f,O,λd M2 v H2 ⟨ds,b,P,E⟩ I g A=>?_⟩;obtain⟨N,B,c⟩:=g a _ b;refine⟨a,N,v,rfl,rfl,B,by rw[<-c.length];exact P,k _ _ _ _ E ((p.trans I).trans (Ext.write b)) (g.write b (c.append (ak.cons A ak.nil))) (by simp[Rep])⟩⟩
theorem hV{X:Cx}{a:L7}{o:TEd}{pos:Pos}{T:Str}{Tn:String}{p b:Pos}(C:okT Tn=true)(hg:Gl X "isinstance")(G:X.mg "isinstance"=none)(m:Gl X T)(n:X.mg T=none)(g:Z8 T=some (.type Tn))(ha:QEd X a o)(i:T≠"__name__":=by decide)(l:(T==("__debug__":Str))=false:=by decide)
  (hs:F0 [a,.Name T b] X.env=(false,Z1 a X.env)::F0 [.Name T b] X.env:=by rfl) (e:F0 [.Name T b] X.env=(false,Z1 (.Name T b) X.env)::F0 [] X.env:=by rfl) (hpl:(U4 pos (F0 [.Name T b] X.env)).any (·.1)=false:=by rfl) :
  QEd X (.Call (.Name "isinstance" p) [a,.Name T b] [] pos) (Dg Tn o):=by
 simp only[QEd.eq]at *
 have P:dg X (.builtin "isinstance") (λt H Q=>∃v d k M,t=[v,.ty Tn]/\aN X.K M H d v/\yR Tn d=some k/\Q (.bl k) H):=by
  intro U s N H t Z Q I f h;obtain⟨v,d,k,M,rfl,rd,j,q⟩:=h;obtain⟨S,Y,rfl,L,z⟩:=az.two f;cases z;exact vf C I L rd j q
 refine(qA P hg G (by kernel_rfl) (cu ha (cu (y0 (v:=.ty Tn) m n g rfl i l) fH e) hs) (by decide) (by decide) hs hpl).conv λN H Q E=>?_;obtain⟨u,M,R,O,x,q,k⟩:=E;exact⟨u,M,_,O,x,q,λd M1 v A ⟨w,j,B⟩ J c f=>⟨v,_,w,M1,rfl,f.rd c,j,k _ M1 _ A B J c (by simp[Rep])⟩⟩
theorem bO{X:Cx}:QOd X none oy:=by
 simp only[QEd.eq,QAd.eq,QTd.eq,QWd.eq,QSd.eq,QSs.eq,QId.eq,QIf.eq,QOd.eq]at *
 exact zr 
theorem bw{X:Cx}{e:L7}{te:TEd}(h:QEd X e te):QOd X (some e) (wI te):=by
 simp only[QEd.eq,QAd.eq,QTd.eq,QWd.eq,QSd.eq,QSs.eq,QId.eq,QIf.eq,QOd.eq]at *
 exact yN (h:=h)
theorem jI{X:Cx}{e:L7}{te:TEd}{o:L7}{L:TEd}{N l:Pos}(ho:QEd X o L)(he:QEd X e te)(Y:W9 o "join" X.env (Z1 o X.env)=Z1 o X.env:=by rfl)
  (n:F0 [e] X.env=(false,Z1 e X.env)::F0 [] X.env:=by rfl)
  (U:((U4 l (F0 [e] X.env)).all (λx => !x.1) && (ag7 l (X6 [] X.env)).all (λx => x.1.isSome)
  &&decide ([e].length+([]:List af3).length+(if([]:List af3).isEmpty then 0 else 1)<30))=true:=by rfl)
  (gF:(N.endLine==l.line)=true:=by rfl) (cG:(U4 l (F0 [] X.env)).any (·.1)=false:=by rfl):QEd X (.Call (.Attribute o "join" N) [e] [] l) (zQ L te):=by
 simp only[QEd.eq]at *
 have hm:MtR X "str.join" (λx E H Q=>∃b a m g f M,x=.str b/\E=[.ref a]/\H a=some (.lst m)/\ak X.K M H g m/\fb g=some f/\(f.map (·.length)).sum+f.length*b.length<=16777216/\Q (.str (Txt.join b f)) H):=by
  intro ae s S H x E v us Q I rx p h;obtain⟨b,a,m,g,f,M,rfl,rfl,hH,A,es,j,q⟩:=h;obtain⟨t,rfl⟩:=rx;obtain⟨u,rfl,ru⟩:=az.one p;cases ru;obtain⟨T,r,pl,_⟩:=I.list (SqL.of hH);exact join_list pl.isList (by simpa using l9 A r es) j λt' k=>⟨.str _,H,I.tok _,⟨t',rfl⟩,q⟩
 refine(qR ad4 PySem.F.slot_str_join PySem.F.type_str_join hm ho (cu he fH n) Y U gF n cG).conv λS H Q hh=>?_;obtain⟨C,M,R,G,hr,q,k⟩:=hh;refine⟨C,M,_,G,hr,q,λo M1 ov H1 ⟨b,eo,q1⟩ J w P=>?_⟩;subst eo;simp only[Rep]at P;subst P;refine⟨rfl,C,M1,_,G.ext J,w,q1,λd M2 v H2 ⟨z,c,Z⟩ e2 i p=>?_⟩;have O:=p.rd i;generalize rdM M2 d=d' at O c;cases d' with
 |lst g =>
  obtain⟨a,m,rfl,sq,A⟩:=O;simp only[j5]at c;cases B:fb g with
  |none=>rw[B]at c;cases c
  |some f =>
   rw[B]at c;dsimp only at c
   by_cases j:(f.map (·.length)).sum+f.length*b.length<=16777216
   ·rw[if_pos j]at c;cases c;exact⟨b,a,m,g,f,M2,rfl,rfl,sq,A,B,j,k _ M2 _ H2 Z (J.trans e2) i (by simp[Rep])⟩
   ·rw[if_neg j]at c;cases c
 |_=>cases c
theorem qc{X:Cx}{e:L7}{a:List L7}{t:TAd}{pos:Pos}{p:Pos}{x:Str}{k:Nat}{n:Nat}{S:SpD}(F:FnD X.prog X.w X.K X.mg X.base x k n S)(hr:cg k X.A)(hg:Gl X x)(ha:QAd X (e::a) t)(hdb:(x==("__debug__":Str))=false:=by decide)(he:F0 (e::a) X.env=(false,Z1 e X.env)::F0 a X.env:=by rfl)(hpl:(U4 pos (F0 a X.env)).any (·.1)=false:=by rfl):
  QEd X (.Call (.Name x p) (e::a) [] pos) (qr n S t):=by
 simp only[QEd.eq,QAd.eq,QTd.eq,QWd.eq,QSd.eq,QSs.eq,QId.eq,QIf.eq,QOd.eq]at *
 exact dc (F:=F) (hr:=hr) (hg:=hg) (ha:=ha) (hdb:=hdb) (he:=he) (hpl:=hpl)
theorem bG{X:Cx}{te:TEd}{tg:L7}{iter:L7}(h:QEd X iter te):QId X tg iter (zE te):=by
 simp only[QEd.eq,QId.eq]at *
 intro ae s σ H R I hh;obtain⟨Δ,M,R',sr,hr,q,k⟩:=hh;refine thn (h ae s σ H (λv j=>∃d L M1,iI d=some L/\(L.length<=F2->R' L M1)/\Ext M H M1 j/\HR X.K M1 j/\Rep X.K M1 j d v) I ⟨Δ,M,_,sr,hr,q,λd M1 v j ⟨L,n,N⟩ P g w=>⟨d,L,M1,n,N,P,g,w⟩⟩) λu B ⟨v,j,l,Z,d,L,M1,n,N,P,g,w⟩=>?_;have lo:=aN.len (K:=X.K) l w;cases d with
 |tup es =>
  cases n;simp only[Rep]at w;obtain⟨a,z,rfl,c,G⟩:=w;cases Z;obtain⟨J,T,p,O⟩:=l.tuple c.sq;refine wpAny_pyIter_tuple (show B.heap.IsTuple a J.toArray from p) ?_;refine⟨B.heap.objs.size,[B.heap.objs.size],_,_,j,rfl,l.kept (t':=B.toks) λb o e=>E2 _ e,sL a _,⟨_,F6 _ rfl,rfl,rfl⟩,sG (o:=default) l,?_⟩;refine k _ M1 _ j (N lo) P g λM2 H2 f m i=>⟨λd Y=>?_,λS=>⟨z,(c.ext f).sq,by rw[<-G.length];exact S⟩⟩;obtain⟨v,C,r⟩:=G.get Y;refine⟨⟨z,v,(c.ext f).sq,C⟩,λx H' ⟨U,y⟩=>?_⟩;subst U;have:=y z (c.ext f).sq;rw[C]at this;cases this;exact⟨Ext.refl _ _,m,r.ext f⟩
 |lst es =>
  cases n;simp only[Rep]at w;obtain⟨a,z,rfl,c,G⟩:=w;cases Z;obtain⟨J,T,p,O⟩:=l.list (SqL.of c.1);refine W0 p.isList ?_;refine⟨B.heap.objs.size,[B.heap.objs.size],_,_,j,rfl,l.kept (t':=B.toks) λb o e=>E2 _ e,m7 a _,⟨_,F6 _ rfl,rfl,rfl⟩,sG (o:=default) l,?_⟩;refine k _ M1 _ j (N lo) P g λM2 H2 f m i=>⟨λd Y=>?_,λS=>⟨z,SqL.of (c.ext f).1,by rw[<-G.length];exact S⟩⟩;obtain⟨v,C,r⟩:=G.get Y;refine⟨⟨z,v,SqL.of (c.ext f).1,C⟩,λx H' ⟨U,y⟩=>?_⟩;subst U;have:=y z (SqL.of (c.ext f).1);rw[C]at this;cases this;exact⟨Ext.refl _ _,m,r.ext f⟩
 |scr es =>
  cases n;simp only[Rep]at w;obtain⟨a,z,rfl,c,G⟩:=w;cases Z;obtain⟨J,T,p,O⟩:=l.list c.sq;refine W0 p.isList ?_;refine⟨B.heap.objs.size,[B.heap.objs.size],_,_,j,rfl,l.kept (t':=B.toks) λb o e=>E2 _ e,m7 a _,⟨_,F6 _ rfl,rfl,rfl⟩,sG (o:=default) l,?_⟩;refine k _ M1 _ j (N lo) P g λM2 H2 f m i=>⟨λd Y=>?_,λS=>⟨z,(c.ext f).sq,by rw[<-G.length];exact S⟩⟩;obtain⟨v,C,r⟩:=G.get Y;refine⟨⟨z,v,(c.ext f).sq,C⟩,λx H' ⟨U,y⟩=>?_⟩;subst U;have:=y z (c.ext f).sq;rw[C]at this;cases this;exact⟨Ext.refl _ _,m,r.ext f⟩
 |str x =>
  simp only[iI]at n
  by_cases O:x.length<=F2
  ·rw[if_pos O]at n;cases n;simp only[Rep]at w;subst w;obtain⟨t,rfl⟩:=Z;have hq:=k _ M1 _ j (N (by have a0:x.cps.size<=F2:=O;simpa[eK]using a0)) P g Ah;cases ha:x.cps.all (·<128)
   ·exact wpAny_pyIter_wide ha (uy l "str_iterator" (by decide) (λA hA=>Walks.strWide hA _ x t) (λA i s' Q E st q=>wpAny_pyIter_striter_wide st q) hq)
   ·exact wpAny_pyIter_ascii ha (uy l "str_ascii_iterator" (by decide) (λA hA=>Walks.strAscii hA _ x t) (λA i s' Q E st q=>wpAny_pyIter_striter_ascii st q) hq)
  ·rw[if_neg O]at n;cases n
 |_=>cases n
theorem ou{X:Cx}{e:L7}{te:TEd}{pos:Pos}(he:QEd X e te):QSd X (.Return (some e) pos) (zO te):=by
 simp only[QEd.eq,QSd.eq]at *
 exact(xb he).conv λD n H b=>b.el λf M E i l q k=>⟨f,M,_,i,l,q,λd M1 v m ⟨M2,a,g⟩ j c h =>
  k.rt _ _ _ m g (j.trans (Ext.le a)) (c.le a) (h.ext (Ext.le a))⟩
theorem bb{X:Cx}{e:L7}{te:TEd}{pos:Pos}{lo T:Option L7}{S P:TOd}{p2:Pos}(he:QEd X e te)(hl:QOd X lo S)(hu:QOd X T P):QEd X (.Subscript e (.Slice lo T none p2) pos) (C5 te S P):=by
 simp only[QEd.eq,QOd.eq]at *
 refine(xh (SlR.or xU (SlR.or AE (SlR.or A7 wL))) he hl hu).conv λσ H Q hh=>?_;obtain⟨t,M,R,L,hr,q,k⟩:=hh;refine⟨t,M,_,L,hr,q,λx M1 v H1 q1 N C Y=>⟨t,M1,_,L.ext N,C,q1,λl M2 H2 q2 I E=>⟨t,M2,_,(L.ext N).ext I,E,q2,λu g G ⟨z,f,q3⟩ O b=>?_⟩⟩⟩;have m:=((Y.ext I).ext O).rd b;have U:=(N.trans I).trans O;have n:∀w i,Ext g G g i->HR X.K g i->Rep X.K g i z w->Q w i:=λw i e4 A Z=>k z g w i q3 (U.trans e4) A Z;generalize rdM g x=d at m f;cases d with
 |lst h =>
  cases f;obtain⟨a,j,rfl,sq,c⟩:=m;refine .inl ⟨a,j,rfl,SqL.of sq,λp o=>mj b o ?_ n⟩;unfold dI oZ;rw[<-c.length];exact(c.drop _).take _
 |scr h =>
  cases f;obtain⟨a,j,rfl,sq,c⟩:=m;refine .inl ⟨a,j,rfl,sq,λp o=>mj b o ?_ n⟩;unfold dI oZ;rw[<-c.length];exact(c.drop _).take _
 |str s =>
  simp only[slE,slD]at f
  by_cases J:s.length<=F2
  ·rw[if_pos J]at f;cases f;exact .inr (.inr (.inl ⟨s,qy m,J,n _ G (Ext.refl _ _) b (by simp[Rep])⟩))
  ·rw[if_neg J]at f;cases f
 |tup h =>
  cases f;have rt:=aN.tup b m;obtain⟨a,j,rfl,sq,c⟩:=m
  by_cases B:HT.sIx h.length 0 l=0/\HT.sIx h.length h.length u=h.length
  ·refine .inr (.inr (.inr ⟨a,j,rfl,sq,by rw[<-c.length];exact B,n _ G (Ext.refl _ _) b ?_⟩));rw[rf B];exact rt
  ·refine .inr (.inl ⟨a,j,rfl,sq,by rw[<-c.length];exact B,λp o=>jo b o ?_ n⟩);unfold dI oZ;rw[<-c.length];exact(c.drop _).take _
 |_=>cases f
section
variable{X:Cx}{rest:List X5}{t:TSd}{e:L7}{z:TTd}
theorem yW(h:QSs X rest t):ym X rest t:=by
 rw[QSs.eq]at h;exact h
theorem ma(h:QWd X e z):QTd X e z:=by
 simp only[QWd.eq,QTd.eq]at *
 exact PWd.pt h
end
end L2
namespace L2
open PySem PySem.Spec PyProof.Rows PySem.Builtin.Str
section
variable{prog:K3}{w:P4}{A:L6}{E:s0->E3->Prop}{s:E3}
theorem sk{x y:Str}{t u:Tok}{Q:s0->E3->Prop}(c:(y.length==0)=false)
  (h:∀(l:List (Str×Tok)) k,l.map (·.1)=J1 x y->Q (.ref s.heap.objs.size) { s with heap:=s.heap.push { cls:=.type "list",data:=.seq (strValues l).toArray },toks:=k })
  (hsz:x.length+2<=F2):H0 (M8 prog w) A (aq8 (.builtin "str.split") [.str x t,.str y u]) Q E s:=by
 have e:(partsBetween x (occurrences x y 0 x.length (x.length+1)) y.length).length<=F2:=by
  have f:=StrLaws.occ_length_le x y 0 x.length (x.length+1);rw[length_partsBetween];lia
 cases a:(decide (x.length<y.length) || decide (strKind x<strKind y))
 ·cases b:(occurrences x y 0 x.length (x.length+1)).isEmpty
  ·refine af8 F.slot_str_split (aj9 _ _ _) F.entry_str_split (F.args_str_split_2 _ _) (meets_str_split_sep x y t u a c b (by lia) e) ?_;show wants Q E _ { s with toks:=_,heap:=s.heap.push { cls:=.type "list",data:=.seq (strsFrom s.toks (partsBetween x (occurrences x y 0 x.length (x.length+1)) y.length)).toArray } };rw[strsFrom_eq];exact h (numbered s.toks _) _ ((numbered_texts _ _).trans ((if_neg (ne_true_of_eq_false a)).trans (if_neg (ne_true_of_eq_false b))).symm)
  ·exact af8 F.slot_str_split (aj9 _ _ _) F.entry_str_split (F.args_str_split_2 _ _) (meets_str_split_not_found x y t u a c b)
    (h [(x,t)] s.toks ((if_neg (ne_true_of_eq_false a)).trans (if_pos b)).symm)
 ·exact af8 F.slot_str_split (aj9 _ _ _) F.entry_str_split (F.args_str_split_2 _ _) (meets_str_split_cannot_occur x y t u a)
   (h [(x,t)] s.toks (if_pos a).symm)
end
theorem m6:∀(l:List (Str×Tok)),az ((l.map (·.1)).map V.str) (strValues l)
 |[]=>.nil
 |(x,t)::l=>.cons ⟨t,rfl⟩ (m6 l)
theorem mq{K:u8}{M:DH}{H:Hp}:∀xs:List Str,ak K M H (xs.map D.str) (xs.map V.str)
 |[]=>ak.nil
 |x::xs=>ak.cons (by simp[Rep]) (mq xs)
section
variable{X:Cx}{e:L7}{te:TEd}{pos:Pos}
def v6(b te:TEd):TEd:=λa M Q=>b a M λo M1=>∃x,o=.str x/\te a M1 λd M2=>∃y,d=.str y/\(y.length==0)=false/\x.length+2<=F2/\Q (.lst ((J1 x y).map .str)) M2
theorem cM{o:L7}{L:TEd}{N a:Pos}(ho:QEd X o L)(he:QEd X e te)(T:W9 o "split" X.env (Z1 o X.env)=Z1 o X.env:=by rfl)
  (b:F0 [e] X.env=(false,Z1 e X.env)::F0 [] X.env:=by rfl)
  (S:((U4 a (F0 [e] X.env)).all (λx => !x.1) && (ag7 a (X6 [] X.env)).all (λx => x.1.isSome)
  &&decide ([e].length+([]:List af3).length+(if([]:List af3).isEmpty then 0 else 1)<30))=true:=by rfl)
  (gF:(N.endLine==a.line)=true:=by rfl) (cG:(U4 a (F0 [] X.env)).any (·.1)=false:=by rfl):QEd X (.Call (.Attribute o "split" N) [e] [] a) (v6 L te):=by
 rw[QEd.eq]at *
 have hm:MtR X "str.split" (λx E H Q=>∃z y,x=.str z/\E=[.str y]/\(y.length==0)=false/\z.length+2<=F2/\(J1 z y).length<=F2/\∀p,H p=none->Q (.ref p) (upd H p (.lst ((J1 z y).map V.str)))):=by
  intro ae s P H x E v us Q I rx c h;obtain⟨z,y,rfl,rfl,f,A,n,q⟩:=h;obtain⟨t,rfl⟩:=rx;obtain⟨u,rfl,ru⟩:=az.one c;obtain⟨t2,rfl⟩:=ru;refine sk f (λl k B=>?_) A;have rr:az ((J1 z y).map V.str) (strValues l):=by rw[<-B];exact m6 l
  exact⟨.ref s.heap.objs.size,_,I.lnew (t':=k) rr (by rw[E4];exact n),rfl,q _ I.fresh⟩
 refine(qR ad4 PySem.F.slot_str_split PySem.F.type_str_split hm ho (cu he fH b) T S gF b cG).conv λP H Q hh=>?_;obtain⟨C,M,R,G,hr,q,k⟩:=hh;refine⟨C,M,_,G,hr,q,λo M1 ov H1 ⟨z,eo,q1⟩ J i O=>?_⟩;subst eo;simp only[Rep]at O;subst O;refine⟨rfl,C,M1,_,G.ext J,i,q1,λd M2 v H2 ⟨y,ed,f,A,Y⟩ e2 j c=>?_⟩;subst ed;simp only[Rep]at c;subst c;have n:(J1 z y).length<=F2:=by
  have Z:1<=y.length:=by
   have:¬ y.length=0:=by simpa using f
   lia
  have:=split_weight z y Z
  lia
 exact⟨z,y,rfl,rfl,f,A,n,λp U=>mj j U (mq _) λw H' e3 m g=>k _ M2 w H' Y ((J.trans e2).trans e3) m g⟩
def Du(b te:TEd):TEd:=λa M Q=>b a M λo M1=>∃x,o=.str x/\te a M1 λd M2=>∃y,d=.str y/\Q (.int (ae8 x y)) M2
theorem n6{o:L7}{n:TEd}{p a:Pos}(Y:QEd X o n)(he:QEd X e te)(C:W9 o "count" X.env (Z1 o X.env)=Z1 o X.env:=by rfl)
  (b:F0 [e] X.env=(false,Z1 e X.env)::F0 [] X.env:=by rfl)
  (B:((U4 a (F0 [e] X.env)).all (λx => !x.1) && (ag7 a (X6 [] X.env)).all (λx => x.1.isSome)
  &&decide ([e].length+([]:List af3).length+(if([]:List af3).isEmpty then 0 else 1)<30))=true:=by rfl)
  (Z:(p.endLine==a.line)=true:=by rfl) (U:(U4 a (F0 [] X.env)).any (·.1)=false:=by rfl):QEd X (.Call (.Attribute o "count" p) [e] [] a) (Du n te):=by
 rw[QEd.eq]at *
 have T:MtR X "str.count" (λx j H Q=>∃z y,x=.str z/\j=[.str y]/\Q (.int (ae8 z y)) H):=by
  intro ae s A H x j v us Q I rx c h;obtain⟨z,y,rfl,rfl,q⟩:=h;obtain⟨t,rfl⟩:=rx;obtain⟨u,rfl,G⟩:=az.one c;obtain⟨t2,rfl⟩:=G;exact SC.count ⟨.int _,H,I.tok _,⟨_,rfl⟩,q⟩
 refine(qR ad4 PySem.F.slot_str_count PySem.F.type_str_count T Y (cu he fH b) C B Z b U).conv λA H Q P=>?_;obtain⟨i,M,R,l,N,q,k⟩:=P;refine⟨i,M,_,l,N,q,λo M1 ov H1 ⟨z,L,O⟩ m f w=>?_⟩;subst L;simp only[Rep]at w;subst w;refine⟨rfl,i,M1,_,l.ext m,f,O,λd M2 v H2 ⟨y,S,E⟩ J g c=>?_⟩;subst S;simp only[Rep]at c;subst c;exact⟨z,y,rfl,rfl,k _ M2 _ H2 E (m.trans J) g (by simp[Rep])⟩
end
theorem eN(c:Nat):∀(p q:Str) (r:List Str),(N5 ⟨#[c]⟩ (p::q::r)).cps.toList=p.cps.toList++c::(N5 ⟨#[c]⟩ (q::r)).cps.toList:=λp q r=>by
 show(p++⟨#[c]⟩++N5 ⟨#[c]⟩ (q::r)).cps.toList=_;show((p.cps++#[c])++(N5 ⟨#[c]⟩ (q::r)).cps).toList=_;simp
theorem cc{a b:Str}(h:a.cps.toList=b.cps.toList):a=b:=by
 cases a;cases b;simp at h;simp[h]
theorem ip{c:Nat}:∀{a b:List Nat}{x y:List Nat},c∉a->c∉b->a++c::x=b++c::y->a=b/\x=y
 |[],[],x,y,_,_,h=>by simpa using h
 |[],b::bs,x,y,_,e,h=>by
  simp at h;exact absurd (by simp[h.1]) e
 |a::i,[],x,y,f,_,h=>by
  simp at h;exact absurd (by simp[h.1]) f
 |a::i,b::bs,x,y,f,e,h=>by
  simp only[List.cons_append,N0]at h;simp only[F8,not_or]at f e;obtain⟨g,j⟩:=ip f.2 e.2 h.2;exact⟨by rw[h.1,g],j⟩
theorem qW{c:Nat}:∀{ps qs:List Str},ps≠[]->qs≠[]->(∀p∈ps,c∉p.cps.toList)->(∀q∈qs,c∉q.cps.toList)->N5 ⟨#[c]⟩ ps=N5 ⟨#[c]⟩ qs->ps=qs
 |[],_,h,_,_,_,_=>absurd rfl h
 |_,[],_,h,_,_,_=>absurd rfl h
 |[p],[q],_,_,_,_,h=>by
  have:p=q:=h;rw[this]
 |[p],q::i::r,_,_,e,b,h=>by
  have a:=congrArg (λz:Str=>z.cps.toList) h;simp only[eN]at a;have f:p.cps.toList=q.cps.toList++c::(N5 ⟨#[c]⟩ (i::r)).cps.toList:=a;exact absurd (by rw[f];simp) (e p (by simp))
 |p::g::r,[q],_,_,e,b,h=>by
  have a:=congrArg (λz:Str=>z.cps.toList) h;simp only[eN]at a;have f:p.cps.toList++c::(N5 ⟨#[c]⟩ (g::r)).cps.toList=q.cps.toList:=a;exact absurd (by rw[<-f];simp) (b q (by simp))
 |p::g::r,q::i::l,_,_,e,b,h=>by
  have a:=congrArg (λz:Str=>z.cps.toList) h;simp only[eN]at a;obtain⟨n,m⟩:=ip (e p (by simp)) (b q (by simp)) a;rw[cc n,qW (c:=c) (ps:=g::r) (qs:=i::l) (by simp) (by simp) (λx j=>e x (I0 _ j)) (λx j=>b x (I0 _ j)) (cc m)]
theorem fX(x:Str)(c:Nat):J1 x ⟨#[c]⟩≠[]:=by
 intro h;have:=split_len x c;rw[h]at this;have b:∀l:List Nat,0<=cnt c l:=λl=>by
  induction l with
  |nil=>exact Int.le_refl _
  |cons a l ih=>rw[cnt_cons];split<;>lia
 have:=b x.cps.toList;simp at *
 lia
theorem rb{c:Nat}{ps:List Str}(a:ps≠[])(b:∀p∈ps,c∉p.cps.toList):J1 (N5 ⟨#[c]⟩ ps) ⟨#[c]⟩=ps :=
 qW (fX _ _) a (StrLaws.split_free _ _) b (P2 _ _)
theorem rk(c:Nat)(n:Nat):Txt.mul (tx [c]) (n:Int)=tx (E5 n c):=by
 have f:∀(k:Nat) (a:Array Nat),(E5 k #[c]).foldl (·++·) a=a++(E5 k c).toArray:=by
  intro k
  induction k with
  |zero=>intro a;simp
  |succ k ih =>
   intro a;rw[R5,W5,ih,R5];apply Array.ext';simp
 unfold Txt.mul
 by_cases b:n=0
 ·subst b;rfl
 ·rw[if_neg (by lia)]
  by_cases e:n=1
  ·subst e;rfl
  ·rw[if_neg (by simp[aA];lia)];show(⟨(E5 (n:Int).toNat #[c]).foldl (·++·) #[]⟩:Str)=_;rw[f];simp[tx]
theorem nP(x:Str)(c:Nat):ae8 x ⟨#[c]⟩=cnt c x.cps.toList:=count_is x c
end L2
namespace L2
open PySem PySem.Spec PyProof.Rows
def Few(n:Int):Prop:=K6.Int.intBits n<=2 ^ 20
end L2
namespace Att
open PySem PySem.W PySem.Calls PyProof.Rows
end Att
namespace L2
open PySem PySem.Spec PyProof.Rows
section
variable{X:Cx}{pos:Pos}
def zU(i j:Int):Prop:=jM i j∨(Few i/\Few j)
theorem zU.ok{i j:Int}(h:zU i j):IntMulOk i j:=by
 rcases h with h|⟨a,b⟩
 ·exact h.ok
 ·exact .of_bits a b
def dmD:List D->Option D
 |[.int i,.int j]=>if n9 i j then some (.tup [.int (i / j),.int (i % j)])else none
 |_=>none
def DV:List D->Option D
 |[.int i,.int j]=>some (.int (if j > i then j else i))
 |_=>none
end
open AutoSeq1 (wpAny_loadPart')
section
variable{prog:K3}{w:P4}{A:L6}{E:s0->E3->Prop}{s:E3}
theorem ku{it t:E9}{i:Nat}{its}{x:s0}{Q:s0->E3->Prop}(a:s.heap.IsTupleIter it t i)(g:s.heap.IsTuple t its)(j:its[i]?=some x)
  (l:∀h',h'.IsTupleIter it t (i+1)->O6 it s.heap h'->Q x { s with heap:=h' }):H0 (M8 prog w) A (aa6 (.ref it)) Q E s:=by
 obtain⟨o,c,h,b⟩:=id a;obtain⟨n,f,_,m,e⟩:=g;unfold aa6;refine o0 (ac4 (name:=J5 "__next__") a.typeIs Z4 (ae9 Z4 a.typeIs F.entry_tuple_iterator_next ?_ (F.args_tuple_iterator_next_1 _)));show H0 _ _ (field (.ref it) 0 >>= _) _ _ s;refine o0 (ac3 c b (x:=.ref t) rfl ?_);show H0 _ _ (if(J4 t==K2)=true then _ else _) _ _ s;rw[if_neg (show ¬ ((J4 t==K2)=true)from R1)];show H0 _ _ (field (.ref it) 1 >>= _) _ _ s;refine o0 (ac3 c b (x:=.int i 0) rfl ?_);show H0 _ _ (aq4 (.ref t) >>= _) _ _ s;refine o0 (wpAny_seqItems f e ?_);simp only[ab6,j];refine o0 (am1 c b (by simp) (E1 ⟨x,rfl,E1 (l _ ?_ (U5 ..))⟩));exact⟨_,O7 _ c (Obj.isFreed_of_fields (aa1 b _)),(Obj.cls_mapFields ..).trans h,by rw[aa1 b];simp[an3]⟩
theorem k9{it t:E9}{i:Nat}{its}{Q:s0->E3->Prop}(j:A.handled=none)(b:s.heap.IsTupleIter it t i)(l:s.heap.IsTuple t its)(p:its[i]?=none)
  (n:∀h' e,K0.ExtBut it s.heap h'->(∃o,h'.get? e=some o/\o.cls=.type "StopIteration")->E (.ref e) { s with heap:=h' }):H0 (M8 prog w) A (aa6 (.ref it)) Q E s:=by
 obtain⟨o,g,z,c⟩:=id b;obtain⟨u,h,_,q,f⟩:=l;unfold aa6;refine o0 (ac4 (name:=J5 "__next__") b.typeIs Z4 (ae9 Z4 b.typeIs F.entry_tuple_iterator_next ?_ (F.args_tuple_iterator_next_1 _)));show H0 _ _ (field (.ref it) 0 >>= _) _ _ s;refine o0 (ac3 g c (x:=.ref t) rfl ?_);show H0 _ _ (if(J4 t==K2)=true then _ else _) _ _ s;rw[if_neg (show ¬ ((J4 t==K2)=true)from R1)];show H0 _ _ (field (.ref it) 1 >>= _) _ _ s;refine o0 (ac3 g c (x:=.int i 0) rfl ?_);show H0 _ _ (aq4 (.ref t) >>= _) _ _ s;refine o0 (wpAny_seqItems h f ?_);simp only[ab6,p];refine o0 (ak0 (o0 (am1 g c (by simp) ?_)));show H0 _ _ (newExc (.type "StopIteration") [] >>= _) _ _ _;refine o0 ?_;simp only[newExc,newTuple];refine o0 (U8 ?_ (by size_fits));refine o0 (m:=firstArgMember _ _) (am7 (a:=K2) (by first|rfl|(simp only[firstArgMember];rfl)) ?_);refine U8 ?_ (by size_fits);simp only[raiseNew];refine o0 (wpAny_handled ?_)
 first|rw[show A.in1.handled=none from j]|rw[j]
 refine o0 (E1 (wpAny_throw ?_));exact n _ _ (((U5 ..).extBut.push _).push _) ⟨_,F6 _ rfl,rfl⟩
theorem uC{prog:K3}{w:P4}{A:L6}(m:A.handled=none)(it l:E9)(f:l≠it)(a:Array s0):
  Draws prog w A it [it,l] a.size (λi v=>a[i]?=some v) (λi h=>h.IsTupleIter it l i/\h.IsTuple l a) where
 live:=λ_ _ st=>let⟨o,e,_⟩:=st.1;⟨o,e⟩
 frame:=λ_ _ _ st g=>⟨let⟨o,e,r⟩:=st.1;⟨o,g it (by simp) o e,r⟩,let⟨o,e,r⟩:=st.2;⟨o,g l (by simp) o e,r⟩⟩
 item:=λi s Q E j st q=>ku st.1 st.2 (x:=a[i]) (by simp[j]) λp b c=>q _ p s.toks (by simp[j]) ⟨b,st.2.extBut c.extBut f⟩ c
 done:=λs Q E st n=>k9 m st.1 st.2 (by simp) n
end
section
variable{X:Cx}{G:List (E9×Obj)}{σ:St}{H:Hp}{s:E3}{h':K0}
theorem Inv.turned2{t':Nat}{e it:E9}(I:Inv X G σ H s)(k:∀b o,b≠e->b≠it->s.heap.get? b=some o->h'.get? b=some o)(J:eQ X G H e)(E:eQ X G H it):Inv X G σ H { s with heap:=h',toks:=t' }:=by
 obtain⟨P,i,S,t,C,M⟩:=J;obtain⟨w,j,R,l,p,O⟩:=E;have f:∀b u,H b=some u->b≠e/\b≠it:=λb u q=>⟨λz=>(by rw[z,P]at q;cases q),λz=>(by rw[z,w]at q;cases q)⟩;have g:∀b o,b∉[e,it]->s.heap.get? b=some o->h'.get? b=some o:=λb o a q=>k b o (λz=>a (by simp[z])) (λz=>a (by simp[z])) q;refine I.step (g':=s.gens) (d':=s.drawn) (ch:=[e,it]) (λb x=>?_) (λb o _ _ a q _=>g b o a q) (λb o _ _ a q _=>⟨o.slots,g b o a q⟩) (λ_ _ _ _ n=>n)
  (λb o a q=>⟨o,g b o a q⟩) (λ_ _ q=>q) (λ_ _ _ q=>q) (λb Q q=>⟨#[],by rw[q];simp⟩) (λm L=>?_) (λb u q=>?_) I.bare
 ·rcases F8.mp x with z|z
  ·subst z;exact⟨t,i,C,M⟩
  ·have z:=F5.mp z;subst z;exact⟨l,j,p,O⟩
 ·obtain⟨o,A,B,N,r⟩:=L;exact⟨o,A,B,k _ o (T9 i) (T9 j) N,r⟩
 ·refine(I.hok b u q).stay (λc v a h=>?_) (λ_ q=>q) λ_ _ q=>q;rcases a with z|z
  ·rw[z]at h ⊢;exact k _ _ (f b u q).1 (f b u q).2 h
  ·exact k c v (f c _ z).1 (f c _ z).2 h
end
def n8(b:Bool)(K:u8)(H:Hp)(a:E9)(xs:List V):Prop:=match b with|true=>SqT K H a xs|false=>SqL K H a xs
def rB(b:Bool)(h:K0)(it a:E9)(i:Nat):Prop:=match b with|true=>h.IsTupleIter it a i|false=>h.IsListIter it a i
def Dx(b:Bool):String:=match b with|true=>"tuple_iterator" |false=>"list_iterator"
theorem rB.obj{b:Bool}{h:K0}{it a:E9}{i:Nat}(st:rB b h it a i):∃o,h.get? it=some o/\o.cls=.type (Dx b)/\o.data=.fields #[.ref a,.int i 0]:=by
 cases b<;>exact st
theorem rB.of{b:Bool}{h:K0}{it a:E9}{i:Nat}(st:∃o,h.get? it=some o/\o.cls=.type (Dx b)/\o.data=.fields #[.ref a,.int i 0]):rB b h it a i:=by
 cases b<;>exact st
theorem pN{X:Cx}{B:List (E9×Obj)}{σ:St}{H:Hp}{s:E3}{b:Bool}{a it:E9}{i:Nat}{xs:List V}(w:X.calm=true)(I:Inv X B σ H s)(u:n8 b X.K H a xs)(f:rB b s.heap it a i):
  ∃(e:List s0) (St:Nat->K0->Prop),az xs e/\Draws X.prog X.w X.A.in1 it [it,a] e.toArray.size (λi v=>e.toArray[i]?=some v) St/\St i s.heap/\(∀j h,St j h->rB b h it a j)/\∃o,s.heap.get? a=some o/\o.cls≠.type "enumerate":=by
 cases b with
 |true =>
  obtain⟨e,m,p,C⟩:=I.tuple u;have l:s.heap.IsTuple a e.toArray:=p;have g:a≠it:=λz=>by
   obtain⟨o,q,c,_⟩:=l;obtain⟨x,n,t,_⟩:=f;rw[z,n]at q;cases q;rw[t]at c;exact absurd c (by decide)
  obtain⟨o,q,c,_⟩:=id l;exact⟨e,_,m,uC (A:=X.A.in1) (I.ok.hd w) it a g e.toArray,⟨f,l⟩,λj h st=>st.1,o,q,by rw[c];decide⟩
 |false =>
  obtain⟨e,m,p,C⟩:=I.list u;have l:s.heap.IsList a e.toArray:=p.isList;have g:a≠it:=λz=>by
   obtain⟨o,q,c,_⟩:=l;obtain⟨x,n,t,_⟩:=f;rw[z,n]at q;cases q;rw[t]at c;exact absurd c (by decide)
  obtain⟨o,q,c,_⟩:=id l;exact⟨e,_,m,Draws.list (A:=X.A.in1) (I.ok.hd w) it a g e.toArray,⟨f,l⟩,λj h st=>st.1,o,q,by rw[c];decide⟩
theorem n8.inj{X:Cx}{c:List (E9×Obj)}{σ:St}{H:Hp}{s:E3}{b:Bool}{a:E9}{xs ys:List V}(I:Inv X c σ H s)(h:n8 b X.K H a xs)(h':n8 b X.K H a ys):xs=ys:=by
 cases b with
 |true=>exact I.tuple_inj h h'
 |false=>exact I.list_inj h h'
theorem eQ.upd{X:Cx}{a:List (E9×Obj)}{H:Hp}{b T:E9}{o:HO}(f:eQ X a H b)(h:b≠T):eQ X a (upd H T o) b:=by
 obtain⟨c,r⟩:=f;exact⟨by rw[aE h];exact c,r⟩
section
variable{X:Cx}{a:L7}{t:TAd}{pos:Pos}
def my(n:Nat):List D->List D
 |[]=>[]
 |d::r=>.tup [.int n,d]::my (n+1) r
theorem kP:∀(ds:List D) (n i:Nat),(my n ds)[i]?=(ds[i]?).map λd=>.tup [.int ((n+i:Nat):Int),d]
 |[],n,i=>by simp[my]
 |d::r,n,0=>by simp[my]
 |d::r,n,i+1=>by
  simp only[my,P9];rw[kP r (n+1) i];have:n+1+i=n+(i+1):=by lia
  rw[this]
theorem k6:∀(ds:List D) (n:Nat),(my n ds).length=ds.length
 |[],_=>rfl
 |d::r,n=>by simp[my,k6 r (n+1)]
def sqD(b:Bool)(a:List D):D:=match b with|true=>.tup a|false=>.lst a
theorem Bl{K:u8}{M:DH}{H:Hp}{b:Bool}{j:List D}{v:V}(h:Rep K M H (sqD b j) v):∃a c,v=.ref a/\ak K M H j c/\∀M2 g,Ext M H M2 g->n8 b K g a c:=by
 cases b with
 |true =>
  simp only[sqD,Rep]at h;obtain⟨a,c,e,f,i⟩:=h;exact⟨a,c,e,i,λM2 g x=>(f.ext x).sq⟩
 |false =>
  simp only[sqD,Rep]at h;obtain⟨a,c,e,f,i⟩:=h;exact⟨a,c,e,i,λM2 g x=>SqL.of (x _ _ f.1 f.2).1⟩
theorem kR:Z8 "enumerate"=some (.type "enumerate"):=by kernel_rfl
end
section
variable{X:Cx}{pos:Pos}
theorem AL{i j:Int}:dmD [.int i,.int j]=if n9 i j then some (.tup [.int (i / j),.int (i % j)])else none:=rfl
theorem xS{i j:Int}:DV [.int i,.int j]=some (.int (if j > i then j else i)):=rfl
theorem wA:pW 10 60=True:=by simp[pW]
end
section
variable{X:Cx}{e:L7}{te z:TEd}{pos:Pos}
end
section
variable{κ:Type} [DecidableEq κ]
def si(a:List (κ×D))(k:κ):Option D:=(a.find? λb=>decide (b.1=k)).map (·.2)
def Dl(a:List (κ×D))(k:κ)(v:D):List (κ×D) :=
 if(a.any λb=>decide (b.1=k))=true then a.map (λb=>if b.1=k then(b.1,v)else b)else a++[(k,v)]
theorem xE{p:κ×D}{r:List (κ×D)}{k:κ}(e:p.1=k):si (p::r) k=some p.2:=by simp[si,X7,e]
theorem v7{p:κ×D}{r:List (κ×D)}{k:κ}(e:¬ p.1=k):si (p::r) k=si r k:=by simp[si,X7,e]
variable{K:u8}{M:DH}{H:Hp}
theorem KR.val{a:List (κ×D)}{b:List (κ×V)}(h:KR K M H a b)(k:κ):(∀d,si a k=some d->∃v,pO b k=some v/\Rep K M H d v)/\(pO b k).isSome=(si a k).isSome:=by
 unfold KR at h
 induction h with
 |nil=>exact⟨λd e=>(nomatch e),rfl⟩
 |@cons p q c f r t ih =>
  by_cases e:p.1=k
  ·rw[xE e,pP (r.1.symm.trans e)];exact⟨λd z=>(by cases z;exact⟨_,rfl,r.2⟩),rfl⟩
  ·rw[v7 e,qv (λz=>e (r.1.trans z))];exact ih
theorem KR.any{a:List (κ×D)}{c:List (κ×V)}(h:KR K M H a c)(k:κ):(c.any λb=>decide (b.1=k))=a.any λb=>decide (b.1=k):=by
 unfold KR at h
 induction h with
 |nil=>rfl
 |cons r _ ih=>rw[ac5,ac5,ih,r.1]
theorem KR.length{a:List (κ×D)}{b:List (κ×V)}(h:KR K M H a b):a.length=b.length:=ac0.length h
theorem KR.put{a:List (κ×D)}{c:List (κ×V)}(h:KR K M H a c)(k:κ){d:D}{v:V}(r:Rep K M H d v):KR K M H (Dl a k d) (yZ c k v):=by
 unfold Dl yZ;rw[h.any k]
 by_cases e:(a.any λf=>decide (f.1=k))=true
 ·rw[if_pos e,if_pos e];clear e;unfold KR at h ⊢
  induction h with
  |nil=>exact .nil
  |@cons p q g i b t ih =>
   rw[K7,K7];refine .cons ?_ ih
   by_cases e:p.1=k
   ·rw[if_pos e,if_pos (b.1.symm.trans e)];exact⟨b.1,r⟩
   ·rw[if_neg e,if_neg (λz=>e (b.1.trans z))];exact b
 ·rw[if_neg e,if_neg e];exact ac0.snoc h ⟨rfl,r⟩
end
def kD:Key->D
 |.inl i=>.int i
 |.inr x=>.str x
section
variable{X:Cx}{a b c e o i:L7}{z:List L7}{te G I J O:TEd}{t:TAd}{pos:Pos}
end
section
variable{X:Cx}{a b c e o:L7}{z:List L7}{te G:TEd}{t:TAd}{pos:Pos}{I:L7}
def Eh:List D->Option D
 |[.int i,.int j]=>some (.int (if j<i then j else i))
 |_=>none
end
section
variable{X:Cx}{O G I:L7}{pos:Pos}{z:ae7}{Y:List (Str×E9)}{ms:List Bool}{ar:List Str}{J:List L7}
end
end L2
namespace L2
open PySem PySem.W PyProof.Rows
section
variable{G I:Type}
variable{O:KeyOrd}{z:Nat->O.α}{n:Nat}
def kp(O:KeyOrd)(z:Nat->O.α)(p:Array Nat)(i:Nat):O.α:=z (p.getD i 0)
end
end L2
namespace L2
open PySem PySem.W PySem.Calls PyProof.Rows
end L2
namespace L2
open PySem PySem.Spec PyProof.Rows
theorem B4{i:Int}{P:Key->Prop}:(∃k,D.int i=kD k/\P k)↔P (.inl i) :=
 ⟨λ⟨k,e,h⟩=>match k,e with|.inl _,rfl=>h,λh=>⟨_,rfl,h⟩⟩
theorem Di{x:Str}{P:Key->Prop}:(∃k,D.str x=kD k/\P k)↔P (.inr x) :=
 ⟨λ⟨k,e,h⟩=>match k,e with|.inr _,rfl=>h,λh=>⟨_,rfl,h⟩⟩
theorem zu{i j:Int}:Eh [.int i,.int j]=some (.int (if j<i then j else i)):=rfl
theorem vL{K:Params->u8}{E:List E9}{n t:Nat}{q:K3}{g:List Str}{Q:(Str->Option s0)->K0->Prop}{r:PySem.W.RowW}{d:DefRec}{x:List (Str×L7)}{run:s0->List s0->Sem s0}(Z:∀P,E=(K P).map (·.1))
  (h:PySem.W.WalkO q g Q (λw h=>(K w.params).In h) r d x run):PySem.W.WalkX q g Q (PySem.W.X.obsZ E) (PySem.W.X.valZ K n t) r d x run:=by
 intro w f j mg T G y a o pm S H U kV ho X M hD B hg A m C L i s J I O;refine h w f j mg T G (λb u Y=>L.keeps b u ?_) a o pm S H U kV ho X M hD B hg A m C i s J I O;have R:E.map f.heap.get?=(K w.params).map λp=>some p.2:=congrArg (·.1) y;rw[Z w.params,O9]at R;have N:∀(l:u8),(l.map λp=>f.heap.get? p.1)=l.map (λp=>some p.2)->ao4 b l=some u->f.heap.get? b=some u:=by
  intro l
  induction l with
  |nil=>intro _ z;cases z
  |cons p l ih =>
   intro e z;rw[K7,K7,N0]at e;rw[P1]at z
   by_cases c:b=p.1
   ·subst c;rw[beq_self_eq_true]at z;cases z;exact e.1
   ·rw[beq_eq_false_iff_ne.mpr c]at z;exact ih e.2 z
 exact N _ R Y
end L2
namespace L2
open PySem PySem.W PySem.Calls PyProof.Rows
end L2
namespace L2
open PySem PySem.Spec PyProof.Rows
section
variable{X:Cx}
end
section
variable{X:Cx}
def inF(x y:D):Option D:=match y with
 |.lst a=>if dLe x 59=true/\bI a 59=true then some (.bl (a.any λd=>eqD d x))else none
 |_=>none
theorem DN{x:D}{ds:List D}:inF x (.lst ds)=if dLe x 59=true/\bI ds 59=true then some (.bl (ds.any λd=>eqD d x))else none:=rfl
open Classical in
theorem Cq(U:X.A.units+64<ai7):b7 X (Q6 .In) inF:=by
 intro S s R H M x y v u dx dy dz Q I hr rx ry r1 r2 e k;cases dy with
 |lst b =>
  simp only[inF]at e
  by_cases f:dLe dx 59=true/\bI b 59=true
  ·rw[if_pos f]at e;cases e;obtain⟨l,vs,rfl,sq,g⟩:=r2;cases ry;obtain⟨a,r,P,Z⟩:=I.list (SqL.of sq);have Y:b.length=a.length:=g.length.trans r.length;have at_:∀j (h:j<b.length) (c:j<a.length),PySem.SeqAt.EqAt X.A.in1 s a[j] v (eqD b[j] dx):=λj h c=>by
    obtain⟨v1,B,C⟩:=g.get (i:=j) (d:=b[j]) (by simp[h]);obtain⟨G,o,N⟩:=r.get B;have L:a[j]=G:=by simpa[E6 c]using o
    rw[L];exact(pb I 59 (by show X.A.units+1+59<ai7;omega) (gG f.2 (i:=j) (by simp[h])) f.1 C.r r1 N rx).1
   refine SeqAt.in_listAt (λw=>decide (∃j,∃h:j<b.length,∃c:j<a.length,a[j]=w/\eqD b[j] dx=true)) P.isList (λw n=>?_) ⟨.bl _,H,I,rfl,?_⟩
   ·obtain⟨i,m,rfl⟩:=ab1.mp (show w∈a by simpa using n)
    by_cases q:∃j,∃h:j<b.length,∃c:j<a.length,a[j]=a[i]/\eqD b[j] dx=true
    ·rw[decide_eq_true q];obtain⟨j,h,c,E,p⟩:=q;rw[<-E,<-p];exact at_ j h c
    ·rw[decide_eq_false q];have:=at_ i (by omega) m
     rwa [show eqD b[i] dx=false from Bool.eq_false_iff.mpr λz=>q ⟨i,by omega,m,rfl,z⟩]at this
   ·have O:a.toArray.any (λw=>decide (∃j,∃h:j<b.length,∃c:j<a.length,a[j]=w/\eqD b[j] dx=true))=b.any λd=>eqD d dx:=by
     rw[R6,List.any_toArray,af0,af0];constructor
     ·rintro⟨w,_,h⟩;obtain⟨j,T,_,_,t⟩:=of_decide_eq_true h;exact⟨b[j],Q0 _,t⟩
     ·rintro⟨d,J,h⟩;obtain⟨j,A,rfl⟩:=ab1.mp J;exact⟨a[j],Q0 _,decide_eq_true ⟨j,A,by omega,rfl,h⟩⟩
    rw[O];exact k _ H (Ext.refl _ _) hr (by simp[Rep])
  ·rw[if_neg f]at e;cases e
 |_=>cases e
end
section
variable{X:Cx}{a b e:L7}{z G te:TEd}{pos:Pos}
section
open PySem.SeqAt PySem.MeetsSeq AutoSeq1
end
end
section
variable{X:Cx}{z:ae7}{G:List (Str×E9)}{ar:List Str}{I:L7}{pos:Pos}
end
section
variable{X:Cx}{e:L7}{te:TEd}
def DU(a:List (Key×D)):D:=.box (.dk (a.map (·.1))) (a.map (·.2))
end
section
variable{X:Cx}{a b c e o i:L7}{G:List L7}{te I J O Y:TEd}{t:TAd}{pos:Pos}{tg z:L7}
end
def CA:D->Option D
 |.box (.dk a) _=>some (.lst (a.map kD))
 |_=>none
theorem yA{a:List (Key×D)}:CA (DU a)=some (.lst (a.map λp=>kD p.1)):=by
 show some (D.lst ((a.map (·.1)).map kD))=_;rw[O9];rfl
def DL(s:X5)(i:Nat):X5:=match s with
 |.ClassDef _ _ _ b _ _ _ _ _ _ _=>b.getD i (.Pass ⟨0,0,0,0⟩)
 |_=>.Pass ⟨0,0,0,0⟩
def El:D->Option D
 |.int i=>some (.int i)
 |.bl k=>some (.int (if k then 1 else 0))
 |_=>none
theorem AX{k:Bool}:El (.bl k)=some (.int (if k then 1 else 0)):=rfl
section
variable{X:Cx}
theorem rA{h:K0}{a:E9}{xs:Array s0}(p:an4 h a xs):h.IsTuple a xs:=by
 obtain⟨o,c,e,n,b⟩:=p;exact⟨o,c,e,n,b⟩
end
section
variable{X:Cx}{e:L7}{t:TEd}
theorem SR.lend{K:u8}{M:DH}{H:Hp}{σ:St}{b:DE}(f:SR K M H σ b)(hr:HR K M H):SR K noM H σ (b.map (Option.map (rdM M))):=by
 refine⟨by rw[E4];exact f.1,λi d a=>?_⟩;rw[K8]at a;cases e:b[i]? with
 |none=>rw[e]at a;cases a
 |some o =>
  rw[e]at a;cases o with
  |none=>cases a
  |some c =>
   have j:rdM M c=d:=by simpa using a
   subst j;obtain⟨v,l,g⟩:=f.2 i c e;refine⟨v,l,?_⟩;have:=pM hr LeM.no (pZ (ds:=[c])) (ak.cons g ak.nil);simp only[K7,al8,ak]at this;obtain⟨w,m,q,h,_⟩:=this;cases q;exact h
end
section
variable{P:K3}{w:P4}{K:u8}{h base:K0}{J:Str->Option s0}{x z:Str}{st:X5}{f:E9}{I:J7}{k:Nat}{S:SpD}
structure bo(K:u8) (x:Str) (st:X5) (f:E9) (I:J7):Prop where
 a:M0 K K1 x=some (some (.ref f))
 F:Fun K x x st f I
theorem Ds{m:s0}{j h:Option E9}{g:Array (Option s0)}{kV e i b ct:s0}(a:M0 K K1 x=some (some (.ref f)))(l:K.lookup f=some ⟨m,j,.func (Z9 x x (dS st) (cf st) (ah st) .none kV e i h b ct),g⟩)
  (c:ad2 K b x=true) (k:U9 K (.ref f)=true):bo K x st f (Z9 x x (dS st) (cf st) (ah st) .none kV e i h b ct):=⟨a,qZ l c k⟩
theorem usS{p:List s0->Prop}{n:Nat}(h:∀a b,b.length=n->p (a::b)):∀b:List s0,b.length=n+1->p b:=by
 intro b e;cases b with
 |nil=>cases e
 |cons a b=>exact h a b (Nat.succ.inj e)
theorem us0{p:List s0->Prop}(h:p []):∀b:List s0,b.length=0->p b:=by
 intro b e;cases b with
 |nil=>exact h
 |cons a b=>cases e
def Bd(x z:Str)(st:X5)(ps:List Str)(c:List s0):Prop:=∀(kV b g:s0) (f:Option E9) (a e:s0),bindArgs (Z9 x z (dS st) (cf st) (ah st) .none kV b g f a e) ⟨c,[]⟩=ae6 (ps.zip c)
theorem zX{ps:List Str}(F:Fun K x z st f I)(b:∀a:List s0,a.length=ps.length->Bd x z st ps a):cY K I ps []:=F.binds λkV e j i c g a h=>b a h kV e j i c g
variable{O Y p3 p4 p5:Str}
theorem bd1(F:Fun K x z st f I)(b:∀a,Bd x z st [O] [a]):cY K I [O] []:=zX F (usS λa=>us0 (b a))
theorem bd2(F:Fun K x z st f I)(b:∀a c,Bd x z st [O,Y] [a,c]):cY K I [O,Y] []:=zX F (usS λa=>usS λc=>us0 (b a c))
theorem fg{ps:List Str}{n:Nat}(X:K.In h)(G:h.Ns K1 J)(i:bo K x st f I)(o:aO P w K J base CX0 k f I ps (spD K n S))(b:cY K I ps []):FnD P w K J base x k n S:=⟨_,_,_,o,P3 X G i.a,i.F.kp,b⟩
theorem Ay{m:E9}{sp:Sp}{l:K3}(X:K.In h)(G:h.Ns K1 J)(g:J "law"=some (.ref m))(i:bo K "law" st f I)(b:∀a,Bd "law" "law" st [O] [a])(o:∀base:K0,aO l w K J base CX0 k f I [O] sp):
  ∃I:J7,(∀(s:E3) (v:s0),ap1 s I ⟨[v],[]⟩ [(O,v)])/\∀base:K0,K.In base->base.Ns K1 J->aO l w K J base CX0 k m I [O] sp:=by
 have e:=g.symm.trans (P3 X G i.a);cases e;refine⟨I,λs v=>?_,λbase _ _=>o base⟩;obtain⟨x,z,kV,j,u,p,c,q,n,rfl,A,t⟩:=i.F.ex;exact .of_eq (b v kV j u p c q)
end
theorem nbh{a:CmpOp}{b:L7}(h:a≠.In:=by decide)(c:a≠.NotIn:=by decide):ae1 a b=false:=vE b h c
theorem fsc{N P:List Str}{h:ae7}(a:h.kind=.function:=by exact rfl)(b:h.isCoroutine=false:=by exact rfl)(c:h.isGenerator=false:=by exact rfl)(d:N.Nodup:=by decide +kernel)(e:N.take P.length=P:=by exact rfl)
  (f:∀x∈P,h.names.lookup x=some .local∨h.names.lookup x=some .cell:=by decide +kernel) (g:∀y∈h.names,y.2≠.free:=by decide +kernel):au N P h:=⟨a,b,c,d,e,f,g⟩
section
variable{X:Cx}{e:L7}{z:List L7}{t:TAd}{pos p:Pos}{x:Str}{j k n:Nat}{S:SpD}
theorem qd(F:FnD X.prog X.w X.K X.mg X.base x j n S)(hr:cg k X.A)(ha:QAd X (e::z) t)(h:j<=k:=by decide)(hg:Gl X x:=by exact rfl)(hdb:(x==("__debug__":Str))=false:=by decide)(he:F0 (e::z) X.env=(false,Z1 e X.env)::F0 z X.env:=by rfl)(hpl:(U4 pos (F0 z X.env)).any (·.1)=false:=by rfl):
  QEd X (.Call (.Name x p) (e::z) [] pos) (qr n S t):=qc F (hr.mono h) hg ha hdb he hpl
end
def txt:s0->Str|.str x _=>x|_=>default
theorem vG(t:N3)(n:Nat):(t.orStandIn n).led=t.led:=by unfold N3.orStandIn;split<;>rfl
theorem sF(t:N3)(a:Array (Int×s0))(h:Int)(x:s0):(layNew t a h x).2.1.led=t.led:=by
 unfold layNew
 split
 ·exact vG _ _
 ·rfl
theorem kI{t t':N3}{hs:Array Int}{n:Nat}{o:Array Nat}(e:t.relaid hs n=some (t',o)):t'.led=t.led/\t'.plain=t.plain:=by
 unfold N3.relaid N3.laid at e;cases q:N3.layClean (N3.sizeAbove n-1) hs with
 |none=>rw[q]at e;cases e
 |some w=>rw[q]at e;cases e;exact⟨rfl,rfl⟩
theorem nY(t:N3)(a:Array (Int×s0))(n:Nat):(am8 t a n).2.1.led=t.led:=by
 unfold am8
 split
 ·rename_i e;dsimp only;split
  ·exact(kI e).1
  ·rfl
 ·rfl
theorem lN(t:N3)(a:Array (Int×s0))(n:Nat)(z:t.plain=false):(am8 t a n).2.1.plain=false:=by
 unfold am8
 split
 ·rename_i e;dsimp only;split
  ·rw[(kI e).2];exact z
  ·rfl
 ·rfl
section
variable{prog:K3}{w:P4}{A:L6}{E:s0->E3->Prop}{s:E3}
def byT(w:P4):Bool:=w.params.followText "set-order"
def ElT(prog:K3)(w:P4)(l:List (Int×s0)):Prop:=∀e∈l,∃x t,e=((strKind prog w).hash x,.str x t)
theorem ElT.of{l:List (Int×s0)}(h:ElT prog w l):ElemsOf (strKind prog w) l:=λe a=>by
 obtain⟨x,t,rfl⟩:=h e a;exact⟨⟨x,ap4 _ _ _ _,rfl⟩,rfl⟩
structure rD(prog:K3) (w:P4) (h:K0) (a:E9) (o:Obj) (es:Array (Int×s0)) (ep:Nat) (t:N3):Prop where
 get:h.get? a=some o
 ex:o.ExactSet
 data:o.data=.set es ep t
 el:ElT prog w es.toList
 nd:(es.toList.map λe=>txt e.2).Nodup
 room:es.size<ad8
 fit:t.fits es.size=true
 led:t.led=!byT w
 pl:es.size≠0->t.plain=false
def fT(prog:K3)(w:P4)(h:K0)(a:E9)(xs:List Str):Prop:=∃o b c t,rD prog w h a o b c t/\(b.toList.map λe=>txt e.2).Perm xs
theorem fT.mono{h h':K0}{a:E9}{xs:List Str}(z:fT prog w h a xs)(k:∀o,h.get? a=some o->h'.get? a=some o):fT prog w h' a xs:=by
 obtain⟨o,c,b,t,p,q⟩:=z;exact⟨o,c,b,t,⟨k _ p.get,p.ex,p.data,p.el,p.nd,p.room,p.fit,p.led,p.pl⟩,q⟩
theorem fT.perm{h:K0}{a:E9}{xs ys:List Str}(z:fT prog w h a xs)(k:xs.Perm ys):fT prog w h a ys:=by
 obtain⟨o,c,b,t,p,q⟩:=z;exact⟨o,c,b,t,p,q.trans k⟩
theorem Bf{x:Str}{v:s0}(h:(strKind prog w).is x v=true):∃t,v=.str x t:=by
 cases v<;>simp[PySem.strKind,s0.isStrOf]at h
 rename_i y t;exact⟨t,by rw[h]⟩
theorem rD.mem{h:K0}{a:E9}{o:Obj}{c:Array (Int×s0)}{f:Nat}{t:N3}(p:rD prog w h a o c f t)(x:Str):
  (∃e∈c.toList,(strKind prog w).is x e.2=true)↔x∈c.toList.map λe=>txt e.2:=by
 constructor
 ·rintro⟨e,b,q⟩;obtain⟨t,z⟩:=Bf q;exact J3.mpr ⟨e,b,by rw[z];rfl⟩
 ·intro q;obtain⟨e,b,z⟩:=J3.mp q;obtain⟨y,t,rfl⟩:=p.el e b;have:y=x:=z;subst this;exact⟨_,b,ap4 _ _ _ _⟩
theorem nQ{h:K0}{a:E9}{o:Obj}{f:Array (Int×s0)}{c:Nat}{t:N3}(g:h.get? a=some o)(e:o.data=.set f c t)(b:Array (Int×s0))(t':N3):
  (h.update a (af9 b t')).get? a=some { o with data:=.set b (c+1) t' }:=by
 have:=O7 (af9 b t') g (by rw[aq5 b t' e];rfl);rw[aq5 b t' e]at this;exact this
theorem md{l a:List (Int×s0)}(h:l.Perm a):(l.map λe=>txt e.2).Perm (a.map λe=>txt e.2):=h.map _
theorem rD.laid{h h':K0}{a:E9}{o:Obj}{i b:Array (Int×s0)}{m c:Nat}{t t':N3}(p:rD prog w h a o i m t)
  (g:h'.get? a=some { o with data:=.set b c t' }) (q:b.toList.Perm i.toList) (f:t'.fits b.size=true) (l:t'.led=t.led) (z:b.size≠0->t'.plain=false):rD prog w h' a { o with data:=.set b c t' } b c t':=by
 have sz:b.size=i.size:=by rw[<-K4,q.length_eq,K4]
 exact⟨g,p.ex,rfl,λe j=>p.el e (q.mem_iff.mp j),((md q).nodup_iff).mpr p.nd,by rw[sz];exact p.room,f,l.trans p.led,z⟩
theorem zH{g:Bool->Sem Unit}(hg:∀(b:Bool) (i:E3) (O:Unit->E3->Prop),O () i->H0 (M8 prog w) A (g b) O E i)
  {a:E9} {o:Obj} {P:Array (Int×s0)} {H:Nat} {t:N3} (L:s.heap.get? a=some o) (hex:o.ExactSet) (M:o.data=.set P H t)
  {c:Array (Int×s0)} {t2:N3} (el:ElT prog w c.toList) (Q:(c.toList.map λe=>txt e.2).Nodup) (m:c.size<ad8) (B:t2.fits c.size=true) (ld:t2.led=!byT w) (pl:t2.plain=false)
  {f:Bool} {R:Option Bool->E3->Prop}
  (h:∀h',O6 a s.heap h'->fT prog w h' a (c.toList.map λe=>txt e.2)->R (some true) { s with heap:=h' }) :
  H0 (M8 prog w) A (do
    storeSet a c t2
    if(!f&&t2.tooFull)=true then do
      g (am8 t2 c (aa7 c.size)).2.2
      storeSet a (am8 t2 c (aa7 c.size)).1 (am8 t2 c (aa7 c.size)).2.1
      ae6 (some true)
     else ae6 (some true)) R E s:=by
 refine o0 (ah9 L M ?_ (ai0 m));have l:=nQ L M c t2;have u:rD prog w (s.heap.update a (af9 c t2)) a { o with data:=.set c (H+1) t2 } c (H+1) t2:=⟨l,hex,rfl,el,Q,m,B,ld,λ_=>pl⟩;have j:=U5 s.heap a (af9 c t2)
 split
 ·have x:=relayAll_perm t2 c (aa7 c.size);have p:=relayAll_fits t2 c (aa7 c.size);have z:=nY t2 c (aa7 c.size);have n:=lN t2 c (aa7 c.size) pl;generalize S:am8 t2 c (aa7 c.size)=U at x p z n ⊢;obtain⟨q,T,C⟩:=U;dsimp only at x p z n ⊢;have J:q.size=c.size:=by rw[<-K4,x.length_eq,K4]
  have I:q.size<ad8:=by rw[J];exact m
  refine o0 (hg _ _ _ ?_);refine o0 (ah9 l rfl ?_ (ai0 I));have G:=nQ (h:=s.heap.update a (af9 c t2)) l rfl q T;exact E1 (h _ (j.trans (U5 _ a _)) ⟨_,_,_,_,u.laid G x p z (λ_=>n),md x⟩)
 ·exact E1 (h _ j ⟨_,_,_,_,u,.refl _⟩)
theorem DT{a:E9}{xs:List Str}{x:Str}{J:Tok}{Q:Bool->E3->Prop}(hS:fT prog w s.heap a xs)(M:xs.length+1<ad8)
  (h:∀b h',O6 a s.heap h'->fT prog w h' a (if x∈xs then xs else xs++[x])->Q b { s with heap:=h' }) :
  H0 (M8 prog w) A (an5 a (.str x J) ((strKind prog w).hash x)) Q E s:=by
 obtain⟨o,l,ep,t,p,P⟩:=hS;have O:=ap4 prog w x J;have R:=p.el.of;have hn:l.size=xs.length:=by rw[<-K4,<-P.length_eq,E4]
 have X:l.size+1<ad8:=by rw[hn];exact M
 unfold an5 setAddHashedIn;refine O5 (o0 (ab8 p.get p.data p.fit ?_));dsimp only;rw[byScan_of rfl p.room R];simp only[↓reduceIte];unfold setAddByScan;refine o0 ?_;refine o0 (ak0 ?_);refine o0 (wpAny_setScan_of O p.get p.data p.fit R ?_);cases hr:List.findIdx? (λe=>(strKind prog w).is x e.2) l.toList with
 |some j =>
  dsimp only;obtain⟨hj,Z,_⟩:=List.findIdx?_eq_some_iff_getElem.mp hr;have U:x∈xs:=P.mem_iff.mp ((p.mem x).mp ⟨l.toList[j],Q0 hj,Z⟩);refine E1 (E1 ?_);have e:s={ s with heap:=s.heap }:=by cases s;rfl
  rw[e];exact h _ s.heap (O6.refl a s.heap) (by rw[if_pos U];exact⟨o,l,ep,t,p,P⟩)
 |none =>
  dsimp only;have U:x∉l.toList.map λe=>txt e.2:=λq=>by
   obtain⟨e,H,z⟩:=(p.mem x).mpr q;have:=List.findIdx?_eq_none_iff.mp hr e H;rw[z]at this;exact Bool.noConfusion this
  have a0:x∉xs:=λq=>U (P.mem_iff.mpr q);have Y:∀(b:Bool) {g:E3} {S:Unit->E3->Prop},S () g->H0 (M8 prog w) A (match b with|true=>rule "set.scan.the-table-gave-way" |false=>ae6 ()) S E g :=
   λb g S C=>by cases b<;>first|exact E1 C|exact ak0 C
  have c:=layNew_perm t l ((strKind prog w).hash x) (.str x J);have f:=layNew_fits t l ((strKind prog w).hash x) (.str x J);have i:=sF t l ((strKind prog w).hash x) (.str x J);generalize hL:layNew t l ((strKind prog w).hash x) (.str x J)=L at c f i ⊢;obtain⟨n,t1,N,a1⟩:=L;dsimp only at c f i ⊢;rw[Array.toList_push]at c;have G:ElT prog w n.toList:=λe H=>by
   rcases P7.mp (c.mem_iff.mp H)with H|H
   ·exact p.el e H
   ·rw[F5]at H;exact⟨x,J,H⟩
  have hm:(n.toList.map λe=>txt e.2).Perm ((l.toList.map λe=>txt e.2)++[x]):=by
   have:=md c
   rwa [N4]at this
  have T:(n.toList.map λe=>txt e.2).Nodup:=by
   rw[hm.nodup_iff,X4];exact⟨p.nd,by simp,λa ha b hb=>by rw[F5]at hb;subst hb;intro q;subst q;exact U ha⟩
  have B:n.size<ad8:=by rw[<-K4,c.length_eq,E8,K4];simpa using X
  refine o0 (Y _ ?_);have I:∀h',O6 a s.heap h'->fT prog w h' a (n.toList.map λe=>txt e.2)->Q true { s with heap:=h' }:=λh' m u =>
   h _ h' m (by rw[if_neg a0];exact u.perm (hm.trans (P.append_right _)))
  split
  ·refine o0 ?_;rw[hashByValue_scannable 8 rfl];refine E1 ?_;refine zH (t2:={ t1 with plain:=false }) ?_ p.get p.ex p.data G T B (N3.fits_plain_off f) (i.trans p.led) rfl ?_
   ·intro b g S C;cases b<;>first|exact E1 C|exact ak0 C
   ·intro h' m u;dsimp only;exact E1 (I h' m u)
  ·rename_i hp;refine o0 (E1 ?_);simp only[↓reduceIte];refine zH ?_ p.get p.ex p.data G T B f (i.trans p.led) (by simpa using hp) ?_
   ·intro b g S C;cases b<;>first|exact E1 C|exact ak0 C
   ·intro h' m u;dsimp only;exact E1 (I h' m u)
end
def fM(xs:List Str)(x:Str):List Str:=if x∈xs then xs else xs++[x]
def fB(xs:List Str):List Str:=xs.foldl fM []
theorem u5(xs:List Str)(x:Str):(fM xs x).length<=xs.length+1:=by unfold fM;split<;>simp
theorem jL:∀(xs a:List Str),(xs.foldl fM a).length<=a.length+xs.length
 |[],_=>F3 _
 |x::xs,a=>by
  have:=jL xs (fM a x);have:=u5 a x;simp only[W5,F4];lia
theorem xw(xs:List Str):(fB xs).length<=xs.length:=by have:=jL xs [];simpa[fB]using this
theorem uE(xs:List Str)(i:Nat)(h:i<xs.length):fB (xs.take (i+1))=fM (fB (xs.take i)) xs[i]:=by
 rw[List.take_succ_eq_append_getElem h,fB,List.foldl_append];rfl
section
variable{prog:K3}{w:P4}{A:L6}{R:ar0->E3->Prop}{I:E9}{J z:List E9}{G:Array aj5->Array aj5->Prop}{P:Nat->s0->Prop}{St:Nat->E3->Prop}
theorem DX{xs:List Str}(W:WalksS prog w A.in1 I J z G xs.length P St)(S:E9)(n:S∉J)
  (l:∀i v (h:i<xs.length),P i v->∃t,v=.str xs[i] t) (j:xs.length+1<ad8) :
  ∀(k i:Nat) (s:E3),xs.length-i=k->i<=xs.length->St i s->fT prog w s.heap S (fB (xs.take i)) ->
   (∀s',Moved (S::z) G s s'->fT prog w s'.heap S (fB xs)->R (.ok (.ret .none)) s') ->
   am0 (M8 prog w) A (.builtin "set.update.loop" ⟨[.ref S,.ref I],[]⟩) R s:=by
 have p:S∉z:=λh=>n (W.sub _ h);have c:∀b∈z,b∈S::z:=λb j=>I0 _ j;intro k
 induction k with
 |zero =>
  intro i s T Y f C E;have H:i=xs.length:=by lia
  subst H;refine W6 ac7 ?_;rw[ab3 V3 _];show H0 _ A.in1 (ap8 (.ref I) >>= _) _ _ s;refine o0 (W.done s _ _ f λs' m=>?_);show H0 _ A.in1 (ret K2) _ _ s';rw[aj3]at C;exact E1 (E s' (m.mono c) (C.mono λo e=>m.heap S _ p e))
 |succ k ih =>
  intro i s T Y f C E;have a:i<xs.length:=by lia
  refine W6 ac7 ?_;rw[ab3 V3 _];show H0 _ A.in1 (ap8 (.ref I) >>= _) _ _ s;refine o0 (W.item i s _ _ a f λv s' U q m=>?_);obtain⟨t,rfl⟩:=l i v a U;have O:fT prog w s'.heap S (fB (xs.take i)):=C.mono λo e=>m.heap S _ p e;show H0 _ A.in1 (ak2 [am4 xs[i] t] (setAdd S (.str xs[i] t)) >>= _) _ _ s';refine o0 (O5 ?_);unfold setAdd;refine O5 ?_;refine o0 ((strKind prog w).pyHash (k:=xs[i]) (ap4 _ _ _ _) ?_);have g:(fB (xs.take i)).length+1<ad8:=by have:=xw (xs.take i);rw[P6]at this;lia
  refine DT (s:={ s' with toks:=s'.toks+1 }) O g λb X x L=>?_;have M:fT prog w X S (fB (xs.take (i+1))):=by rw[uE xs i a];exact L
  refine E1 ⟨plainId_quiet V3 _,ih (i+1) _ (by lia) a (W.frame _ s' _ _ q (af4 _) λb j o e=>?_) M λN u B=>?_⟩
  ·rw[x.2 b (λh:b=S=>n (by rw[<-h];exact j))];exact e
  ·refine E N (Moved.trans W.gtrans ((m.mono c).then_heap (af4 _) λb o j e=>?_) u) B;rw[x.2 b (λh:b=S=>j (by rw[h];exact R0))];exact e
end
section
variable{prog:K3}{w:P4}{A:L6}{E:s0->E3->Prop}{s:E3}
abbrev cD(w:P4):Obj:={ cls:=.type "set",dict:=none,data:=.set #[] 0 (.fresh 0 0 (!byT w)) }
theorem AZ{h:K0}{a:E9}(g:h.get? a=some (cD w)):fT prog w h a [] :=
 ⟨_,#[],0,_,⟨g,⟨rfl,rfl,rfl⟩,rfl,λe b=>by simp at b,by simp,by decide,rfl,rfl,λq=>absurd rfl q⟩,by simp⟩
theorem lu(a:s0){Q₁:s0->E3->Prop}(h:Q₁ (.ref s.heap.objs.size) { s with heap:=s.heap.push (cD w) }):
  am0 (M8 prog w) A (.call (.builtin "set.__new__") ⟨[.type "set",a],[]⟩) (wants Q₁ E) s:=by
 refine ad9 ?_;show H0 _ A.in1 (do ac9 "set.__new__" ⟨[.type "set",a],[]⟩;again (.builtin "set.__new__" ⟨[.type "set",a],[]⟩)) _ _ s;refine o0 (am7 (PySem.F.newCall_set_1 a) (E1 ⟨plainId_quiet PySem.F.plain_set_new _,W6 PySem.F.entry_set_new ?_⟩));rw[ab3 PySem.F.plain_set_new _];unfold K6.«set.__new__» K6.Frozenset.newClass;have b:=sub_set_self;obtain⟨c,g,d,e,os⟩:=s;dsimp only
 wp_walk
 refine wpAny_askSetting (E1 ?_);dsimp only;simp only[newObj];refine o0 (wpAny_alloc (E1 ?_));exact E1 h
set_option maxHeartbeats 3200000 in
theorem uJ{l:E9}{a:Array s0}{xs:List Str}{Q:s0->E3->Prop}
  (hh:A.handled=none) (hl:s.heap.IsList l a) (hn:a.size=xs.length) (hi:∀i (h:i<xs.length),∃t,a[i]?=some (.str xs[i] t)) (N:xs.length+1<ad8)
  (h:∀(h':K0) (M:Nat),fT prog w h' s.heap.objs.size (fB xs)->(∀b o,s.heap.get? b=some o->h'.get? b=some o)->Q (.ref s.heap.objs.size) { s with heap:=h',toks:=M }) :
  H0 (M8 prog w) A (aq8 (.type "set") [.ref l]) Q E s:=by
 obtain⟨c,tl,a'⟩:=J6.mro;have T:=J6.made;have a5:=J6.sub;refine ad1 (ad9 ?_);show H0 _ _ (callAny (.type "set") _) _ _ _;refine E1 ⟨aa2 _ (by decide +kernel),W6 PySem.F.entry_type_call ?_⟩;rw[ag9 (ae0 "set" [.ref l] []) rfl];have h1:=J6.notType;have h2:=J6.canCreate;have b2:=PySem.F.typeCall_set_1 (.ref l)
 repeat (any_goals (first|assumption|wp_step))
 refine V8 (lu (.ref l) (E:=E) (Q₁:=λobj n=>obj=.ref s.heap.objs.size/\n={ s with heap:=s.heap.push (cD w) }) ⟨rfl,rfl⟩) λr n S=>?_;cases r with
 |error e=>exact S
 |ok fl =>
  cases fl with
  |ret obj =>
   obtain⟨rfl,rfl⟩:=S;have hS:(s.heap.push (cD w)).get? s.heap.objs.size=some (cD w):=F6 _ rfl;have hT:am9 { s with heap:=s.heap.push (cD w) } (.ref s.heap.objs.size) "set":=⟨_,hS,rfl⟩;have b3:=J6.init.lookup;have b4:=J6.init.bind (.ref s.heap.objs.size)
   repeat (any_goals (first|assumption|wp_step))
   refine V8 (U0 (R:=wants (λr m=>r=.none/\∃h' M,m={ s with heap:=h',toks:=M } /\
     fT prog w h' s.heap.objs.size (fB xs)/\(∀b o,s.heap.get? b=some o->h'.get? b=some o)) E) J6.init.plain PySem.F.entry_set_init (check_set_init_1 hT ?_)) λH m f=>?_
   ·obtain⟨ol,B,L,nl,I⟩:=hl;obtain⟨a9,q,a1,j⟩:=ol;simp only at L I;subst L;subst I;have G:(s.heap.push (cD w)).get? l=some { cls:=.type "list",dict:=q,data:=.seq a nl,slots:=j }:=E2 _ B;have a8:=PySem.F.sub_list_set;have b1:=PySem.F.sub_list_frozenset;have b5:(M7 "list"==M7 "dict")=false:=by decide
    have C:(s.heap.push (cD w)).IsList l a:=⟨_,G,rfl,nl,rfl⟩;unfold K6.«set.__init__» noKeywords K6.Frozenset.updateFrom;generalize Z:ap9=PI
    wp_walk
    subst Z;refine W0 C ?_;refine o0 (wpAny_runValue ?_);have z:l<s.heap.objs.size:=F9 B;have P:A.in1.in1.in1.handled=none:=by simp[hh]
    have x:l≠(s.heap.push (cD w)).objs.size:=by
     rw[T4];exact K5 (R9 z)
    have Y:s.heap.objs.size∉[(s.heap.push (cD w)).objs.size,l]:=by
     rw[T4];simp only[F8,F5,Z6,or_false,not_or];exact⟨K5 (Z5 _),ad6 z⟩
    have W:=(Walks.list (prog:=prog) (w:=w) P _ l x a).toS;rw[hn]at W;refine DX (xs:=xs) W s.heap.objs.size Y (λi v X hv=>?_) N (xs.length-0) 0 _ (by lia) (O2 _) ?St0 ?hS0 ?hR
    case St0=>exact⟨⟨_,F6 _ rfl,rfl,rfl⟩,(C.push _)⟩
    ·obtain⟨t,g⟩:=hi i X;have J:a[i]?=some v:=hv;rw[g]at J;exact⟨t,(Q4 J).symm⟩
    case hS0=>exact AZ (E2 _ hS)
    case hR =>
     intro s' O u;obtain⟨h',g',d',a3,a4⟩:=s';have eg:g'=s.gens:=O.gens;have ed:d'=s.drawn:=O.drawn;have eo:a4=s.os:=O.os;subst eg;subst ed;subst eo;show H0 _ _ _ _ _ _;refine E1 ?_;show H0 _ _ (ret K2) _ _ _;refine E1 ⟨rfl,h',a3,rfl,u,λb o e=>?_⟩;have N:=F9 e;have U:b≠s.heap.objs.size:=K5 N;have a2:b≠(s.heap.push (cD w)).objs.size:=by
      rw[T4];exact K5 (R9 N)
     exact O.heap b o (by simp only[F8,F5,Z6,or_false,not_or];exact⟨U,a2⟩) (E2 _ (E2 _ e))
   ·cases H with
    |error e=>exact f
    |ok p =>
     cases p with
     |ret r =>
      obtain⟨rfl,h',M,rfl,u,a0⟩:=f
      repeat (any_goals (first|assumption|wp_step))
      exact h _ _ u a0
     |_=>exact f.elim
  |_=>exact S.elim
end
end L2
namespace L2
open PySem
def f51(x:Nat):Nat:=5*x+1
def ky:Nat->Nat->Nat
 |0,x=>x
 |n+1,x=>ky n (f51 x)
theorem lS(m n x:Nat):ky (m+n) x=ky n (ky m x):=by
 induction m generalizing x with
 |zero=>simp[ky]
 |succ m ih=>rw[Nat.succ_add];simp only[ky];exact ih _
theorem wo(k:Nat):∃a c,∀z,ky (2 ^ k) z=z+2 ^ (k+2)*a*z+2 ^ k+2 ^ (k+1)*c:=by
 induction k with
 |zero=>exact⟨1,0,λz=>by simp[ky,f51];lia⟩
 |succ k ih =>
  obtain⟨a,c,h⟩:=ih;generalize b:2 ^ k=p at *
  have f:2 ^ (k+1)=2*p:=by rw[ai9,b,ai8]
  have e:2 ^ (k+2)=4*p:=by rw[ao6,b];lia
  have g:2 ^ (k+1+2)=8*p:=by rw[show k+1+2=k+3 by lia,ao6,b];lia
  have i:2 ^ (k+1+1)=4*p:=e;rw[f,g,i];rw[f,e]at h;refine⟨a+2*p*a*a,c+p*a+2*p*a*c,λz=>?_⟩;rw[show 2*p=p+p by lia,lS,h,h]
  grind
theorem xt(k:Nat):∀x j,j<2 ^ k->∃n,n<2 ^ k/\ky n x % 2 ^ k=j:=by
 induction k with
 |zero=>intro x j h;exact⟨0,by simp,by simp at h;simp[h,Nat.mod_one]⟩
 |succ k ih =>
  intro x j A;obtain⟨a,c,w⟩:=wo k;have b:0<2 ^ k:=Nat.two_pow_pos k;have l:2 ^ (k+1)=2*2 ^ k:=by rw[ai9,ai8]
  have z:2 ^ (k+2)=2*(2*2 ^ k):=by rw[ao6];lia
  obtain⟨n,J,t⟩:=ih x (j % 2 ^ k) (ak1 _ b);generalize o:ky n x=y at t;generalize H:2 ^ k=p at *
  have e:y % (2*p)=j∨(y+p) % (2*p)=j:=by
   rw[l]at A;have E:=Nat.div_add_mod y (2*p);have G:=ak1 y (show 0<2*p by lia);have:y % (2*p) % p=y % p:=Nat.mod_mul_left_mod y 2 p;rw[t]at this;generalize y % (2*p)=r at *
   have i:r=p*(r / p)+r % p:=(Nat.div_add_mod r p).symm;have s:j=p*(j / p)+j % p:=(Nat.div_add_mod j p).symm;have B:r / p<2:=Nat.div_lt_of_lt_mul (by lia);have C:j / p<2:=Nat.div_lt_of_lt_mul (by lia);rw[this]at i;have m:(y+p) % (2*p)=(r+p) % (2*p):=by
    rw[<-E,aa3,Nat.mul_add_mod]
   rw[m];have I:j % p<p:=ak1 _ b;generalize j % p=u at *
   have two:∀q,q<2->q=0∨q=1:=λq h=>by lia
   have f:=two _ B;have g:=two _ C;rcases f with f|f<;>rcases g with g|g<;>rw[f]at i<;>rw[g]at s<;>simp only[Nat.mul_zero,Nat.mul_one,Nat.zero_add]at i s
   ·left;lia
   ·right;rw[Nat.mod_eq_of_lt (by lia)];lia
   ·right;rw[show r+p=u+1*(2*p)by lia,Nat.add_mul_mod_self_right,Nat.mod_eq_of_lt (by lia)];lia
   ·left;lia
  rcases e with e|e
  ·exact⟨n,by lia,by rw[l,o];exact e⟩
  ·refine⟨n+p,by lia,?_⟩;rw[lS,o,w y,l,z];have:y+2*(2*p)*a*y+p+2*p*c=(y+p)+(2*a*y+c)*(2*p):=by grind
   rw[this,Nat.add_mul_mod_self_right];exact e
end L2
namespace L2
open PySem PySem.SetTable
def pS(mask:Nat)(h:Int):Probe:={ j:=bits h % (mask+1),more:=runEnd mask (bits h % (mask+1))-bits h % (mask+1),i:=bits h % (mask+1),perturb:=bits h,dummy:=none }
def pA(mask:Nat)(p:Probe):Probe :=
 if p.more > 0 then { p with j:=p.j+1,more:=p.more-1 }
 else { p with j:=(leap mask p.i p.perturb).1,more:=runEnd mask (leap mask p.i p.perturb).1-(leap mask p.i p.perturb).1,i:=(leap mask p.i p.perturb).1,perturb:=(leap mask p.i p.perturb).2 }
def pth(mask:Nat)(h:Int):Nat->Probe
 |0=>pS mask h
 |n+1=>pA mask (pth mask h n)
def rs(mask:Nat)(h:Int):Nat->Nat×Nat
 |0=>(bits h % (mask+1),bits h)
 |n+1=>leap mask (rs mask h n).1 (rs mask h n).2
def atR(mask:Nat)(r:Nat×Nat):Probe:={ j:=r.1,more:=runEnd mask r.1-r.1,i:=r.1,perturb:=r.2,dummy:=none }
variable{mask:Nat}{h:Int}
theorem BR(i:Nat):runEnd mask i-i<=9:=by unfold runEnd;split<;>lia
theorem oA{n:Nat}{r:Nat×Nat}(e:pth mask h n=atR mask r):∀q,q<=runEnd mask r.1-r.1->pth mask h (n+q)={ atR mask r with j:=r.1+q,more:=runEnd mask r.1-r.1-q }
 |0,_=>by rw[Nat.add_zero,e];rfl
 |q+1,a=>by
  rw[<-aa3];show pA mask (pth mask h (n+q))=_;rw[oA e q (by lia)];unfold pA;rw[if_pos (show runEnd mask r.1-r.1-q > 0 by lia)];rfl
theorem xB:∀m,∃n,n<=10*m/\pth mask h n=atR mask (rs mask h m)
 |0=>⟨0,by lia,rfl⟩
 |m+1=>by
  obtain⟨n,b,e⟩:=xB m;have a:=BR (mask:=mask) (rs mask h m).1;refine⟨n+(runEnd mask (rs mask h m).1-(rs mask h m).1)+1,by lia,?_⟩;show pA mask (pth mask h (n+_))=_;rw[oA e _ (F3 _)];unfold pA;rw[if_neg (by simp)];rfl
theorem xV:bits h<2 ^ 64:=by
 unfold bits;have:=Int.emod_lt_of_pos h (show(0:Int)<2 ^ 64 by decide);have:=Int.emod_nonneg h (show(2 ^ 64:Int)≠0 by decide)
 lia
theorem wO:∀m,(rs mask h m).2=bits h / 32 ^ m
 |0=>by simp[rs]
 |m+1=>by
  show(rs mask h m).2 / 32=_;rw[wO m,Nat.div_div_eq_div_mul,ai9]
theorem Ep(m:Nat):(rs mask h (13+m)).2=0:=by
 rw[wO];refine Nat.div_eq_of_lt (J0 xV ?_);rw[ao6];exact L5 (by decide) (Nat.le_mul_of_pos_right (32 ^ 13) (Nat.pow_pos (by decide)))
theorem zY:∀m,(rs mask h (13+m)).1 % (mask+1)=ky m (rs mask h 13).1 % (mask+1)
 |0=>rfl
 |m+1=>by
  show(leap mask (rs mask h (13+m)).1 (rs mask h (13+m)).2).1 % _=_;unfold leap;rw[Ep,lS m 1];show((rs mask h (13+m)).1*5+1+0 / 32) % (mask+1) % (mask+1)=(5*ky m (rs mask h 13).1+1) % (mask+1);rw[Nat.mod_mod,Nat.zero_div,Nat.add_zero,Nat.add_mod,Nat.mul_mod,zY m,<-Nat.mul_mod,<-Nat.add_mod,ai8]
theorem zN(m:Nat):(rs mask h m).1<mask+1:=by
 cases m with
 |zero=>exact ak1 _ (an6 _)
 |succ m=>exact ak1 _ (an6 _)
theorem tQ{k:Nat}(c:mask+1=2 ^ k){j:Nat}(i:j<=mask):∃m n,m<=mask+13/\n<=10*m/\(rs mask h m).1=j/\(pth mask h n).j=j:=by
 obtain⟨m,f,e⟩:=xt k (rs mask h 13).1 j (by lia);rw[<-c]at f e;have a:=zY (mask:=mask) (h:=h) m;rw[e,Nat.mod_eq_of_lt (zN _)]at a;obtain⟨n,g,b⟩:=xB (mask:=mask) (h:=h) (13+m);exact⟨13+m,n,by lia,g,a,by rw[b];exact a⟩
theorem rX(n:Nat):(pth mask h n).j<=mask:=by
 have a:∀n,(pth mask h n).j+(pth mask h n).more<=mask/\(pth mask h n).dummy=none:=λn=>by
  have st:∀i,i<mask+1->i+(runEnd mask i-i)<=mask:=λi b=>by unfold runEnd;split<;>lia
  induction n with
  |zero=>exact⟨st _ (ak1 _ (an6 _)),rfl⟩
  |succ n ih =>
   show(pA mask (pth mask h n)).j+(pA mask (pth mask h n)).more<=mask/\(pA mask (pth mask h n)).dummy=none;unfold pA
   split
   ·exact⟨by have:=ih.1;dsimp only;lia,ih.2⟩
   ·exact⟨st _ (ak1 _ (an6 _)),ih.2⟩
 have:=(a n).1
 lia
theorem A8(n:Nat):(pth mask h n).dummy=none:=by
 induction n with
 |zero=>rfl
 |succ n ih =>
  show(pA mask (pth mask h n)).dummy=none;unfold pA
  split<;>exact ih
theorem Cv{P:Nat->Prop}{n:Nat}(h:P n):∃m,m<=n/\P m/\∀l,l<m->¬ P l:=by
 induction n using Nat.strongRecOn with
 |_ n ih =>
  by_cases c:∃l,l<n/\P l
  ·obtain⟨l,e,f⟩:=c;obtain⟨m,g,a,b⟩:=ih l e f;exact⟨m,by lia,a,b⟩
  ·exact⟨n,F3 _,h,λl e f=>c ⟨l,e,f⟩⟩
def Ri(xs:Array Nat):Prop:=∀i j,i<j->j<xs.size->xs.getD i 0<xs.getD j 0
theorem wF{xs:Array Nat}{i:Nat}(h:i<xs.size)(a b:Nat):xs.getD i a=xs.getD i b:=by simp[ag0,h]
theorem kQ{xs:Array Nat}(up:Ri xs)(j:Nat):∀f lo e,e-lo<=f->lo<=e->e<=xs.size->(∀i,i<lo->xs.getD i 0<j)->(∀i,e<=i->i<xs.size->j<=xs.getD i 0) ->
  below.go xs j f lo e<=xs.size/\(∀i,i<below.go xs j f lo e->xs.getD i 0<j)/\∀i,below.go xs j f lo e<=i->i<xs.size->j<=xs.getD i 0
 |0,lo,e,h,l,g,a,b=>by
  obtain rfl:lo=e:=by lia
  exact⟨g,a,b⟩
 |f+1,lo,e,h,l,g,a,b=>by
  unfold below.go
  by_cases c:lo<e
  ·rw[if_pos c];dsimp only
   by_cases d:xs.getD ((lo+e) / 2) j<j
   ·rw[if_pos d];rw[wF (by lia) j 0]at d;refine kQ up j f _ _ (by lia) (by lia) g (λi n=>?_) b;rcases S3 i ((lo+e) / 2)with q|q
    ·exact Nat.lt_trans (up i _ q (by lia)) d
    ·obtain rfl:i=(lo+e) / 2:=by lia
     exact d
   ·rw[if_neg d];rw[wF (by lia) j 0]at d;refine kQ up j f _ _ (by lia) (by lia) (by lia) a (λi o m=>?_);rcases S3 ((lo+e) / 2) i with q|q
    ·have:=up _ i q m;lia
    ·obtain rfl:i=(lo+e) / 2:=by lia
     lia
  ·rw[if_neg c];obtain rfl:lo=e:=by lia
   exact⟨g,a,b⟩
theorem qm{xs:Array Nat}(up:Ri xs)(j:Nat):below xs j<=xs.size/\(∀i,i<below xs j->xs.getD i 0<j)/\∀i,below xs j<=i->i<xs.size->j<=xs.getD i 0 :=
 kQ up j _ _ _ (by lia) (O2 _) (F3 _) (λi h=>by lia) (λi a b=>by lia)
def Occ(xs:Array Nat)(j:Nat):Prop:=∃i,i<xs.size/\xs.getD i 0=j
theorem m5{t:N3}(up:Ri t.place){i j:Nat}(c:i<t.place.size)(e:t.place.getD i 0=j):t.slot j=.live i:=by
 obtain⟨l,h,f⟩:=qm up j;have:below t.place j=i:=by
  rcases ai1 (below t.place j) i with q|q|q
  ·have a:=f _ (F3 _) (by lia);have b:=up _ i q c
   lia
  ·exact q
  ·have:=h i q;lia
 unfold slot;rw[this];have g:t.place[i]?=some j:=by rw[P0 c,<-e];simp[ag0,c]
 simp[g]
theorem rM{t:N3}(b:t.dummies=#[]){j:Nat}(n:¬ Occ t.place j):t.slot j=.empty:=by
 unfold slot;have g:(t.place[below t.place j]?==some j)=false:=by
  cases q:t.place[below t.place j]? with
  |none=>rfl
  |some x =>
   obtain⟨a,e⟩:=O3.mp q;simp only[beq_eq_false_iff_ne,ne_eq,ab9];intro z;exact n ⟨_,a,by simp[ag0,a,e,z]⟩
 rw[if_neg (by rw[g];decide),b];rfl
theorem uM{xs:Array Nat}(up:Ri xs){mask:Nat}(o:xs.size<=mask):∃j,j<=mask/\¬ Occ xs j:=by
 refine aa8 λc=>?_;have all:∀j,j<=mask->Occ xs j:=λj m=>aa8 λd=>c ⟨j,m,d⟩;have g:∀j,j<=mask+1->j<=xs.size/\∀i,i<j->xs.getD i 0=i:=λj=>by
  induction j with
  |zero=>exact λ_=>⟨O2 _,λi h=>by lia⟩
  |succ j ih =>
   intro m;obtain⟨t,f⟩:=ih (by lia);obtain⟨i,n,e⟩:=all j (by lia);have a:¬ i<j:=λq=>by have:=f i q;lia
   have b:i=j:=by
    rcases S3 j i with q|q
    ·have p:=up j i q n;rw[e]at p;cases j with
     |zero=>lia
     |succ j =>
      have u:=up j (j+1) (by lia) (by lia);have s:=f j (by lia)
      lia
    ·lia
   subst b;refine⟨n,λl w=>?_⟩;rcases S3 l i with q|q
   ·exact f l q
   ·obtain rfl:l=i:=by lia
    exact e
 have:=(g (mask+1) (F3 _)).1
 lia
structure TB(t:N3) (hs:List Int):Prop where
 sz:t.place.size=hs.length
 up:Ri t.place
 le:∀i,i<t.place.size->t.place.getD i 0<=t.mask
 dm:t.dummies=#[]
 pw:∃k,3<=k/\t.mask+1=2 ^ k
 few:t.place.size<=t.mask
 pr:∀i h,hs[i]?=some h->∃n,(pth t.mask h n).j=t.place.getD i 0/\∀m,m<n->Occ t.place (pth t.mask h m).j
theorem TB.free{t:N3}{hs:List Int}(T:TB t hs)(h:Int):∃n,n<=10*(t.mask+13)/\¬ Occ t.place (pth t.mask h n).j/\∀m,m<n->Occ t.place (pth t.mask h m).j:=by
 obtain⟨j,f,g⟩:=uM T.up T.few;obtain⟨k,_,i⟩:=T.pw;obtain⟨m,n,a,p,_,e⟩:=tQ (mask:=t.mask) (h:=h) i f;obtain⟨l,o,c,b⟩:=Cv (P:=λn=>¬ Occ t.place (pth t.mask h n).j) (n:=n) (by rw[e];exact g);exact⟨l,by lia,c,λm a=>aa8 λd=>b m a d⟩
theorem pq{t:N3}{hs:List Int}(T:TB t hs){h:Int}{n0:Nat}(g:¬ Occ t.place (pth t.mask h n0).j)(p:∀m,m<n0->Occ t.place (pth t.mask h m).j){ha:Nat->Int}:∀F n,n<=n0->n0-n<F ->
    ∃ m,n ≤ m ∧ m ≤ n0 ∧ (∀ l,n ≤ l → l < m → ∃ i,i < t.place.size ∧ t.place.getD i 0 = (pth t.mask h l).j ∧ ha i ≠ h) ∧
      ((m = n0 ∧ probe.go t ha h F (pth t.mask h n) = some (.empty (pth t.mask h n0).j none)) ∨
       (m<n0/\∃i,i<t.place.size/\t.place.getD i 0=(pth t.mask h m).j/\ha i=h/\probe.go t ha h F (pth t.mask h n)=some (.candidate (pth t.mask h m).j i (pth t.mask h (m+1)))))
  |0,n,j,u=>by lia
  | F + 1,n,j,u => by
    rcases S3 n n0 with q|q
    · obtain ⟨i,f,e⟩:=p n q;have o:=m5 T.up f e
      by_cases c:ha i=h
      · refine ⟨n,F3 _,j,λl a b => by lia,.inr ⟨q,i,f,e,c,?_⟩⟩;unfold probe.go;rw[o];dsimp only;rw[if_pos (by simpa using c)];rfl
      · obtain ⟨m,z,x,s,w⟩:=pq T g p (ha:=ha) F (n + 1) (by lia) (by lia);have eq:probe.go t ha h (F+1) (pth t.mask h n)=probe.go t ha h F (pth t.mask h (n+1)):=by
          rw[probe.go,o];dsimp only;rw[if_neg (by simpa using c)];rfl
        rw[eq];refine⟨m,by lia,x,λl a b=>?_,w⟩;rcases S3 n l with d|d
        · exact s l d b
        · obtain rfl:l = n:=by lia
          exact⟨i,f,e,c⟩
    · obtain rfl:n = n0:=by lia
      refine⟨n,F3 _,F3 _,λl a b=>by lia,.inl ⟨rfl,?_⟩⟩;unfold probe.go;rw[rM T.dm g];dsimp only;rw[A8]
end L2
namespace L2
open PySem PySem.Spec PyProof.Rows
section
variable{X:Cx}{o i:L7}{z G:TEd}{pos:Pos}
end
section
variable{P:K3}{w:P4}{K:u8}{I:Str->Option s0}{base:K0}{f:E9}{z:J7}
theorem Fun.okR{x b:Str}{st:X5}{f:E9}{z:J7}{N ps:List Str}{k n:Nat}{S:SpD}(F:Fun K x b st f z)(hn:ps.length=n)(m:au N ps (ah st))
  (e:∀ (c:s0) (A:L6) (a:List Env) (s:E3) (H:Hp) (E:XK),cg k (A.deeper (ag6 b (ah st) s.heap.objs.size f c)) →
   ∃t:TSd,QSs (kL CX0 P w K I base N b (ah st) f c A a s H E).nox (cf st) t/\∀ds M R (G:Prop),S ds M R->(t { nx:=λ_ l=>R .non l,rt:=R } (fu N ds) M->G)->G):aO P w K I base CX0 (k+1) f z ps (spD K n S):=by
 refine F.okD hn m λc A a s H E j=>?_;obtain⟨t,h,i⟩:=e c A a s H E j;exact⟨t,yW h,λds M R _ g=>i ds M R _ g id⟩
theorem shr{p:Prop}(h:∀q:Prop,(p->q)->q):p:=h p id
end
end L2
namespace L2
open PySem PyProof.Rows
section
variable{prog:K3}{w:P4}{A:L6}{E:s0->E3->Prop}{s:E3}{O:KeyOrd}{G:Keyed->O.α}{z:List Keyed}{κ:SortKind}
structure SB(z:List Keyed) (κ:SortKind) (st:SortSt):Prop where
 perm:(arrOf st).toList.Perm z
 kind:al6 st=κ
 fail:failedOf st=none
theorem SB.size{st:SortSt}(h:SB z κ st):(arrOf st).size=z.length:=by rw[<-K4];exact h.perm.length_eq
end
end L2
namespace L2
open PySem PySem.SetTable
theorem iS{a:Type}(xs:Array a)(p:Nat)(x:a):(insertAt xs p x).toList=xs.toList.take p++x::xs.toList.drop p:=by
 unfold insertAt;rw[Array.toList_append,Array.toList_push,Array.toList_extract,Array.toList_extract,List.extract_eq_take_drop,List.extract_eq_take_drop];rw[List.drop_zero,Nat.sub_zero,Z0 (l:=xs.toList.drop p) (by simp)];simp
theorem gT{xs:Array Nat}{i d:Nat}:xs.getD i d=xs.toList[i]?.getD d:=by
 rw[T0]
 by_cases h:i<xs.size
 ·simp[ag0,h]
 ·simp[ag0,h]
theorem qu{xs:Array Nat}{p x:Nat}(f:p<=xs.size)(i:Nat):(insertAt xs p x).getD i 0=if i<p then xs.getD i 0 else if i=p then x else xs.getD (i-1) 0:=by
 have c:(xs.toList.take p).length=p:=by simp;lia
 rw[gT,iS,ae5,c]
 by_cases a:i<p
 ·rw[if_pos a,if_pos a,S6 a,gT]
 ·rw[if_neg a,if_neg a]
  by_cases b:i=p
  ·rw[if_pos b,b];simp
  ·rw[if_neg b];obtain⟨m,e⟩:∃m,i-p=m+1:=⟨i-p-1,by lia⟩;rw[e,P9,ad5,gT];congr 2;lia
theorem gc{a:Type}(xs:Array a)(p:Nat)(x:a)(b:p<=xs.size):(insertAt xs p x).size=xs.size+1:=by
 rw[<-K4,iS];simp;lia
theorem uu{xs:Array Nat}{p x:Nat}(b:p<=xs.size){j:Nat}(h:Occ xs j):Occ (insertAt xs p x) j:=by
 obtain⟨i,c,e⟩:=h
 by_cases a:i<p
 ·exact⟨i,by rw[gc _ _ _ b];lia,by rw[qu b,if_pos a];exact e⟩
 ·exact⟨i+1,by rw[gc _ _ _ b];lia,by rw[qu b,if_neg (by lia),if_neg (by lia)];exact e⟩
theorem TB.put{t:N3}{hs:List Int}(T:TB t hs){h:Int}{n:Nat}(J:¬ Occ t.place (pth t.mask h n).j)(P:∀m,m<n->Occ t.place (pth t.mask h m).j)(A:t.place.size+1<=t.mask):
  ∃p,p<=hs.length/\(t.put (pth t.mask h n).j).2=p/\TB (t.put (pth t.mask h n).j).1 (hs.take p++h::hs.drop p)/\(t.put (pth t.mask h n).j).1.led=t.led/\(t.put (pth t.mask h n).j).1.plain=t.plain/\(t.put (pth t.mask h n).j).1.mask=t.mask/\(t.put (pth t.mask h n).j).1.place.size=t.place.size+1:=by
 generalize G:(pth t.mask h n).j=j at *
 have E:j<=t.mask:=by rw[<-G];exact rX n
 obtain⟨o,N,I⟩:=qm T.up j;have sz:=T.sz;have M:has t.dummies j=false:=by rw[T.dm];rfl
 have e:t.put j=({ t with place:=insertAt t.place (below t.place j) j,dummies:=t.dummies },below t.place j):=by unfold N3.put;rw[M];rfl
 rw[e];dsimp only;generalize U:below t.place j=p at *
 have C:∀i,p<=i->i<t.place.size->j<t.place.getD i 0:=λi B z=>by
  have:=I i B z;rcases S3 j (t.place.getD i 0)with q|q
  ·exact q
  ·exact absurd ⟨i,z,by lia⟩ J
 have l:=gc t.place p j o;refine⟨p,by lia,rfl,⟨?_,?_,?_,T.dm,T.pw,by rw[l];exact A,?_⟩,rfl,rfl,rfl,l⟩
 ·show(insertAt t.place p j).size=_;rw[l,E8,P6,F4,aj2];lia
 ·intro i k hik hk;have S:k<t.place.size+1:=by rw[<-l];exact hk
  show(insertAt t.place p j).getD i 0<(insertAt t.place p j).getD k 0;rw[qu o,qu o]
  by_cases c:i<p
  ·rw[if_pos c]
   by_cases H:k<p
   ·rw[if_pos H];exact T.up i k hik (by lia)
   ·rw[if_neg H]
    by_cases f:k=p
    ·rw[if_pos f];exact N i c
    ·rw[if_neg f];exact T.up i (k-1) (by lia) (by lia)
  ·rw[if_neg c,if_neg (show ¬ k<p by lia),if_neg (show ¬ k=p by lia)]
   by_cases f:i=p
   ·rw[if_pos f];exact C _ (by lia) (by lia)
   ·rw[if_neg f];exact T.up (i-1) (k-1) (by lia) (by lia)
 ·intro i Q;have R:i<t.place.size+1:=by rw[<-l];exact Q
  show(insertAt t.place p j).getD i 0<=t.mask;rw[qu o]
  by_cases c:i<p
  ·rw[if_pos c];exact T.le i (by lia)
  ·rw[if_neg c]
   by_cases f:i=p
   ·rw[if_pos f];exact E
   ·rw[if_neg f];exact T.le _ (by lia)
 ·intro i g s;have O:(hs.take p).length=p:=by simp;lia
  have u:∀x,hs[x]?=some g->(insertAt t.place p j).getD i 0=t.place.getD x 0->∃n,(pth t.mask g n).j=(insertAt t.place p j).getD i 0/\∀m,m<n->Occ (insertAt t.place p j) (pth t.mask g m).j:=λx B z=>by
   obtain⟨L,a,b⟩:=T.pr x g B;exact⟨L,by rw[a,z],λm w=>uu o (b m w)⟩
  rw[ae5,O]at s
  by_cases c:i<p
  ·rw[if_pos c,S6 c]at s;exact u i s (by rw[qu o,if_pos c])
  ·rw[if_neg c]at s
   by_cases f:i=p
   ·rw[f,an7,V4]at s;cases s;exact⟨n,by show _=(insertAt t.place p j).getD i 0;rw[qu o,if_neg c,if_pos f];exact G,λm w=>uu o (P m w)⟩
   ·obtain⟨m,w⟩:∃m,i-p=m+1:=⟨i-p-1,by lia⟩;rw[w,P9,ad5]at s;exact u _ s (by rw[qu o,if_neg c,if_neg f];congr 1;lia)
variable{mask:Nat}{h:Int}
abbrev Ow:=Array (Option Nat)
def ocO(ow:Ow)(j:Nat):Prop:=ow.getD j (some 0)≠none
theorem tL{ow:Ow}(hs:ow.size=mask+1){M:Nat}(p:ow.getD (rs mask h M).1 (some 0)=none):∀F m n,m<=M->M-m<F->pth mask h n=atR mask (rs mask h m)->(∀l,l<n->ocO ow (pth mask h l).j) ->
  ∃g,layClean.free mask ow F (rs mask h m).1 (rs mask h m).2=some (pth mask h g).j/\ow.getD (pth mask h g).j (some 0)=none/\∀l,l<g->ocO ow (pth mask h l).j
 |0,m,n,t,u,_,_=>by lia
 |F+1,m,n,t,u,e,j=>by
  have lt:=zN (mask:=mask) (h:=h) m;have len:runEnd mask (rs mask h m).1+1-(rs mask h m).1=runEnd mask (rs mask h m).1-(rs mask h m).1+1:=by
   have:(rs mask h m).1<=runEnd mask (rs mask h m).1:=by unfold runEnd;split<;>lia
   lia
  have i:∀q,q<=runEnd mask (rs mask h m).1-(rs mask h m).1->(pth mask h (n+q)).j=(rs mask h m).1+q:=λq f=>by rw[oA e q f]
  unfold layClean.free;rw[len];cases c:(T6 (runEnd mask (rs mask h m).1-(rs mask h m).1+1)).find? λk=>(ow.getD ((rs mask h m).1+k) (some 0)).isNone with
  |some k =>
   dsimp only;have C:=R8.mp (List.mem_of_find?_eq_some c);have A:=List.find?_some c;refine⟨n+k,by rw[i k (by lia)],by rw[i k (by lia)];simpa using A,λl x=>?_⟩;rcases S3 l n with a|a
   ·exact j l a
   ·obtain⟨q,rfl⟩:∃q,l=n+q:=⟨l-n,by lia⟩;unfold ocO;rw[i q (by lia)];intro z;obtain⟨o,bs,s,w⟩:=(List.find?_eq_some_iff_append.mp c).2;have:q∈o:=by
     have f:q∈T6 (runEnd mask (rs mask h m).1-(rs mask h m).1+1):=R8.mpr (by lia);have b:(o++k::bs).Pairwise (·<·):=by rw[<-s];exact List.pairwise_lt_range
     rw[s]at f;rcases P7.mp f with r|r
     ·exact r
     ·rw[List.pairwise_append]at b;rcases F8.mp r with r|r
      ·lia
      ·have:=(List.pairwise_cons.mp b.2.1).1 q r;lia
    have:=w q this;rw[z]at this;simp at this
  |none =>
   dsimp only;have all:=List.find?_eq_none.mp c;have B:m≠M:=λz=>by
    subst z;have:=all 0 (R8.mpr (by lia));rw[Nat.add_zero,p]at this;simp at this
   show ∃g,layClean.free mask ow F (rs mask h (m+1)).1 (rs mask h (m+1)).2=_/\_;refine tL hs p F (m+1) (n+(runEnd mask (rs mask h m).1-(rs mask h m).1)+1) (by lia) (by lia) ?_ λl x=>?_
   ·show pA mask (pth mask h (n+_))=_;rw[oA e _ (F3 _)];unfold pA;rw[if_neg (by simp)];rfl
   ·rcases S3 l n with a|a
    ·exact j l a
    ·obtain⟨q,rfl⟩:∃q,l=n+q:=⟨l-n,by lia⟩;unfold ocO;rw[i q (by lia)];intro z;have:=all q (R8.mpr (by lia));rw[z]at this;simp at this
def lv(mask:Nat)(ow:Ow):List (Nat×Nat):=(T6 (mask+1)).filterMap λj=>(ow.getD j none).map (j,·)
theorem rS{ow:Ow}{j:Nat}(c:j<ow.size)(a b:Option Nat):ow.getD j a=ow.getD j b:=by simp[ag0,c]
theorem Ax{ow:Ow}(hs:ow.size=mask+1){s k:Nat}(a:s<=mask)(hn:ow.getD s none=none):(lv mask (ow.setIfInBounds s (some k))).Perm ((s,k)::lv mask ow):=by
 unfold lv;have b:T6 (mask+1)=T6 s++s::(List.range' (s+1) (mask-s)):=by
  rw[List.range_eq_range',List.range_eq_range',show mask+1=s+(1+(mask-s))by lia,<-List.range'_append_1,<-List.range'_append_1];simp[Nat.add_comm]
 have same:∀l:List Nat,s∉l->(l.filterMap λj=>((ow.setIfInBounds s (some k)).getD j none).map (j,·))=l.filterMap λj=>(ow.getD j none).map (j,·):=λl a=>by
  induction l with
  |nil=>rfl
  |cons j l ih =>
   have this:s≠j:=λz=>a (z▸.head _);rw[N8,N8,ih λz=>a (.tail _ z)];simp only[Q8,X0,if_neg this]
 rw[b,List.filterMap_append,List.filterMap_append,N8,N8,hn,same _ (by simp),same _ (λz=>by obtain⟨x,_,z⟩:=List.mem_range'.mp z;lia)];have:(ow.setIfInBounds s (some k)).getD s none=some k:=by simp[Q8,show s<ow.size by lia]
 rw[this];simp only[ak8,Option.map_none];exact List.perm_middle
structure LC(mask:Nat) (hs:List Int) (ow:Ow) (k:Nat):Prop where
 sz:ow.size=mask+1
 perm:((lv mask ow).map (·.2)).Perm (T6 k)
 pr:∀j i h,ow.getD j none=some i->hs[i]?=some h->∃n,(pth mask h n).j=j/\∀m,m<n->ocO ow (pth mask h m).j
theorem AY{ow:Ow}(hs:ow.size=mask+1){j i:Nat}(e:ow.getD j none=some i):(j,i)∈lv mask ow:=by
 have a:j<ow.size:=by
  rcases S3 j ow.size with q|q
  ·exact q
  ·simp[ag0,show ¬ j<ow.size by lia]at e
 exact V1.mpr ⟨j,R8.mpr (by lia),by rw[e];rfl⟩
theorem zf{ow:Ow}(hs:ow.size=mask+1)(a:(lv mask ow).length<=mask):∃j,j<=mask/\ow.getD j none=none:=by
 refine aa8 λc=>?_;have all:∀j∈T6 (mask+1),∃i,ow.getD j none=some i:=λj f=>by
  cases q:ow.getD j none with
  |none=>exact absurd ⟨j,by have:=R8.mp f;lia,q⟩ c
  |some i=>exact⟨i,rfl⟩
 have:∀l:List Nat,(∀j∈l,∃i,ow.getD j none=some i)->(l.filterMap λj=>(ow.getD j none).map (j,·)).length=l.length:=λl=>by
  induction l with
  |nil=>exact λ_=>rfl
  |cons j l ih =>
   intro b;obtain⟨i,e⟩:=b j (.head _);rw[N8,e];simp only[ak8,F4];rw[ih λx g=>b x (.tail _ g)]
 have q:=this _ all;rw[ai2]at q;unfold lv at a
 lia
abbrev lcF(mask:Nat)(a:Option (Ow×Nat))(h:Int):Option (Ow×Nat):=do
 let(owner,k) <-a
 let j <-layClean.free mask owner (turns mask) (bits h % (mask+1)) (bits h)
 ae6 (owner.setIfInBounds j (some k),k+1)
theorem zz{e:Nat}(H:mask+1=2 ^ e){hs:List Int}(C:hs.length<=mask):∀(f done:List Int) (ow:Ow),hs=done++f->LC mask hs ow done.length->∃w,f.foldl (lcF mask) (some (ow,done.length))=some (w,hs.length)/\LC mask hs w hs.length
 |[],done,ow,p,L=>⟨ow,by rw[p];simp,by rw[p];simpa[p]using L⟩
 |h::f,done,ow,p,L=>by
  have S:(lv mask ow).length=done.length:=by have:=L.perm.length_eq;simpa using this
  have lt:done.length<hs.length:=by rw[p];simp
  obtain⟨j,t,P⟩:=zf L.sz (by lia);obtain⟨m,_,x,_,O,_⟩:=tQ (mask:=mask) (h:=h) H t;obtain⟨u,J,Q,I⟩:=tL (mask:=mask) (h:=h) (ow:=ow) L.sz (M:=m) (by rw[O,rS (by rw[L.sz];lia) (some 0) none];exact P) (turns mask) 0 0 (O2 _) (by unfold turns;lia) rfl (λl R=>by lia);have N:=rX (mask:=mask) (h:=h) u;have st:lcF mask (some (ow,done.length)) h=some (ow.setIfInBounds (pth mask h u).j (some done.length),done.length+1):=by
   show(layClean.free mask ow (turns mask) (bits h % (mask+1)) (bits h) >>= λj=>ae6 (ow.setIfInBounds j (some done.length),done.length+1))=_;have:layClean.free mask ow (turns mask) (bits h % (mask+1)) (bits h)=some (pth mask h u).j:=J;rw[this];rfl
  rw[W5,st];generalize A:(pth mask h u).j=o at *
  have B:ow.getD o none=none:=by rw[<-Q];exact rS (by rw[L.sz];lia) _ _
  have s:∀j,ocO ow j->ocO (ow.setIfInBounds o (some done.length)) j:=λj t z=>by
   unfold ocO at t;simp only[Q8,X0]at z t
   split at z
   ·split at z<;>simp at z
   ·exact t z
  have:=zz H C f (done++[h]) (ow.setIfInBounds o (some done.length)) (by rw[p];simp) ⟨by rw[Array.size_setIfInBounds];exact L.sz,?_,?_⟩
  ·rw[E8,List.length_singleton]at this;exact this
  ·rw[E8,List.length_singleton,List.range_succ];refine((Ax L.sz N B).map _).trans ?_;rw[K7];exact(List.Perm.cons _ L.perm).trans (List.perm_append_singleton _ _).symm
  ·intro j i g q G
   by_cases c:o=j
   ·have:i=done.length:=by
     simp only[Q8,X0,if_pos c]at q
     split at q
     ·simpa using q.symm
     ·simp at q
    subst this;have:g=h:=by rw[p,P5 (F3 _),an7,V4]at G;exact(Q4 G).symm
    subst this;exact⟨u,by rw[A];exact c,λm x=>s _ (I m x)⟩
   ·have E:ow.getD j none=some i:=by
     simp only[Q8,X0,if_neg c]at q ⊢;exact q
    obtain⟨n,a,b⟩:=L.pr j i g E G;exact⟨n,a,λm x=>s _ (b m x)⟩
theorem qi(n:Nat):∀F k,n<2 ^ (k+F)->∃e,k<=e/\sizeAbove.go n F (2 ^ k)=2 ^ e/\n<2 ^ e/\(e=k∨2 ^ e<=2*n)
 |0,k,h=>⟨k,F3 _,rfl,h,.inl rfl⟩
 |F+1,k,h=>by
  unfold sizeAbove.go
  by_cases c:2 ^ k<=n
  ·rw[if_pos c,show 2 ^ k*2=2 ^ (k+1)from(ai9 ..).symm];obtain⟨e,g,f,b,a⟩:=qi n F (k+1) (by rw[show k+1+F=k+(F+1)by lia];exact h);refine⟨e,by lia,f,b,.inr ?_⟩;rcases a with a|a
   ·rw[a,ai9];lia
   ·exact a
  ·rw[if_neg c];exact⟨k,F3 _,rfl,by lia,.inl rfl⟩
theorem qp{n:Nat}(h:n<2 ^ 60):∃e,3<=e/\sizeAbove n=2 ^ e/\n<2 ^ e/\(2 ^ e<=8∨2 ^ e<=2*n):=by
 obtain⟨e,b,c,a,f⟩:=qi n 64 3 (Nat.lt_trans h (by decide));exact⟨e,b,c,a,f.imp (λz=>by rw[z];decide) id⟩
variable{mask:Nat}
theorem Cr(ow:Ow):((lv mask ow).map (·.1)).Pairwise (·<·):=by
 unfold lv;rw[List.map_filterMap,List.pairwise_filterMap];refine List.pairwise_lt_range.imp λ{a b} f x e y c=>?_;cases g:ow.getD a none with
 |none=>rw[g]at e;cases e
 |some i =>
  cases h:ow.getD b none with
  |none=>rw[h]at c;cases c
  |some k =>
   rw[g]at e;rw[h]at c;cases e;cases c;exact f
theorem zI{ow:Ow}{j i:Nat}(h:(j,i)∈lv mask ow):j<=mask/\ow.getD j none=some i:=by
 obtain⟨a,b,e⟩:=V1.mp h;have:=R8.mp b;cases q:ow.getD a none with
 |none=>rw[q]at e;cases e
 |some k=>rw[q]at e;cases e;exact⟨by lia,q⟩
theorem yf{t:N3}{hs:List Int}{wanted:Nat}(T:hs.length<=wanted)(J:wanted<2 ^ 60)(R:0<wanted):∃t' o,t.relaid hs.toArray wanted=some (t',o)/\t'.led=t.led/\t'.plain=t.plain/\t'.mask+1=sizeAbove wanted/\o.toList.Perm (T6 hs.length)/\t'.place.size=hs.length/\TB t' (o.toList.map λk=>hs.getD k 0):=by
 obtain⟨e,M,S,el,_⟩:=qp J;have I:0<2 ^ e:=Nat.two_pow_pos e;generalize A:sizeAbove wanted-1=mask;have G:mask+1=2 ^ e:=by lia
 have Q:LC mask hs (ak9 (mask+1) none) 0:=by
  have z:∀j,(ak9 (mask+1) (none:Option Nat)).getD j none=none:=λj=>by
   rw[Q8,Array.getElem?_replicate];split<;>rfl
  refine⟨by simp,?_,λj i h q _=>by rw[z]at q;cases q⟩;have:lv mask (ak9 (mask+1) none)=[]:=by
   unfold lv;rw[List.filterMap_eq_nil_iff];intro j _;rw[z];rfl
  rw[this];exact .refl _
 obtain⟨g,f,L⟩:=zz G (hs:=hs) (by lia) hs [] _ rfl Q;have x:layClean mask hs.toArray=some g:=by
  unfold layClean;rw[<-Array.foldl_toList];show(hs.foldl (lcF mask) (some (ak9 (mask+1) none,0))).map (·.1)=_;rw[show(0:Nat)=([]:List Int).length from rfl,f];rfl
 have N:t.relaid hs.toArray wanted=some ({ mask,place:=((lv mask g).map (·.1)).toArray,dummies:=#[],finger:=t.finger,led:=t.led,moves:=t.movedTo mask,plain:=t.plain },((lv mask g).map (·.2)).toArray):=by
  unfold relaid laid;rw[A,x];rfl
 have H:(lv mask g).length=hs.length:=by have:=L.perm.length_eq;simpa using this
 have w:∀i,((lv mask g).map (·.1)).toArray.getD i 0=((lv mask g)[i]?.map (·.1)).getD 0:=λi=>by rw[gT];simp
 have p:((lv mask g).map (·.1)).toArray.size=hs.length:=by simp[H]
 have C:∀j,j<=mask->ocO g j->Occ ((lv mask g).map (·.1)).toArray j:=λj E q=>by
  cases c:g.getD j none with
  |none=>exact absurd (by rw[rS (by rw[L.sz];lia) (some 0) none];exact c) q
  |some i =>
   obtain⟨l,x⟩:=ad7.mp (AY L.sz c);exact⟨l,by rw[p,<-H];exact(J8.mp x).1,by rw[w,x];rfl⟩
 refine⟨_,_,N,rfl,rfl,by show mask+1=_;lia,by simpa using L.perm,p,⟨by simp,?_,?_,rfl,⟨e,M,G⟩,by show((lv mask g).map (·.1)).toArray.size<=mask;lia,?_⟩⟩
 ·intro i j B E;rw[p]at E;have:=List.pairwise_iff_getElem.mp (Cr (mask:=mask) g) i j (by simp;lia) (by simp;lia) B;show((lv mask g).map (·.1)).toArray.getD i 0<((lv mask g).map (·.1)).toArray.getD j 0;rw[w,w,E6 (by lia),E6 (by lia)];simpa using this
 ·intro i s;rw[p]at s;show((lv mask g).map (·.1)).toArray.getD i 0<=mask;rw[w,E6 (by lia)];exact(zI (Q0 (by lia))).1
 ·intro i h s;show ∃n,(pth mask h n).j=((lv mask g).map (·.1)).toArray.getD i 0/\∀m,m<n->Occ ((lv mask g).map (·.1)).toArray (pth mask h m).j;simp only[K8]at s;cases c:(lv mask g)[i]? with
  |none=>rw[c]at s;cases s
  |some P =>
   obtain⟨j,k⟩:=P;rw[c]at s;have mem:=O4 c;have u:k<hs.length:=R8.mp (L.perm.mem_iff.mp (J3.mpr ⟨_,mem,rfl⟩));have O:hs[k]?=some h:=by
    have:hs.getD k 0=h:=by simpa using s
    rw[E6 u,<-this];simp[u]
   obtain⟨n,a,b⟩:=L.pr j k h (zI mem).2 O;exact⟨n,by rw[w,c];exact a,λm A=>C _ (rX m) (b m A)⟩
end L2
namespace L2
open PySem PySem.SetTable PySem.SeqAt
structure TK(prog:K3) (w:P4) (G:Type) where
 is:K0->G->s0->Prop
 hash:G->Int
 room:L6->Prop
 pyHash:∀{A:L6} {E:s0->E3->Prop} {s:E3} {x:G} {v:s0} {Q:Int->E3->Prop},room A->is s.heap x v->(∀t,s.toks<=t->Q (hash x) { s with toks:=t })->H0 (M8 prog w) A (PySem.pyHash v) Q E s
 eqB:∀{A:L6} {s:E3} {x y:G} {v u:s0},room A->is s.heap x v->is s.heap y u->∃b:Bool,(b=true↔x=y)/\EqAt A s v u b
 quiet:∀{A:L6} {E:s0->E3->Prop} {s:E3} {x:G} {v:s0} {Q:Bool->E3->Prop},room A->is s.heap x v->Q true s->H0 (M8 prog w) A (eqIsQuiet 8 v) Q E s
 noCls:∀{A:L6} {E:s0->E3->Prop} {s:E3} {x:G} {v:s0} {Q:Bool->E3->Prop},room A->is s.heap x v->Q false s->H0 (M8 prog w) A (ofAClassStatement 8 v) Q E s
 byV:∀{A:L6} {E:s0->E3->Prop} {s:E3} {x:G} {v:s0} {Q:Bool->E3->Prop},room A->is s.heap x v->(∀b,Q b s)->H0 (M8 prog w) A (hashByValue 8 v) Q E s
 ref:∀{h:K0} {x:G} {v:s0},is h x v->∃a,v=.ref a
variable{prog:K3}{w:P4}{G:Type}{κ:TK prog w G}{A:L6}{E:s0->E3->Prop}{s:E3}
structure Els(κ:TK prog w G) (h:K0) (es:Array (Int×s0)) (zs:List G):Prop where
 len:es.size=zs.length
 at_:∀(i:Nat) z,zs[i]?=some z->∃v,es[i]?=some (κ.hash z,v)/\κ.is h z v
def cV(a:Array (Int×s0)):List Int:=a.toList.map (·.1)
theorem Els.of{h:K0}{f:Array (Int×s0)}{a:List G}(L:Els κ h f a){i:Nat}{e:Int×s0}(g:f[i]?=some e):∃z,a[i]?=some z/\e.1=κ.hash z/\κ.is h z e.2:=by
 have c:i<a.length:=by rw[<-L.len];exact(O3.mp g).1
 obtain⟨v,b,q⟩:=L.at_ i a[i] (E6 c);rw[g]at b;cases b;exact⟨_,E6 c,rfl,q⟩
theorem C4{x:G}{v:s0}(hr:κ.room A)(j:κ.is s.heap x v){Q:Bool->E3->Prop}(h:Q false s):∀(l:List s0),(∀u∈l,∃y,κ.is s.heap y u)->H0 (M8 prog w) A (searchCouldBeSeen v l) Q E s:=by
 intro l m;unfold searchCouldBeSeen;refine o0 ?_;refine af1 _ (λrest b g=>g=s/\b=(none,())/\∀u∈rest,∃y,κ.is s.heap y u) _ ?_ ?_ _ _ ⟨rfl,rfl,m⟩
 ·rintro u rest b g ⟨rfl,rfl,f⟩;obtain⟨y,i⟩:=f u (.head _);obtain⟨a,rfl⟩:=κ.ref j;obtain⟨c,rfl⟩:=κ.ref i;have e:∀u∈rest,∃y,κ.is g.heap y u:=λu n=>f u (.tail _ n);dsimp only
  split
  ·exact E1 ⟨rfl,rfl,e⟩
  ·refine o0 (κ.quiet hr j ?_);simp only[aa4,E7,if_false];refine o0 (κ.quiet hr i ?_);simp only[aa4,E7,if_false];refine o0 (κ.noCls hr j ?_);simp only[E7,if_false];refine o0 (κ.noCls hr i ?_);simp only[E7,if_false];exact E1 ⟨rfl,rfl,e⟩
 ·rintro b g ⟨rfl,rfl,_⟩;exact E1 h
theorem BV{a:E9}{o:Obj}{C:Array (Int×s0)}{ep:Nat}{t:N3}{B:List G}{x:G}{v:s0}{n0:Nat}(hr:κ.room A)(hx:κ.is s.heap x v)(ho:s.heap.get? a=some o)(hd:o.data=.set C ep t)(L:Els κ s.heap C B)(T:TB t (cV C))
  (f0:¬ Occ t.place (pth t.mask (κ.hash x) n0).j) (f1:∀m,m<n0->Occ t.place (pth t.mask (κ.hash x) m).j) {Q:SetFound->E3->Prop} (hy:x∈B->∀i,Q (.there i) s) (hn:x∉B->Q (.free (pth t.mask (κ.hash x) n0).j false) s) :
  ∀F n h,h.getD (t.probeStart (κ.hash x))=pth t.mask (κ.hash x) n->n<=n0->n0-n<F->n0<10*turns t.mask->(∀l,l<n->∀i,i<t.place.size->t.place.getD i 0=(pth t.mask (κ.hash x) l).j->B[i]?≠some x)->H0 (M8 prog w) A (an0 a v (κ.hash x) true F h) Q E s:=by
 have j:(cV C).length=C.size:=by simp[cV]
 have fit:t.fits C.size=true:=by
  unfold N3.fits fill;rw[T.dm,T.sz,j];have:=T.few;rw[T.sz,j]at this;simpa using this
 have gw:t.gaveWay=false:=by
  obtain⟨k,k3,S⟩:=T.pw;unfold gaveWay;obtain⟨m,rfl⟩:∃m,k=m+1:=⟨k-1,by lia⟩;rw[ai9]at S;have:t.mask % 2=1:=by lia
  rw[this];rfl
 have J:∀{i k},i<t.place.size->k<t.place.size->t.place.getD i 0=t.place.getD k 0->i=k:=λ{i k} M S e=>by
  rcases ai1 i k with q|q|q
  ·have:=T.up i k q S;lia
  ·exact q
  ·have:=T.up k i q M;lia
 intro F
 induction F with
 |zero=>intro n h _ _ h3;lia
 |succ F ih =>
  intro n h e h2 h3 h4 h5;unfold an0;refine o0 (ab8 ho hd fit ?_);dsimp only;rw[gw];simp only[E7,if_false];unfold N3.probe;rw[e];obtain⟨H,N⟩:∃H:Nat->Int,H=λi=>(C[i]?.map (·.1)).getD 0:=⟨_,rfl⟩;obtain⟨m,m1,m2,m3,m4⟩:=pq T f0 f1 (ha:=H) (10*turns t.mask) n h2 (by lia);have a0:∀(i:Nat) z,B[i]?=some z->H i=κ.hash z:=λi z R=>by
   obtain⟨u,g,_⟩:=L.at_ i z R;rw[N];simp[g]
  have skip:∀l,l<m->∀i,i<t.place.size->t.place.getD i 0=(pth t.mask (κ.hash x) l).j->B[i]?≠some x:=λl hl i M Z R=>by
   rcases S3 l n with q|q
   ·exact h5 l q i M Z R
   ·obtain⟨k,Y,k2,k3⟩:=m3 l q hl;obtain rfl:=J M Y (Z.trans k2.symm);exact k3 (a0 _ _ R)
  rcases m4 with⟨rfl,em⟩|⟨a3,i,i1,i2,i3,em⟩
  ·have P:∀f:Nat->Int,f=H->probe.go t f (κ.hash x) (10*turns t.mask) (pth t.mask (κ.hash x) n)=probe.go t H (κ.hash x) (10*turns t.mask) (pth t.mask (κ.hash x) n):=λf hf=>by rw[hf]
   rw[P _ ?_,em]
   rotate_left
   ·rw[N];rfl
   dsimp only;refine E1 (hn λR=>?_);obtain⟨i,M⟩:=ad7.mp R;have U:i<t.place.size:=by rw[T.sz,j,L.len];exact(J8.mp M).1
   obtain⟨u,g,_⟩:=L.at_ i x M;obtain⟨nn,a1,a2⟩:=T.pr i (κ.hash x) (by rw[cV,K8,T0,g];rfl);have lt:nn<m:=by
    rcases ai1 nn m with q|q|q
    ·exact q
    ·subst q;exact absurd ⟨i,U,a1.symm⟩ f0
    ·exact absurd (a2 m q) f0
   exact skip nn lt i U a1.symm M
  ·have P:∀f:Nat->Int,f=H->probe.go t f (κ.hash x) (10*turns t.mask) (pth t.mask (κ.hash x) n)=probe.go t H (κ.hash x) (10*turns t.mask) (pth t.mask (κ.hash x) n):=λf hf=>by rw[hf]
   rw[P _ ?_,em]
   rotate_left
   ·rw[N];rfl
   dsimp only;have iz:i<B.length:=by rw[<-L.len,<-j,<-T.sz];exact i1
   obtain⟨u,gu,hu⟩:=L.at_ i B[i] (E6 iz);have I:H0 (M8 prog w) A (do
     let some (_,y):=C[i]?|ao5 "internal:set-entry"
     let p <-ak2 [y] (eqBool y v)
     let(es',_,t') <-setState a
     if true&&p then return .there none
     let some same:=t'.sameMemory t.moves t.mask|ao5 "set.changed-during-lookup:is-the-new-block-at-the-old-address"
     let O <-match (if same then t'.slot (pth t.mask (κ.hash x) m).j else .empty)with
      |.live X=>match es'[X]? with
       |some (_,y')=>do ae6 (if <-isSame y' y then some X else none)
       |none=>ae6 none
      |_=>ae6 none
     match O with
     |none=>rule "set.search.anew";an0 a v (κ.hash x) true F none
     |some X=>if p then return .there (some X)else an0 a v (κ.hash x) true F (some (pth t.mask (κ.hash x) (m+1)))) Q E s:=by
    rw[gu];dsimp only;obtain⟨b,hb,eq⟩:=κ.eqB hr hu hx;refine o0 (O5 (eq prog w _ _ ?_));refine o0 (ab8 ho hd fit ?_);dsimp only;cases b with
    |true =>
     have:B[i]=x:=hb.mp rfl;exact E1 (hy (this▸Q0 iz) _)
    |false =>
     have ne:B[i]≠x:=λz=>by have:=hb.mpr z;cases this
     simp only[aa9,E7,if_false];rw[show t.sameMemory t.moves t.mask=some true by simp[sameMemory]];dsimp only;rw[m5 T.up i1 i2];simp only[if_true];rw[gu];dsimp only;obtain⟨c,rfl⟩:=κ.ref hu;refine o0 (wpAny_isSame_ref_self (o0 (E1 ?_)));simp only[if_true];refine ih (m+1) _ rfl a3 (by lia) h4 λl hl k Y k2=>?_;rcases S3 l m with q|q
     ·exact skip l q k Y k2
     ·obtain rfl:l=m:=by lia
      obtain rfl:=J Y i1 (k2.trans i2.symm);rw[E6 iz];intro z;exact ne (Q4 z)
   by_cases led:t.led=true
   ·rw[led];simp only[aa4,E7,if_false];exact I
   ·rw[show t.led=false by simpa using led];simp only[am2,if_true];refine o0 (C4 hr hx ?_ _ λu hu=>?_)
    ·simp only[E7,if_false];exact I
    ·obtain⟨e,Z,rfl⟩:=J3.mp hu;have a4:e∈C:=(Array.mem_filter.mp (Array.mem_def.mpr Z)).1;obtain⟨k,S,ek⟩:=Array.mem_iff_getElem.mp a4;obtain⟨z,_,_,q⟩:=L.of (i:=k) (e:=e) (by rw[P0 S,ek]);exact⟨z,q⟩
variable{prog:K3}{w:P4}{G:Type}{κ:TK prog w G}{A:L6}{E:s0->E3->Prop}{s:E3}
structure DO(κ:TK prog w G) (h:K0) (a:E9) (o:Obj) (es:Array (Int×s0)) (ep:Nat) (t:N3) (zs:List G):Prop where
 get:h.get? a=some o
 ex:o.ExactSet
 data:o.data=.set es ep t
 el:Els κ h es zs
 nd:zs.Nodup
 tb:TB t (cV es)
 led:t.led=!w.params.followText "set-order"
 roomy:es.size*5<t.mask*3
 small:t.mask<=7∨t.mask<=8*es.size
def ir(κ:TK prog w G)(h:K0)(a:E9)(xs:List G):Prop:=∃o e c t b,DO κ h a o e c t b/\b.Perm xs
theorem Els.keep{h h':K0}{b:Array (Int×s0)}{a:List G}(L:Els κ h b a)(k:∀z v,κ.is h z v->κ.is h' z v):Els κ h' b a:=⟨L.len,λi z c=>by obtain⟨v,g,q⟩:=L.at_ i z c;exact⟨v,g,k z v q⟩⟩
theorem ir.mono{h h':K0}{a:E9}{xs:List G}(S:ir κ h a xs)(k:∀o,h.get? a=some o->h'.get? a=some o)(k2:∀z v,κ.is h z v->κ.is h' z v):ir κ h' a xs:=by
 obtain⟨o,e,b,t,c,q,p⟩:=S;exact⟨o,e,b,t,c,⟨k _ q.get,q.ex,q.data,q.el.keep k2,q.nd,q.tb,q.led,q.roomy,q.small⟩,p⟩
theorem tq{h:K0}{b:Array (Int×s0)}{e:List G}{x:G}{v:s0}{p:Nat}(L:Els κ h b e)(n:κ.is h x v)(g:p<=e.length):Els κ h (insertAt b p (κ.hash x,v)) (e.take p++x::e.drop p):=by
 have lt:(b.toList.take p).length=p:=by rw[P6,K4,L.len];lia
 have f:(e.take p).length=p:=by rw[P6];lia
 refine⟨by rw[gc _ _ _ (by rw[L.len];exact g),E8,F4,f,aj2,L.len];lia,λi z a=>?_⟩;have l:(insertAt b p (κ.hash x,v))[i]?=(b.toList.take p++(κ.hash x,v)::b.toList.drop p)[i]?:=by rw[<-iS,T0]
 rw[l];rw[ae5,f]at a;rw[ae5,lt]
 by_cases c:i<p
 ·rw[if_pos c,S6 c]at a;rw[if_pos c,S6 c,T0];exact L.at_ i z a
 ·rw[if_neg c]at a ⊢
  by_cases o:i=p
  ·rw[o,an7,V4]at a ⊢;cases a;exact⟨v,rfl,n⟩
  ·obtain⟨m,j⟩:∃m,i-p=m+1:=⟨i-p-1,by lia⟩;rw[j,P9,ad5]at a ⊢;rw[T0];exact L.at_ _ z a
theorem TB.plain{t:N3}{hs:List Int}(T:TB t hs)(b:Bool):TB { t with plain:=b } hs:=⟨T.sz,T.up,T.le,T.dm,T.pw,T.few,T.pr⟩
theorem TB.fit{t:N3}{b:Array (Int×s0)}(T:TB t (cV b)):t.fits b.size=true:=by
 have a:(cV b).length=b.size:=by simp[cV]
 unfold N3.fits fill;rw[T.dm,T.sz,a];have:=T.few;rw[T.sz,a]at this;simpa using this
theorem sU{h:K0}{a:E9}{o:Obj}{f:Array (Int×s0)}{c:Nat}{t:N3}(g:h.get? a=some o)(e:o.data=.set f c t)(b:Array (Int×s0))(t':N3):
  (h.update a (af9 b t')).get? a=some { o with data:=.set b (c+1) t' }:=by
 have:=O7 (af9 b t') g (by rw[aq5 b t' e];rfl);rw[aq5 b t' e]at this;exact this
theorem pF{a:Array (Int×s0)}:∀{l:List Nat},(∀k∈l,k<a.size)->(l.filterMap λk=>a[k]?)=l.map λk=>a.getD k (0,.none)
 |[],_=>rfl
 |k::l,h=>by
  have b:=h k (.head _);rw[N8,P0 b,K7,pF λj c=>h j (.tail _ c)];simp[ag0,b]
theorem oW{l:List G}{k:Nat}(h:k<l.length)(d:G):l[k]?=some (l.getD k d):=by rw[List.getD_eq_getElem?_getD,E6 h];rfl
theorem kW(l:List G)(d:G):(T6 l.length).map (λk=>l.getD k d)=l:=by
 refine ae2 λi=>?_;rw[K8];rcases S3 i l.length with q|q
 ·rw[List.getElem?_range q,oW q d];rfl
 ·rw[P8 (by rw[ai2];exact q),P8 q];rfl
theorem Ed{a:E9}{xs:List G}{x:G}{v:s0}{Q:Bool->E3->Prop}(hr:κ.room A)(U:κ.is s.heap x v)(hS:ir κ s.heap a xs)(a8:xs.length<1000)(kp:∀h' z v,O6 a s.heap h'->κ.is s.heap z v->κ.is h' z v)
  (h:∀b h',O6 a s.heap h'->(x∈xs->ir κ h' a xs)->(x∉xs->ir κ h' a (xs++[x]))->Q b { s with heap:=h' }):H0 (M8 prog w) A (an5 a v (κ.hash x)) Q E s:=by
 obtain⟨o,f,ep,t,m,q,pm⟩:=hS;have L:(cV f).length=f.size:=by simp[cV]
 have lz:f.size=xs.length:=by rw[q.el.len,pm.length_eq]
 obtain⟨n0,n1,f0,f1⟩:=q.tb.free (κ.hash x);have hm:t.mask<=8000:=by have:=q.small;lia
 obtain⟨r,rfl⟩:=κ.ref U;have a2:s={ s with heap:=s.heap }:=by cases s;rfl
 unfold an5 setAddHashedIn;refine O5 (o0 (ab8 q.get q.data q.tb.fit ?_));dsimp only;rw[show byScan (.ref r) f=false by unfold byScan;rfl];simp only[E7,if_false];unfold setSearch;refine o0 (BV hr U q.get q.data q.el q.tb f0 f1 (λP i=>?_) (λP=>?_) 100000 0 none rfl (O2 _) (by lia) (by unfold turns;lia) (λl hl=>by lia))
 ·refine E1 ?_;rw[a2];exact h _ s.heap (O6.refl a s.heap) (λ_=>⟨o,f,ep,t,m,q,pm⟩) λhn=>absurd (pm.mem_iff.mp P) hn
 ·have hn:x∉xs:=λz=>P (pm.mem_iff.mpr z);have fl:t.place.size+1<=t.mask:=by
   have:=q.roomy;have:=q.tb.sz;obtain⟨k,k3,M⟩:=q.tb.pw;have:2 ^ 3<=2 ^ k:=Nat.pow_le_pow_right (by decide) k3
   lia
  obtain⟨p,hp,e2,S,l1,_,m1,z1⟩:=q.tb.put f0 f1 fl;rw[L]at hp;dsimp only;refine o0 (ab8 q.get q.data q.tb.fit ?_);dsimp only;generalize ht:t.put (pth t.mask (κ.hash x) n0).j=tp at *
  obtain⟨t1,j⟩:=tp;dsimp only at e2 S l1 m1 z1 ⊢;subst e2;have pz:j<=m.length:=by rw[<-q.el.len];exact hp
  have a5:cV (insertAt f j (κ.hash x,.ref r))=(cV f).take j++κ.hash x::(cV f).drop j:=by unfold cV;rw[iS];simp[List.map_take,List.map_drop]
  have N:(insertAt f j (κ.hash x,.ref r)).size=f.size+1:=gc _ _ _ hp;have T:(m.take j++x::m.drop j).Nodup:=by
   rw[List.perm_middle.nodup_iff,List.take_append_drop,ag5];exact⟨P,q.nd⟩
  have Y:(m.take j++x::m.drop j).Perm (xs++[x]):=by
   refine List.perm_middle.trans ?_;rw[List.take_append_drop];exact(List.Perm.cons _ pm).trans (List.perm_append_singleton _ _).symm
  have go:∀B:N3,TB B (cV (insertAt f j (κ.hash x,.ref r)))->B.led=t.led->B.mask=t.mask->B.place.size=t.place.size+1->H0 (M8 prog w) A (do
     storeSet a (insertAt f j (κ.hash x,.ref r)) B
     if !false&&B.tooFull then setRelay a (grown (f.size+1))
     return true) Q E s:=by
   intro B T2 ld mk a0;refine o0 (ah9 q.get q.data ?_ (ai0 (by unfold ad8;lia)));have H:=sU q.get q.data (insertAt f j (κ.hash x,.ref r)) B;have J:=U5 s.heap a (af9 (insertAt f j (κ.hash x,.ref r)) B);generalize a9:s.heap.update a (af9 (insertAt f j (κ.hash x,.ref r)) B)=h1 at *
   have C:Els κ h1 (insertAt f j (κ.hash x,.ref r)) (m.take j++x::m.drop j):=(tq q.el U pz).keep λz v P=>kp _ z v J P;have tf:B.tooFull=decide ((f.size+1)*5>=t.mask*3):=by
    unfold tooFull fill;rw[T2.dm,a0,q.tb.sz,L,mk];simp
   by_cases c:(f.size+1)*5>=t.mask*3
   ·rw[tf,decide_eq_true c];simp only[am2,V5,if_true];refine o0 ?_;unfold setRelay;refine o0 (ab8 (s:={ s with heap:=h1 }) H rfl T2.fit ?_);dsimp only;have gr:grown (f.size+1)=(f.size+1)*4:=by unfold grown;rw[if_neg (by lia)]
    rw[gr];obtain⟨e,e3,ee,el,eb⟩:=qp (n:=(f.size+1)*4) (by lia);obtain⟨t3,g,er,a3,_,X,O,sz3,T3⟩:=yf (t:=B) (hs:=cV (insertAt f j (κ.hash x,.ref r))) (wanted:=(f.size+1)*4) (by simp only[cV,E4,K4];rw[N];lia) (by lia) (by lia);have ls:(cV (insertAt f j (κ.hash x,.ref r))).length=f.size+1:=by simp[cV,N]
    rw[ls]at O sz3;rw[if_neg (by rw[ee,ak4];lia)];have ea:(insertAt f j (κ.hash x,.ref r)).map (·.1)=(cV (insertAt f j (κ.hash x,.ref r))).toArray:=by apply Array.toList_inj.mp;simp[cV]
    rw[ea,er];have inr:∀k∈g.toList,k<(insertAt f j (κ.hash x,.ref r)).size:=λk M=>by rw[N];exact R8.mp (O.mem_iff.mp M)
    have eo:(g.filterMap λk=>(insertAt f j (κ.hash x,.ref r))[k]?).toList=g.toList.map λk=>(insertAt f j (κ.hash x,.ref r)).getD k (0,.none):=by
     rw[Array.toList_filterMap,pF inr]
    generalize a1:(g.filterMap λk=>(insertAt f j (κ.hash x,.ref r))[k]?)=I at *
    have z2:I.size=f.size+1:=by rw[<-K4,eo,E4,O.length_eq,ai2]
    refine o0 ?_;show H0 _ _ (do
     let R:=g.filterMap λk=>(insertAt f j (κ.hash x,.ref r))[k]?
     if R.size != (insertAt f j (κ.hash x,.ref r)).size then ao5 "internal:set-table-lost-an-element"
     ae6 (R,t3)) _ _ _
    dsimp only;rw[a1,if_neg (by rw[z2,N];simp)];refine E1 ?_;dsimp only;refine ah9 H rfl ?_ (ai0 (by unfold ad8;lia));have a4:=sU (h:=h1) H rfl I t3;refine E1 (h _ _ (J.trans (U5 _ a _)) (λz=>absurd z hn) λ_=>⟨_,I,_,t3,g.toList.map λk=>(m.take j++x::m.drop j).getD k x,⟨a4,q.ex,rfl,?_,?_,?_,?_,?_,?_⟩,?_⟩)
    ·refine⟨by rw[z2,E4,O.length_eq,ai2],λi z u=>?_⟩;rw[K8]at u;cases c2:g.toList[i]? with
     |none=>rw[c2]at u;cases u
     |some k =>
      rw[c2]at u;have M:=inr k (O4 c2);have Z:k<(m.take j++x::m.drop j).length:=by rw[<-C.len];exact M
      obtain⟨v2,g2,q2⟩:=C.at_ k z (by rw[oW Z x];exact u);refine⟨v2,?_,kp _ z v2 (J.trans (U5 _ a _)) ?_⟩
      ·rw[<-T0,eo,K8,c2];simp[Q8,g2]
      ·obtain⟨v3,g3,q3⟩:=(tq q.el U pz).at_ k z (by rw[oW Z x];exact u);rw[g2]at g3;cases g3;exact q3
    ·refine((O.map λk=>(m.take j++x::m.drop j).getD k x).nodup_iff).mpr ?_;rw[<-N,C.len,kW];exact T
    ·have:cV I=g.toList.map λk=>(cV (insertAt f j (κ.hash x,.ref r))).getD k 0:=by
      unfold cV;rw[eo,O9];refine W1 λk M=>?_;have M:=inr k M;simp[ag0,M,List.getD]
     rw[this];exact T3
    ·rw[a3,ld];exact q.led
    ·have:=X;rw[ee]at this;rw[z2];lia
    ·right;have:=X;rw[ee]at this;rw[z2];rcases eb with eb|eb<;>lia
    ·refine(O.map _).trans ?_;rw[<-N,C.len,kW];exact Y
   ·rw[tf,decide_eq_false c];simp only[am2,aa9,E7,if_false];refine E1 (h _ _ J (λz=>absurd z hn) λ_=>⟨_,_,_,B,_,⟨H,q.ex,rfl,C,T,T2,by rw[ld];exact q.led,by rw[N,mk];lia,?_⟩,Y⟩);rw[mk,N];have:=q.small;lia
  rw[<-a5]at S
  by_cases pl:t1.plain=true
  ·rw[if_pos pl];refine o0 (κ.byV hr U λb=>?_);cases b with
   |true=>simp only[if_true];exact go t1 S l1 m1 z1
   |false=>simp only[E7,if_false];exact go _ (S.plain false) l1 m1 z1
  ·rw[if_neg pl];refine o0 (E1 ?_);simp only[if_true];exact go t1 S l1 m1 z1
end L2
namespace L2
open PySem PySem.Spec PyProof.Rows PySem.SeqAt
inductive KD where
 |int (i:Int)|str (x:Str)|tup (ks:List KD)
 deriving Inhabited
def KAt(h:K0):Nat->KD->s0->Prop
 |_,.int i,v=>∃t,v=.int i t
 |_,.str x,v=>∃t,v=.str x t
 |0,.tup _,_=>False
 |n+1,.tup c,v=>∃(a:E9) (b:Array s0),v=.ref a/\an4 h a b/\b.size=c.length/\∀(i:Nat) d u,c[i]?=some d->b[i]?=some u->KAt h n d u
def hK(w:P4):Nat->KD->Int
 |_,.int i=>hashInt i
 |_,.str x=>hashStr w x
 |0,.tup _=>0
 |n+1,.tup a=>ap5 (S1 (a.map (hK w n)))
theorem uv{h:K0}{n:Nat}{i:Int}{v:s0}:KAt h n (.int i) v↔∃t,v=.int i t:=by cases n<;>exact .rfl
theorem tY{h:K0}{n:Nat}{i:Str}{v:s0}:KAt h n (.str i) v↔∃t,v=.str i t:=by cases n<;>exact .rfl
theorem xi{h h':K0}{a:E9}{b:Array s0}(t:an4 h a b)(k:∀o,o.cls=.type "tuple"->h.get? a=some o->h'.get? a=some o):an4 h' a b :=
 let⟨o,f,c,e⟩:=t
 ⟨o,k _ c f,c,e⟩
theorem KAt.upT{h h':K0}(k:∀b xs,an4 h b xs->an4 h' b xs):∀{n:Nat}{d:KD}{v:s0},KAt h n d v->KAt h' n d v:=by
 intro n
 induction n with
 |zero=>intro d v q;cases d<;>exact q
 |succ n ih =>
  intro d v q;cases d with
  |int _=>exact q
  |str _=>exact q
  |tup j =>
   obtain⟨a,c,e,t,z,r⟩:=q;exact⟨a,c,e,k a _ t,z,λi d u f g=>ih (r i d u f g)⟩
theorem KAt.up{h h':K0}(k:∀b o,o.cls=.type "tuple"->h.get? b=some o->h'.get? b=some o){n:Nat}{d:KD}{v:s0}(q:KAt h n d v):KAt h' n d v:=q.upT λb a t=>xi t (k b)
theorem KAt.same{h:K0}:∀(n:Nat) {d e:KD}{v:s0},KAt h n d v->KAt h n e v->d=e:=by
 intro n
 induction n with
 |zero =>
  intro d e v h1 h2;cases d with
  |int i=>cases e with
   |int j=>obtain⟨_,rfl⟩:=h1;obtain⟨_,z⟩:=h2;cases z;rfl
   |str j=>obtain⟨_,rfl⟩:=h1;obtain⟨_,z⟩:=h2;cases z
   |tup _=>exact h2.elim
  |str i=>cases e with
   |int j=>obtain⟨_,rfl⟩:=h1;obtain⟨_,z⟩:=h2;cases z
   |str j=>obtain⟨_,rfl⟩:=h1;obtain⟨_,z⟩:=h2;cases z;rfl
   |tup _=>exact h2.elim
  |tup _=>exact h1.elim
 |succ n ih =>
  intro d e v h1 h2;cases d with
  |int i=>cases e with
   |int j=>obtain⟨_,rfl⟩:=h1;obtain⟨_,z⟩:=h2;cases z;rfl
   |str j=>obtain⟨_,rfl⟩:=h1;obtain⟨_,z⟩:=h2;cases z
   |tup _=>obtain⟨_,rfl⟩:=h1;obtain⟨_,_,z,_⟩:=h2;cases z
  |str i=>cases e with
   |int j=>obtain⟨_,rfl⟩:=h1;obtain⟨_,z⟩:=h2;cases z
   |str j=>obtain⟨_,rfl⟩:=h1;obtain⟨_,z⟩:=h2;cases z;rfl
   |tup _=>obtain⟨_,rfl⟩:=h1;obtain⟨_,_,z,_⟩:=h2;cases z
  |tup s=>cases e with
   |int j=>obtain⟨_,rfl⟩:=h2;obtain⟨_,_,z,_⟩:=h1;cases z
   |str j=>obtain⟨_,rfl⟩:=h2;obtain⟨_,_,z,_⟩:=h1;cases z
   |tup t =>
    obtain⟨C,f,x,⟨o,A,J,c,w⟩,z,r⟩:=h1;obtain⟨H,m,p,⟨I,b,B,G,a⟩,E,u⟩:=h2;subst x;cases p;rw[A]at b;cases b;rw[w]at a;cases a;congr 1;refine ae2 λi=>?_;rcases S3 i s.length with q|q
    ·have g:i<t.length:=by lia
     rw[E6 q,E6 g];have l:i<f.size:=by lia
     exact congrArg some (ih (r i _ _ (E6 q) (P0 l)) (u i _ _ (E6 g) (P0 l)))
    ·rw[P8 q,P8 (by lia)]
def drK:Nat->KD->Nat
 |_,.int _=>1
 |_,.str _=>1
 |0,.tup _=>0
 |n+1,.tup a=>(a.map (drK n)).sum+1
section
variable{prog:K3}{w:P4}{A:L6}{E:s0->E3->Prop}{s:E3}
theorem KAt.eq:∀(n:Nat) {A:L6}{d e:KD}{v u:s0},A.units+n<ai7->KAt s.heap n d v->KAt s.heap n e u->∃b:Bool,(b=true↔d=e)/\EqAt A s v u b:=by
 intro n
 induction n with
 |zero =>
  intro A d e v u hu q1 q2;cases d with
  |tup _=>exact q1.elim
  |int i=>obtain⟨t,rfl⟩:=q1;cases e with
   |tup _=>exact q2.elim
   |int j=>obtain⟨g,rfl⟩:=q2;exact⟨i==j,by simp,EqAt.int_int _ _ _ _⟩
   |str j=>obtain⟨g,rfl⟩:=q2;exact⟨false,by simp,EqAt.int_str _ _ _ _⟩
  |str i=>obtain⟨t,rfl⟩:=q1;cases e with
   |tup _=>exact q2.elim
   |int j=>obtain⟨g,rfl⟩:=q2;exact⟨false,by simp,EqAt.str_int _ _ _ _⟩
   |str j=>obtain⟨g,rfl⟩:=q2;exact⟨i==j,by simp,EqAt.str_str _ _ _ _⟩
 |succ n ih =>
  intro A d e v u hu q1 q2;cases d with
  |int i=>obtain⟨t,rfl⟩:=q1;cases e with
   |int j=>obtain⟨g,rfl⟩:=q2;exact⟨i==j,by simp,EqAt.int_int _ _ _ _⟩
   |str j=>obtain⟨g,rfl⟩:=q2;exact⟨false,by simp,EqAt.int_str _ _ _ _⟩
   |tup _=>obtain⟨a,c,rfl,t,_⟩:=q2;exact⟨false,by simp,EqAt.int_tuple _ _ t (by lia)⟩
  |str i=>obtain⟨t,rfl⟩:=q1;cases e with
   |int j=>obtain⟨g,rfl⟩:=q2;exact⟨false,by simp,EqAt.str_int _ _ _ _⟩
   |str j=>obtain⟨g,rfl⟩:=q2;exact⟨i==j,by simp,EqAt.str_str _ _ _ _⟩
   |tup _=>obtain⟨a,c,rfl,t,_⟩:=q2;exact⟨false,by simp,EqAt.str_tuple _ _ t (by lia)⟩
  |tup p =>
   obtain⟨a,c,rfl,o,M,I⟩:=id q1;cases e with
   |int j=>obtain⟨g,rfl⟩:=q2;exact⟨false,by simp,EqAt.tuple_int _ _ o (by lia)⟩
   |str j=>obtain⟨g,rfl⟩:=q2;exact⟨false,by simp,EqAt.tuple_str _ _ o (by lia)⟩
   |tup C =>
    obtain⟨b,f,rfl,J,L,E⟩:=id q2
    by_cases w:a=b
    ·subst w;exact⟨true,by simp[KAt.same (n+1) q1 q2],EqAt.same _⟩
    ·have item:∀j,∃b:Bool,∀(l:j<c.size) (m:j<f.size),(b=true↔p[j]?=C[j]?)/\EqAt A.in1 s c[j] f[j] b:=λj=>by
      by_cases l:j<c.size
      ·by_cases m:j<f.size
       ·obtain⟨b,H,G⟩:=ih (A:=A.in1) (show A.units+1+n<ai7 by lia) (I j _ _ (E6 (by lia)) (P0 l)) (E j _ _ (E6 (by lia)) (P0 m));exact⟨b,λ_ _=>⟨by rw[E6 (by lia),E6 (by lia),H];simp,G⟩⟩
       ·exact⟨true,λ_ h=>absurd h m⟩
      ·exact⟨true,λh=>absurd h l⟩
     have B:=RcAt.tuples (A:=A) (s:=s) (e:=λj=>(item j).choose) o J (by lia) λj l m=>((item j).choose_spec l m).2;refine⟨_,?_,EqAt.of_refs w B⟩;rw[F1,L4,beq_iff_eq];constructor
     ·rintro⟨l,m⟩;congr 1;refine ae2 λi=>?_;rcases S3 i p.length with q|q
      ·exact((item i).choose_spec (by lia) (by lia)).1.mp (l i (R8.mpr (by lia)))
      ·rw[P8 q,P8 (by lia)]
     ·intro z;cases z;refine⟨λi x=>?_,by lia⟩;have x:=R8.mp x;exact((item i).choose_spec (by lia) (by lia)).1.mpr rfl
theorem KAt.hash:∀(n:Nat) {A:L6}{s:E3}{E:s0->E3->Prop}{d:KD}{v:s0}{Q:Int->E3->Prop},A.units+n<ai7->KAt s.heap n d v->Q (hK w n d) { s with toks:=s.toks+drK n d }->H0 (M8 prog w) A (pyHash v) Q E s:=by
 intro n
 induction n with
 |zero =>
  intro A s E d v Q hu q h;cases d with
  |int i=>obtain⟨t,rfl⟩:=q;exact wpAny_pyHash_int h
  |str i=>obtain⟨t,rfl⟩:=q;exact wpAny_pyHash_str h
  |tup _=>exact q.elim
 |succ n ih =>
  intro A s E d v Q hu q h;cases d with
  |int i=>obtain⟨t,rfl⟩:=q;exact wpAny_pyHash_int h
  |str i=>obtain⟨t,rfl⟩:=q;exact wpAny_pyHash_str h
  |tup e =>
   obtain⟨a,f,rfl,I,z,r⟩:=q;obtain⟨o,H,M,c,L⟩:=I;have u:s.TypeIs (.ref a) "tuple":=⟨o,H,M⟩;have B:A.units<ai7:=by lia
   unfold pyHash pyHashByItsType;refine o0 (wpAny_cRoomFor_or (.inr B) ?_);refine o0 (ah0 u ae3.lookup ?_);show H0 _ _ (if(some (aj7 "tuple.__hash__")==some K2)=true then _ else _) Q E s;rw[if_neg (by rw[beq_builtin_none];exact R1)];refine o0 (ah0 u ae3.lookup ?_);show H0 _ _ (callSpecialIfBoundUnlessNone? (.ref a) "__hash__" _ >>= _) Q E s;refine o0 (wpAny_callSpecialIfBoundUnlessNone?_slot u ae3 (ae9 ae3 u F.entry_tuple_hash ?_ (F.args_tuple_hash_1 _)));show H0 _ _ (Z3 (.ref a) >>= _) _ _ s;refine o0 (wpAny_tupleItemsOf H L ?_);refine o0 ?_;rw[<-ah1];refine af1 _ (λrest (b:Array Int) G=>∃m,m<=e.length/\rest=f.toList.drop m/\b.toList=(e.take m).map (hK w n)/\G={ s with toks:=s.toks+((e.take m).map (drK n)).sum }) _ ?_ ?_ _ _ ⟨0,O2 _,rfl,rfl,rfl⟩
   ·rintro x rest b G ⟨m,J,j,p,rfl⟩;have lt:m<f.size:=by
     rcases S3 m f.size with q|q
     ·exact q
     ·rw[ad3 (by rw[K4];exact q)]at j;cases j
    rw[S0 (by rw[K4];exact lt)]at j;obtain⟨rfl,rfl⟩:=U2.inj j;have C:e[m]?=some (e[m]'(by lia)):=E6 _;refine o0 (ih (show A.in1.units+n<ai7 by show A.units+1+n<ai7;lia) (r m _ _ C (by rw[P0 lt];simp)) ?_);refine E1 ⟨m+1,by lia,rfl,?_,?_⟩
    ·rw[Array.toList_push,p,List.take_add_one,C,N4];rfl
    ·rw[List.take_add_one,C,N4,List.sum_append,<-aa3];simp
   ·rintro b G ⟨m,J,j,p,rfl⟩;have:m=e.length:=by
     rcases S3 m f.size with q|q
     ·rw[S0 (by rw[K4];exact q)]at j;cases j
     ·lia
    subst this;rw[aj3]at p ⊢;show H0 _ _ (retInt (S1 b.toList)) _ _ _;rw[p];refine wpAny_ret_mkInt ?_;show H0 _ _ (if(decide (-(2:Int) ^ 63<=S1 (e.map (hK w n)))&&decide (S1 (e.map (hK w n))<2 ^ 63))=true then _ else _) Q E _;have l:Q (ap5 (S1 (e.map (hK w n)))) { s with toks:=s.toks+((e.map (drK n)).sum+1) }:=h;rw[<-aa3]at l;unfold ap5 at l
    by_cases g:(decide (-(2:Int) ^ 63<=S1 (e.map (hK w n)))&&decide (S1 (e.map (hK w n))<2 ^ 63))=true
    ·rw[if_pos g];rw[if_pos g]at l;exact E1 l
    ·rw[if_neg g];rw[if_neg g]at l;exact o0 (ak0 (E1 l))
end
section
variable{prog:K3}{w:P4}{A:L6}{E:s0->E3->Prop}{s:E3}
theorem sD{a:E9}{b:Array s0}{Q:Option (Array s0)->E3->Prop}(t:an4 s.heap a b)(h:Q (some b) s):H0 (M8 prog w) A (aq4 (.ref a)) Q E s:=by
 obtain⟨o,f,g,c,e⟩:=t;unfold aq4;refine o0 (wpAny_load f ?_);rw[e];exact E1 h
theorem KAt.item{h:K0}{n:Nat}{c:List KD}{a:Array s0}(z:a.size=c.length)(r:∀(i:Nat) d u,c[i]?=some d->a[i]?=some u->KAt h n d u){x:s0}(e:x∈a.toList):∃k,KAt h n k x:=by
 obtain⟨i,b⟩:=ad7.mp e;rw[T0]at b;have lt:=(O3.mp b).1;exact⟨_,r i _ _ (E6 (by lia)) b⟩
theorem KAt.quiet:∀(f n:Nat) {k:KD}{v:s0}{Q:Bool->E3->Prop},n<=f->KAt s.heap n k v->Q true s->H0 (M8 prog w) A (eqIsQuiet f v) Q E s:=by
 intro f
 induction f with
 |zero =>
  intro n k v Q hn q h;obtain rfl:n=0:=by lia
  cases k with
  |int i=>obtain⟨t,rfl⟩:=q;exact E1 h
  |str i=>obtain⟨t,rfl⟩:=q;exact E1 h
  |tup _=>exact q.elim
 |succ f ih =>
  intro n k v Q hn q h;cases k with
  |int i=>obtain⟨t,rfl⟩:=uv.mp q;exact E1 h
  |str i=>obtain⟨t,rfl⟩:=tY.mp q;exact E1 h
  |tup C =>
   cases n with
   |zero=>exact q.elim
   |succ n =>
    obtain⟨a,c,rfl,g,z,r⟩:=q;have l:s.TypeIs (.ref a) "tuple":=by obtain⟨o,u,B,_⟩:=g;exact⟨o,u,B⟩
    unfold eqIsQuiet;refine o0 (ah0 l F.slot_tuple_eq.lookup ?_);show H0 _ _ (isInstance (.ref a) (.type "tuple") >>= _) _ _ s;refine o0 (wpAny_isInstance l isSubtype_tuple_tuple ?_);simp only[aa4,E7,if_false];refine o0 (sD g ?_);refine o0 ?_;show H0 _ _ (forIn c _ _) _ _ s;rw[<-ah1];refine af1 _ (λrest b e=>e=s/\b=(none,())/\∀x∈rest,x∈c.toList) _ ?_ ?_ _ _ ⟨rfl,rfl,λ_ z=>z⟩
    ·rintro x rest b e ⟨rfl,rfl,j⟩;obtain⟨k,p⟩:=KAt.item z r (j x (.head _));refine o0 (ih n (by lia) p ?_);simp only[aa4,E7,if_false];exact E1 ⟨rfl,rfl,λy m=>j y (.tail _ m)⟩
    ·rintro b e ⟨rfl,rfl,_⟩;exact E1 h
theorem KAt.noCls:∀(f n:Nat) {k:KD}{v:s0}{Q:Bool->E3->Prop},n<=f->KAt s.heap n k v->Q false s->H0 (M8 prog w) A (ofAClassStatement f v) Q E s:=by
 intro f
 induction f with
 |zero =>
  intro n k v Q hn q h;obtain rfl:n=0:=by lia
  cases k with
  |int i=>obtain⟨t,rfl⟩:=q;exact E1 h
  |str i=>obtain⟨t,rfl⟩:=q;exact E1 h
  |tup _=>exact q.elim
 |succ f ih =>
  intro n k v Q hn q h;cases k with
  |int i=>obtain⟨t,rfl⟩:=uv.mp q;exact E1 h
  |str i=>obtain⟨t,rfl⟩:=tY.mp q;exact E1 h
  |tup C =>
   cases n with
   |zero=>exact q.elim
   |succ n =>
    obtain⟨a,c,rfl,g,z,r⟩:=q;have m:s.TypeIs (.ref a) "tuple":=by obtain⟨o,u,B,_⟩:=g;exact⟨o,u,B⟩
    unfold ofAClassStatement;refine o0 (al7 m ?_);dsimp only;rw[if_pos (by rfl)];refine o0 (E1 ?_);simp only[aa4,E7,if_false];refine o0 (sD g ?_);dsimp only;refine o0 ?_;rw[<-ah1];refine af1 _ (λrest b e=>e=s/\b=(none,())/\∀x∈rest,x∈c.toList) _ ?_ ?_ _ _ ⟨rfl,rfl,λ_ z=>z⟩
    ·rintro x rest b e ⟨rfl,rfl,j⟩;obtain⟨k,p⟩:=KAt.item z r (j x (.head _));refine o0 (ih n (by lia) p ?_);simp only[E7,if_false];exact E1 ⟨rfl,rfl,λy l=>j y (.tail _ l)⟩
    ·rintro b e ⟨rfl,rfl,_⟩;exact E1 h
theorem KAt.byV:∀(f n:Nat) {k:KD}{v:s0}{Q:Bool->E3->Prop},KAt s.heap n k v->(∀b,Q b s)->H0 (M8 prog w) A (hashByValue f v) Q E s:=by
 intro f
 induction f with
 |zero =>
  intro n k v Q q h;cases k with
  |int i=>obtain⟨t,rfl⟩:=uv.mp q;exact E1 (h _)
  |str i=>obtain⟨t,rfl⟩:=tY.mp q;exact E1 (h _)
  |tup _=>cases n with
   |zero=>exact q.elim
   |succ n=>obtain⟨a,c,rfl,_⟩:=q;exact E1 (h _)
 |succ f ih =>
  intro n k v Q q h;cases k with
  |int i=>obtain⟨t,rfl⟩:=uv.mp q;exact E1 (h _)
  |str i=>obtain⟨t,rfl⟩:=tY.mp q;exact E1 (h _)
  |tup C =>
   cases n with
   |zero=>exact q.elim
   |succ n =>
    obtain⟨a,c,rfl,g,z,r⟩:=q;have m:s.TypeIs (.ref a) "tuple":=by obtain⟨o,u,B,_⟩:=g;exact⟨o,u,B⟩
    unfold hashByValue;refine o0 (ah0 m ae3.lookup ?_);dsimp only;refine o0 (sD g ?_);refine o0 ?_;show H0 _ _ (forIn c _ _) _ _ s;rw[<-ah1];refine af1 _ (λrest b e=>e=s/\b=(none,())/\∀x∈rest,x∈c.toList) _ ?_ ?_ _ _ ⟨rfl,rfl,λ_ z=>z⟩
    ·rintro x rest b e ⟨rfl,rfl,j⟩;obtain⟨k,p⟩:=KAt.item z r (j x (.head _));refine o0 (ih n p λb=>?_);cases b with
     |true =>
      simp only[aa4,E7,if_false];exact E1 ⟨rfl,rfl,λy l=>j y (.tail _ l)⟩
     |false =>
      simp only[am2,if_true];exact E1 (E1 (h _))
    ·rintro b e ⟨rfl,rfl,_⟩;exact E1 (h _)
end
def kK(h0 h:K0):Prop:=∀b o,h0.get? b=some o->h.get? b=some o
theorem KAt.kept{h0 h:K0}{n:Nat}{d:KD}{v:s0}(q:KAt h0 n d v)(k:kK h0 h):KAt h n d v:=q.up λb o _ e=>k b o e
def tK(prog:K3)(w:P4)(n:Nat)(hn:n<=8)(h0:K0)(V:s0->Prop):TK prog w (List KD) where
 is h ks v:=kK h0 h/\KAt h0 n (.tup ks) v/\V v
 hash ks:=hK w n (.tup ks)
 room A:=A.units+n<ai7
 pyHash hr c h:=KAt.hash n hr (c.2.1.kept c.1) (h _ (Nat.le_add_right _ _))
 eqB hr c hy:=by
  obtain⟨b,f,g⟩:=KAt.eq n hr (c.2.1.kept c.1) (hy.2.1.kept hy.1);exact⟨b,by rw[f];simp,g⟩
 quiet _ c h:=KAt.quiet 8 n hn (c.2.1.kept c.1) h
 noCls _ c h:=KAt.noCls 8 n hn (c.2.1.kept c.1) h
 byV _ c h:=KAt.byV 8 n (c.2.1.kept c.1) h
 ref {h x v} c:=by
  obtain⟨_,c,_⟩:=c;cases n with
  |zero=>exact c.elim
  |succ n=>obtain⟨a,_,e,_⟩:=c;exact⟨a,e⟩
end L2
namespace L2
open PySem PySem.Spec PyProof.Rows
open Classical in
def eU{a:Type}(xs:List a)(x:a):List a:=if x∈xs then xs else xs++[x]
def dJ{a:Type}(xs:List a):List a:=xs.foldl eU []
section
variable{z:Type}
theorem uF(xs:List z)(x:z):(eU xs x).length<=xs.length+1:=by unfold eU;split<;>simp
theorem nR:∀(xs a:List z),(xs.foldl eU a).length<=a.length+xs.length
 |[],_=>F3 _
 |x::xs,a=>by
  have:=nR xs (eU a x);have:=uF a x;simp only[W5,F4];lia
theorem iZ(xs:List z):(dJ xs).length<=xs.length:=by have:=nR xs [];simpa[dJ]using this
theorem vj(xs:List z)(i:Nat)(h:i<xs.length):dJ (xs.take (i+1))=eU (dJ (xs.take i)) xs[i]:=by
 rw[List.take_succ_eq_append_getElem h,dJ,List.foldl_append];rfl
end
section
variable{prog:K3}{w:P4}{A:L6}{R:ar0->E3->Prop}{I:E9}{O J:List E9}{G:Array aj5->Array aj5->Prop}{P:Nat->s0->Prop}{St:Nat->E3->Prop}
theorem DK{V:s0->Prop}{n:Nat}{hn:n<=8}{h0:K0}{xs:List (List KD)}(W:WalksS prog w A.in1 I O J G xs.length P St)(S:E9)(E:S∉O)
  (m:∀b∈S::J,h0.get? b=none) (hu:A.in1.units+n<ai7) (C:∀i v (h:i<xs.length),P i v->KAt h0 n (.tup xs[i]) v/\V v) (B:xs.length<1000) :
  ∀(k i:Nat) (s:E3),xs.length-i=k->i<=xs.length->St i s->kK h0 s.heap->ir (tK prog w n hn h0 V) s.heap S (dJ (xs.take i)) ->
   (∀s',Moved (S::J) G s s'->kK h0 s'.heap->ir (tK prog w n hn h0 V) s'.heap S (dJ xs)->R (.ok (.ret .none)) s') ->
   am0 (M8 prog w) A (.builtin "set.update.loop" ⟨[.ref S,.ref I],[]⟩) R s:=by
 have H:S∉J:=λh=>E (W.sub _ h);have f:∀b∈J,b∈S::J:=λb B=>I0 _ B;intro k
 induction k with
 |zero =>
  intro i s hk hi p hK X Y;have Z:i=xs.length:=by lia
  subst Z;refine W6 ac7 ?_;rw[ab3 V3 _];show H0 _ A.in1 (ap8 (.ref I) >>= _) _ _ s;refine o0 (W.done s _ _ p λs' l=>?_);show H0 _ A.in1 (ret K2) _ _ s';rw[aj3]at X;have a:kK h0 s'.heap:=λb o e=>l.heap b o (λq=>by rw[m b (f b q)]at e;cases e) (hK b o e);exact E1 (Y s' (l.mono f) a (X.mono (λo e=>l.heap S _ H e) λz v q=>⟨a,q.2⟩))
 |succ k ih =>
  intro i s hk hi p hK X Y;have g:i<xs.length:=by lia
  refine W6 ac7 ?_;rw[ab3 V3 _];show H0 _ A.in1 (ap8 (.ref I) >>= _) _ _ s;refine o0 (W.item i s _ _ g p λv s' hP M l=>?_);have hx:=C i v g hP;have a:kK h0 s'.heap:=λb o e=>l.heap b o (λq=>by rw[m b (f b q)]at e;cases e) (hK b o e);have a2:ir (tK prog w n hn h0 V) s'.heap S (dJ (xs.take i)):=X.mono (λo e=>l.heap S _ H e) λz v q=>⟨a,q.2⟩;show H0 _ A.in1 (ak2 [v] (setAdd S v) >>= _) _ _ s';refine o0 (O5 ?_);unfold setAdd;refine O5 ?_;refine o0 ((tK prog w n hn h0 V).pyHash (x:=xs[i]) hu ⟨a,hx⟩ λtk N=>?_);have t:(dJ (xs.take i)).length<1000:=by have:=iZ (xs.take i);rw[P6]at this;lia
  have L:∀j,O6 S s'.heap j->kK h0 j:=λj sb b o e=>by
   rw[sb.2 b λz=>by rw[z,m S (.head _)]at e;cases e];exact a b o e
  refine Ed (s:={ s' with toks:=tk }) (κ:=tK prog w n hn h0 V) hu ⟨a,hx⟩ a2 t (λj z v sb q=>⟨L j sb,q.2⟩) λb j u y1 y2=>?_;have a0:ir (tK prog w n hn h0 V) j S (dJ (xs.take (i+1))):=by
   rw[vj xs i g];unfold eU
   split
   ·rename_i c;exact y1 c
   ·rename_i c;exact y2 c
  refine E1 ⟨plainId_quiet V3 _,ih (i+1) _ (by lia) g (W.frame _ s' _ _ M N λb B o e=>?_) (L j u) a0 λa1 Q U T=>?_⟩
  ·rw[u.2 b (λh:b=S=>E (by rw[<-h];exact B))];exact e
  ·refine Y a1 (Moved.trans W.gtrans ((l.mono f).then_heap N λb o B e=>?_) Q) U T;rw[u.2 b (λh:b=S=>B (by rw[h];exact R0))];exact e
end
section
variable{prog:K3}{w:P4}{A:L6}{E:s0->E3->Prop}{s:E3}
theorem v9{V:s0->Prop}{n:Nat}{hn:n<=8}{h0 h:K0}{a:E9}(g:h.get? a=some (cD w)):ir (tK prog w n hn h0 V) h a [] :=
 ⟨_,#[],0,_,[],⟨g,⟨rfl,rfl,rfl⟩,rfl,⟨rfl,λi z b=>by simp at b⟩,.nil,⟨rfl,λi j _ c=>by simp[ai4]at c,λi e=>by simp[ai4]at e,rfl,⟨3,by lia,rfl⟩,by simp[ai4],λi h q=>by simp[cV]at q⟩,rfl,by simp[ai4],.inl (by simp[ai4])⟩,.refl _⟩
set_option maxHeartbeats 3200000 in
theorem uH{n:Nat}{hn8:n<=8}{l:E9}{a:Array s0}{xs:List (List KD)}{Q:s0->E3->Prop}
  (hh:A.handled=none) (hu:A.units+n+8<ai7) (hl:s.heap.IsList l a) (hn:a.size=xs.length) (hi:∀(i:Nat) k u,xs[i]?=some k->a[i]?=some u->KAt s.heap n (.tup k) u) (q:xs.length<1000)
  (h:∀(h':K0) (M:Nat),ir (tK prog w n hn8 s.heap (·∈a)) h' s.heap.objs.size (dJ xs)->kK s.heap h'->Q (.ref s.heap.objs.size) { s with heap:=h',toks:=M }) :
  H0 (M8 prog w) A (aq8 (.type "set") [.ref l]) Q E s:=by
 obtain⟨c,tl,a8⟩:=J6.mro;have T:=J6.made;have a3:=J6.sub;refine ad1 (ad9 ?_);show H0 _ _ (callAny (.type "set") _) _ _ _;refine E1 ⟨aa2 _ (by decide +kernel),W6 PySem.F.entry_type_call ?_⟩;rw[ag9 (ae0 "set" [.ref l] []) rfl];have h1:=J6.notType;have h2:=J6.canCreate;have b2:=PySem.F.typeCall_set_1 (.ref l)
 repeat (any_goals (first|assumption|wp_step))
 refine V8 (lu (.ref l) (E:=E) (Q₁:=λobj m=>obj=.ref s.heap.objs.size/\m={ s with heap:=s.heap.push (cD w) }) ⟨rfl,rfl⟩) λr m S=>?_;cases r with
 |error e=>exact S
 |ok fl =>
  cases fl with
  |ret obj =>
   obtain⟨rfl,rfl⟩:=S;have hS:(s.heap.push (cD w)).get? s.heap.objs.size=some (cD w):=F6 _ rfl;have hT:am9 { s with heap:=s.heap.push (cD w) } (.ref s.heap.objs.size) "set":=⟨_,hS,rfl⟩;have b0:=J6.init.lookup;have b1:=J6.init.bind (.ref s.heap.objs.size)
   repeat (any_goals (first|assumption|wp_step))
   refine V8 (U0 (R:=wants (λr j=>r=.none/\∃h' M,j={ s with heap:=h',toks:=M } /\
     ir (tK prog w n hn8 s.heap (·∈a)) h' s.heap.objs.size (dJ xs)/\kK s.heap h') E) J6.init.plain PySem.F.entry_set_init (check_set_init_1 hT ?_)) λC j f=>?_
   ·obtain⟨ol,I,G,nl,L⟩:=hl;obtain⟨a5,x,N,g⟩:=ol;simp only at G L;subst G;subst L;have J:(s.heap.push (cD w)).get? l=some { cls:=.type "list",dict:=x,data:=.seq a nl,slots:=g }:=E2 _ I;have a4:=PySem.F.sub_list_set;have a':=PySem.F.sub_list_frozenset;have b3:(M7 "list"==M7 "dict")=false:=by decide
    have B:(s.heap.push (cD w)).IsList l a:=⟨_,J,rfl,nl,rfl⟩;unfold K6.«set.__init__» noKeywords K6.Frozenset.updateFrom;generalize Z:ap9=PI
    wp_walk
    subst Z;refine W0 B ?_;refine o0 (wpAny_runValue ?_);have H:l<s.heap.objs.size:=F9 I;have P:A.in1.in1.in1.handled=none:=by simp[hh]
    have z:l≠(s.heap.push (cD w)).objs.size:=by
     rw[T4];exact K5 (R9 H)
    have Y:s.heap.objs.size∉[(s.heap.push (cD w)).objs.size,l]:=by
     rw[T4];simp only[F8,F5,Z6,or_false,not_or];exact⟨K5 (Z5 _),ad6 H⟩
    have W:=(Walks.list (prog:=prog) (w:=w) P _ l z a).toS;rw[hn]at W;have frs:∀b,s.heap.objs.size<=b->s.heap.get? b=none:=λb q=>S2 q;refine DK (V:=(·∈a)) (n:=n) (hn:=hn8) (h0:=s.heap) (xs:=xs) W s.heap.objs.size Y (λb q=>?_) (show A.units+1+1+1+n<ai7 by lia) (λi v X hv=>⟨hi i _ _ (E6 X) hv,Array.mem_of_getElem? hv⟩) q (xs.length-0) 0 _ (by lia) (O2 _) ?St0 ?hK0 ?hS0 ?hR
    case St0=>exact⟨⟨_,F6 _ rfl,rfl,rfl⟩,(B.push _)⟩
    ·rcases F8.mp q with rfl|q
     ·exact frs _ (F3 _)
     ·rw[F5.mp q,T4];exact frs _ (af4 _)
    case hK0=>exact λb o e=>E2 _ (E2 _ e)
    case hS0=>exact v9 (E2 _ hS)
    case hR =>
     intro s' U a1 p;obtain⟨h',g',d',O,a2⟩:=s';have eg:g'=s.gens:=U.gens;have ed:d'=s.drawn:=U.drawn;have eo:a2=s.os:=U.os;subst eg;subst ed;subst eo;show H0 _ _ _ _ _ _;refine E1 ?_;show H0 _ _ (ret K2) _ _ _;exact E1 ⟨rfl,h',O,rfl,p,a1⟩
   ·cases C with
    |error e=>exact f
    |ok t =>
     cases t with
     |ret r =>
      obtain⟨rfl,h',M,rfl,p,a0⟩:=f
      repeat (any_goals (first|assumption|wp_step))
      exact h _ _ p a0
     |_=>exact f.elim
  |_=>exact S.elim
end
end L2
namespace L2
open PySem PySem.Spec PyProof.Rows PySem.SeqAt
mutual
def Cm:KD->KD->Prop
 |.int _,.int _=>True
 |.str _,.str _=>True
 |.tup a,.tup b=>Cms a b
 |_,_=>False
def Cms:List KD->List KD->Prop
 |a::c,b::bs=>Cm a b/\Cms c bs
 |_,_=>True
end
end L2
namespace L2
open PySem PySem.W PySem.Calls PyProof.Rows PySem.SeqAt
end L2
namespace L2
open PySem PySem.Spec PyProof.Rows PySem.Calls PySem.SeqAt
mutual
def kd:KD->D
 |.int i=>.int i
 |.str x=>.str x
 |.tup a=>.tup (kds a)
def kds:List KD->List D
 |[]=>[]
 |k::a=>kd k::kds a
end
theorem nX:∀a,kds a=a.map kd
 |[]=>by simp[kds]
 |k::a=>by simp[kds,nX a]
mutual
theorem Au:∀{a b:KD},kd a=kd b->a=b
 |.int _,.int _,h=>by simp[kd]at h;rw[h]
 |.int _,.str _,h=>by simp[kd]at h
 |.int _,.tup _,h=>by simp[kd]at h
 |.str _,.int _,h=>by simp[kd]at h
 |.str _,.str _,h=>by simp[kd]at h;rw[h]
 |.str _,.tup _,h=>by simp[kd]at h
 |.tup _,.int _,h=>by simp[kd]at h
 |.tup _,.str _,h=>by simp[kd]at h
 |.tup a,.tup b,h=>by simp only[kd,D.tup.injEq]at h;rw[nZ h]
theorem nZ:∀{a b:List KD},kds a=kds b->a=b
 |[],[],_=>rfl
 |[],_::_,h=>by simp[kds]at h
 |_::_,[],h=>by simp[kds]at h
 |a::c,b::bs,h=>by
  simp only[kds,N0]at h;rw[Au h.1,nZ h.2]
end
def kU(a:List KD):D:=.tup (kds a)
theorem qk{a b:List KD}(h:kU a=kU b):a=b:=nZ (by simpa[kU]using h)
def dpK:Nat->KD->Prop
 |_,.int _=>True
 |_,.str _=>True
 |0,.tup _=>False
 |n+1,.tup a=>∀k∈a,dpK n k
section
variable{X:Cx}{z:List (E9×Obj)}{s:E3}{σ:St}{H:Hp}{M:DH}{K:u8}
theorem zc(I:Inv X z σ H s):∀(n:Nat) {k:KD}{v:V}{u:s0},dpK n k->Rep X.K M H (kd k) v->aH v u->KAt s.heap n k u:=by
 intro n
 induction n with
 |zero =>
  intro k v u hd r q;cases k with
  |int i=>simp only[kd,Rep]at r;subst r;exact q
  |str i=>simp only[kd,Rep]at r;subst r;exact q
  |tup _=>exact hd.elim
 |succ n ih =>
  intro k v u hd r q;cases k with
  |int i=>simp only[kd,Rep]at r;subst r;exact q
  |str i=>simp only[kd,Rep]at r;subst r;exact q
  |tup x =>
   simp only[kd,Rep]at r;obtain⟨a,w,rfl,t,e⟩:=r;cases q;obtain⟨b,c,j,p⟩:=I.tuple t.sq;refine⟨a,b.toArray,rfl,j,?_,λi d u f h=>?_⟩
   ·rw[F7,<-c.length,<-e.length,nX,E4]
   ·obtain⟨v,g,r⟩:=e.get (i:=i) (d:=kd d) (by rw[nX,K8,f];rfl);obtain⟨o,m,l⟩:=c.get g;rw[List.getElem?_toArray,m]at h;cases h;exact ih (hd d (O4 f)) r l
theorem qT(I:Inv X z σ H s){n:Nat}{b:List (List KD)}{f:List V}{a:List s0}(m:∀k∈b,dpK n (.tup k))(j:ak X.K M H (b.map kU) f)(h:az f a){i:Nat}{k:List KD}{u:s0}(c:b[i]?=some k)(e:a[i]?=some u):KAt s.heap n (.tup k) u:=by
 obtain⟨v,g,r⟩:=j.get (i:=i) (d:=kU k) (by rw[K8,c];rfl);obtain⟨p,o,l⟩:=h.get g;rw[o]at e;cases e;exact zc I n (k:=.tup k) (m k (O4 c)) (by simp only[kd];exact r) l
theorem evD{a:L7}{j:TEd}{f:DE}{R:D->DH->Prop}{Q:s0->E3->Prop}(ha:PEd X a j)(I:Inv X z σ H s)(l:SR X.K M H σ f)(hr:HR X.K M H)(q:j f M R)
  (k:∀u e v b x M1,Inv X z σ b e->aH v u->R x M1->HR X.K M1 b->Rep X.K M1 b x v->Ext M H M1 b->Q u e):H0 (M8 X.prog X.w) X.A (Z1 a X.env) Q X.xe s :=
 thn (ha z s σ H (λv b=>∃x M1,R x M1/\HR X.K M1 b/\Rep X.K M1 b x v/\Ext M H M1 b) I ⟨f,M,R,l,hr,q,λx M1 v b h i c g=>⟨x,M1,h,c,g,i⟩⟩) λu e ⟨v,b,n,m,x,M1,h,c,g,i⟩=>k u e v b x M1 n m h c g i
end
end L2
namespace L2
open PySem PySem.Spec PyProof.Rows PySem.Calls PySem.SeqAt PySem.W
open Classical in
instance decKs:DecidableEq (List KD):=λ_ _=>propDecidable _
end L2
namespace L2
open PySem PySem.Spec PyProof.Rows PySem.Calls PySem.SeqAt
end L2
namespace L2
open PySem PySem.Spec PyProof.Rows
end L2
namespace L2
open PySem PySem.Spec PyProof.Rows PySem.Calls PySem.SeqAt
end L2
namespace L2
open PySem PySem.Spec PyProof.Rows
section
variable{prog:K3}{w:P4}{A:L6}{E:s0->E3->Prop}{s:E3}
theorem r8{n:Nat}{hn8:n<=8}{l:E9}{a:Array s0}{xs:List (List KD)}{Q:s0->E3->Prop}
  (hh:A.handled=none) (hu:A.units+n+8<ai7) (hl:s.heap.IsTuple l a) (hn:a.size=xs.length) (hi:∀(i:Nat) k u,xs[i]?=some k->a[i]?=some u->KAt s.heap n (.tup k) u) (q:xs.length<1000)
  (h:∀(h':K0) (M:Nat),ir (tK prog w n hn8 s.heap (·∈a)) h' s.heap.objs.size (dJ xs)->kK s.heap h'->Q (.ref s.heap.objs.size) { s with heap:=h',toks:=M }) :
  H0 (M8 prog w) A (aq8 (.type "set") [.ref l]) Q E s:=by
 obtain⟨c,tl,a8⟩:=J6.mro;have T:=J6.made;have a3:=J6.sub;refine ad1 (ad9 ?_);show H0 _ _ (callAny (.type "set") _) _ _ _;refine E1 ⟨aa2 _ (by decide +kernel),W6 PySem.F.entry_type_call ?_⟩;rw[ag9 (ae0 "set" [.ref l] []) rfl];have h1:=J6.notType;have h2:=J6.canCreate;have b2:=PySem.F.typeCall_set_1 (.ref l)
 repeat (any_goals (first|assumption|wp_step))
 refine V8 (lu (.ref l) (E:=E) (Q₁:=λobj m=>obj=.ref s.heap.objs.size/\m={ s with heap:=s.heap.push (cD w) }) ⟨rfl,rfl⟩) λr m S=>?_;cases r with
 |error e=>exact S
 |ok fl =>
  cases fl with
  |ret obj =>
   obtain⟨rfl,rfl⟩:=S;have hS:(s.heap.push (cD w)).get? s.heap.objs.size=some (cD w):=F6 _ rfl;have hT:am9 { s with heap:=s.heap.push (cD w) } (.ref s.heap.objs.size) "set":=⟨_,hS,rfl⟩;have b0:=J6.init.lookup;have b1:=J6.init.bind (.ref s.heap.objs.size)
   repeat (any_goals (first|assumption|wp_step))
   refine V8 (U0 (R:=wants (λr j=>r=.none/\∃h' M,j={ s with heap:=h',toks:=M } /\
     ir (tK prog w n hn8 s.heap (·∈a)) h' s.heap.objs.size (dJ xs)/\kK s.heap h') E) J6.init.plain PySem.F.entry_set_init (check_set_init_1 hT ?_)) λC j f=>?_
   ·obtain⟨ol,I,G,nl,L⟩:=hl;obtain⟨a5,x,N,g⟩:=ol;simp only at G L;subst G;subst L;have J:(s.heap.push (cD w)).get? l=some { cls:=.type "tuple",dict:=x,data:=.seq a nl,slots:=g }:=E2 _ I;have a4:=PySem.F.sub_tuple_set;have a':=PySem.F.sub_tuple_frozenset;have b3:(M7 "tuple"==M7 "dict")=false:=by decide
    have B:(s.heap.push (cD w)).IsTuple l a:=⟨_,J,rfl,nl,rfl⟩;unfold K6.«set.__init__» noKeywords K6.Frozenset.updateFrom;generalize Z:ap9=PI
    wp_walk
    subst Z;refine wpAny_pyIter_tuple B ?_;refine o0 (wpAny_runValue ?_);have H:l<s.heap.objs.size:=F9 I;have P:A.in1.in1.in1.handled=none:=by simp[hh]
    have z:l≠(s.heap.push (cD w)).objs.size:=by
     rw[T4];exact K5 (R9 H)
    have Y:s.heap.objs.size∉[(s.heap.push (cD w)).objs.size,l]:=by
     rw[T4];simp only[F8,F5,Z6,or_false,not_or];exact⟨K5 (Z5 _),ad6 H⟩
    have W:=(Walks.tuple (prog:=prog) (w:=w) P _ l z a).toS;rw[hn]at W;have frs:∀b,s.heap.objs.size<=b->s.heap.get? b=none:=λb q=>S2 q;refine DK (V:=(·∈a)) (n:=n) (hn:=hn8) (h0:=s.heap) (xs:=xs) W s.heap.objs.size Y (λb q=>?_) (show A.units+1+1+1+n<ai7 by lia) (λi v X hv=>⟨hi i _ _ (E6 X) hv,Array.mem_of_getElem? hv⟩) q (xs.length-0) 0 _ (by lia) (O2 _) ?St0 ?hK0 ?hS0 ?hR
    case St0=>exact⟨⟨_,F6 _ rfl,rfl,rfl⟩,(B.push _)⟩
    ·rcases F8.mp q with rfl|q
     ·exact frs _ (F3 _)
     ·rw[F5.mp q,T4];exact frs _ (af4 _)
    case hK0=>exact λb o e=>E2 _ (E2 _ e)
    case hS0=>exact v9 (E2 _ hS)
    case hR =>
     intro s' U a1 p;obtain⟨h',g',d',O,a2⟩:=s';have eg:g'=s.gens:=U.gens;have ed:d'=s.drawn:=U.drawn;have eo:a2=s.os:=U.os;subst eg;subst ed;subst eo;show H0 _ _ _ _ _ _;refine E1 ?_;show H0 _ _ (ret K2) _ _ _;exact E1 ⟨rfl,h',O,rfl,p,a1⟩
   ·cases C with
    |error e=>exact f
    |ok t =>
     cases t with
     |ret r =>
      obtain⟨rfl,h',M,rfl,p,a0⟩:=f
      repeat (any_goals (first|assumption|wp_step))
      exact h _ _ p a0
     |_=>exact f.elim
  |_=>exact S.elim
end
section
open PySem.Calls PySem.SeqAt
variable{X:Cx}{z:List (E9×Obj)}{s:E3}{σ:St}{H:Hp}{M:DH}{K:u8}
end
section
variable{X:Cx}
def Df(x y:D):Option D:=match y with
 |.tup a=>if dLe x 59=true/\bI a 59=true then some (.bl (a.any λd=>eqD d x))else none
 |_=>none
open Classical in
theorem Bt(U:X.A.units+64<ai7):b7 X (Q6 .In) Df:=by
 intro S s R H M x y v u dx dy dz Q I hr rx ry r1 r2 e k;cases dy with
 |tup b =>
  simp only[Df]at e
  by_cases f:dLe dx 59=true/\bI b 59=true
  ·rw[if_pos f]at e;cases e;obtain⟨l,vs,rfl,sq,g⟩:=r2;cases ry;obtain⟨a,r,P,Z⟩:=I.tuple sq;have Y:b.length=a.length:=g.length.trans r.length;have at_:∀j (h:j<b.length) (c:j<a.length),PySem.SeqAt.EqAt X.A.in1 s a[j] v (eqD b[j] dx):=λj h c=>by
    obtain⟨v1,B,C⟩:=g.get (i:=j) (d:=b[j]) (by simp[h]);obtain⟨G,o,N⟩:=r.get B;have L:a[j]=G:=by simpa[E6 c]using o
    rw[L];exact(pb I 59 (by show X.A.units+1+59<ai7;omega) (gG f.2 (i:=j) (by simp[h])) f.1 C.r r1 N rx).1
   refine SeqAt.in_tupleAt (λw=>decide (∃j,∃h:j<b.length,∃c:j<a.length,a[j]=w/\eqD b[j] dx=true)) (rA P) (λw n=>?_) ⟨.bl _,H,I,rfl,?_⟩
   ·obtain⟨i,m,rfl⟩:=ab1.mp (show w∈a by simpa using n)
    by_cases q:∃j,∃h:j<b.length,∃c:j<a.length,a[j]=a[i]/\eqD b[j] dx=true
    ·rw[decide_eq_true q];obtain⟨j,h,c,E,p⟩:=q;rw[<-E,<-p];exact at_ j h c
    ·rw[decide_eq_false q];have:=at_ i (by omega) m
     rwa [show eqD b[i] dx=false from Bool.eq_false_iff.mpr λz=>q ⟨i,by omega,m,rfl,z⟩]at this
   ·have O:a.toArray.any (λw=>decide (∃j,∃h:j<b.length,∃c:j<a.length,a[j]=w/\eqD b[j] dx=true))=b.any λd=>eqD d dx:=by
     rw[R6,List.any_toArray,af0,af0];constructor
     ·rintro⟨w,_,h⟩;obtain⟨j,T,_,_,t⟩:=of_decide_eq_true h;exact⟨b[j],Q0 _,t⟩
     ·rintro⟨d,J,h⟩;obtain⟨j,A,rfl⟩:=ab1.mp J;exact⟨a[j],Q0 _,decide_eq_true ⟨j,A,by omega,rfl,h⟩⟩
    rw[O];exact k _ H (Ext.refl _ _) hr (by simp[Rep])
  ·rw[if_neg f]at e;cases e
 |_=>cases e
end
end L2
namespace L2
open PySem PySem.Spec PyProof.Rows PySem.Calls PySem.SeqAt
section
variable{X:Cx}{z:List (E9×Obj)}{s:E3}{σ:St}{H:Hp}{M:DH}{K:u8}
def dLS(e:TEd):TEd:=λc M Q=>e c M λx M1=>(∃a:List (List KD),rdM M1 x=.tup (a.map kU)/\(∀k∈a,dpK 8 (.tup k))/\a.length<1000/\Q (.int ((dJ a).length:Nat)) M1)∨(∃b:List Str,rdM M1 x=.lst (b.map .str)/\b.length<1000/\Q (.int ((fB b).length:Nat)) M1)
theorem D9{a:L7}{ta:TEd}{p0 p1 q0 G:Pos}(hc:X.calm=true)(hu:X.A.units+64<ai7)(a2:Gl X "len")(a4:X.mg "len"=none)(hg:Gl X "set")(hm:X.mg "set"=none)(ha:QEd X a ta)
  (B:F0 [.Call (.Name "set" p1) [a] [] G] X.env=(false,Z1 (.Call (.Name "set" p1) [a] [] G) X.env)::F0 [] X.env:=by rfl)
  (A:F0 [a] X.env=(false,Z1 a X.env)::F0 [] X.env:=by rfl)
  (T:(U4 q0 (F0 [] X.env)).any (·.1)=false:=by rfl) (a5:(U4 G (F0 [] X.env)).any (·.1)=false:=by rfl) :
  QEd X (.Call (.Name "len" p0) [.Call (.Name "set" p1) [a] [] G] [] q0) (dLS ta):=by
 simp only[QEd.eq]at *
 intro z s σ H Q I ⟨Δ,M,R,sr,hr,q,k⟩;refine S5 (eh I a2 a4 (u:=.builtin "len") (by kernel_rfl) ?_ (by decide) (by decide));refine W4 ?_ B T;rw[B];show H0 _ _ (ap0 ((false,Z1 _ X.env)::U4 q0 (F0 [] X.env))) _ _ s;refine W7 ?_;refine S5 (eh I hg hm (u:=.type "set") (by kernel_rfl) ?_ (by decide) (by decide));refine V0 ?_ A a5;rw[A];show H0 _ _ (ap0 ((false,Z1 a X.env)::U4 G (F0 [] X.env))) _ _ s;refine W7 (evD ha I sr hr q λu J v L x M1 m r1 hx p a0 e1=>?_);have N:=a0.rd p;refine X3 ?_;rcases hx with⟨O,ex,a3,hl,P⟩|⟨h,ex,hl,P⟩
 ·rw[ex]at N;obtain⟨l,vs,rfl,sq,C⟩:=N;cases r1;obtain⟨f,b,Y,hz⟩:=m.tuple sq;have hn:O.length=f.length:=by rw[<-b.length,<-C.length,E4]
  have U:∀(i:Nat) k u,O[i]?=some k->f[i]?=some u->KAt J.heap 8 (.tup k) u:=λi k u h1 h2=>qT m a3 C b h1 h2;refine r8 (n:=8) (hn8:=F3 _) (m.ok.hd hc) (by lia) Y (by simp[hn]) (λi k u h1 h2=>U i k u h1 (by simpa using h2)) hl λE w Z kp=>?_;refine X3 ?_;obtain⟨o,S,ep,t,zs,e,pm⟩:=Z;have j:S.size=(dJ O).length:=by rw[e.el.len,pm.length_eq]
  have I2:Inv X z σ L { J with heap:=E,toks:=w }:=m.kept kp;have a1:=iZ O;refine call_len_set (s:={ J with heap:=E,toks:=w }) e.get e.ex e.data e.tb.fit (by lia) ?_;rw[j];exact⟨.int _,L,I2.tok _,⟨_,rfl⟩,k _ _ _ _ P e1 p (by simp only[Rep])⟩
 ·rw[ex]at N;obtain⟨l,vs,rfl,sq,C⟩:=N;cases r1;obtain⟨f,b,Y,hz⟩:=m.list (SqL.of sq);have hn:h.length=f.length:=by rw[<-b.length,<-C.length,E4]
  refine uJ (xs:=h) (m.ok.hd hc) Y.isList (by simp[hn]) (λi hi=>?_) (by unfold ad8;lia) λE w Z kp=>?_
  ·obtain⟨v,g,r⟩:=C.get (i:=i) (d:=.str h[i]) (by rw[K8,E6 hi];rfl);obtain⟨u,g',r'⟩:=b.get g;simp only[Rep]at r;subst r;obtain⟨t,rfl⟩:=r';exact⟨t,by simpa using g'⟩
  refine X3 ?_;obtain⟨o,S,ep,t,e,pm⟩:=Z;have j:S.size=(fB h).length:=by
   have:=pm.length_eq;rw[E4,K4]at this;exact this
  have I2:Inv X z σ L { J with heap:=E,toks:=w }:=m.kept kp;have a1:(fB h).length<=h.length:=by have:=jL h [];simpa[fB]using this
  refine call_len_set (s:={ J with heap:=E,toks:=w }) e.get e.ex e.data e.fit (by lia) ?_;rw[j];exact⟨.int _,L,I2.tok _,⟨_,rfl⟩,k _ _ _ _ P e1 p (by simp only[Rep])⟩
end
end L2
namespace L2
open PySem PySem.Spec PyProof.Rows PySem.Builtin PySem.Builtin.Str StrLaws
def Gd(L S:List Nat)(d c:Nat):Prop:=∀j,L[j]?=some c->d<=j/\(L.drop (j-d)).take S.length=S/\j-d+S.length<=L.length/\∀a,j<a->L[a]?=some c->j+S.length<=a
theorem Gd.free{L S:List Nat}{d c:Nat}(h:c∉L):Gd L S d c:=λj a=>absurd (O4 a) h
theorem Gd.app{p pre post R:List Nat}{c:Nat}(x:c∉p)(z:c∉pre)(A:c∉post)(g:Gd R (pre++c::post) pre.length c):Gd (p++((pre++c::post)++R)) (pre++c::post) pre.length c:=by
 have len:(pre++c::post).length=pre.length+post.length+1:=by simp;lia
 have l:(p++((pre++c::post)++R)).length=p.length+((pre++c::post).length+R.length):=by rw[E8,E8]
 have i:∀j,(p++((pre++c::post)++R))[j]?=some c->j=p.length+pre.length∨(p.length+(pre++c::post).length<=j/\R[j-(p.length+(pre++c::post).length)]?=some c):=λj f=>by
  by_cases a:j<p.length
  ·rw[O0 a]at f;exact absurd (O4 f) x
  ·rw[P5 (by lia)]at f
   by_cases b:j-p.length<(pre++c::post).length
   ·rw[O0 b]at f
    by_cases e:j-p.length<pre.length
    ·rw[O0 e]at f;exact absurd (O4 f) z
    ·rw[P5 (by lia)]at f;cases q:j-p.length-pre.length with
     |zero=>left;lia
     |succ n =>
      rw[q,P9]at f;exact absurd (O4 f) A
   ·right;rw[P5 (by lia)]at f;exact⟨by lia,by rw[show j-(p.length+(pre++c::post).length)=j-p.length-(pre++c::post).length by lia];exact f⟩
 intro j f;rcases i j f with rfl|⟨o,s⟩
 ·refine⟨by lia,?_,by rw[l];lia,λm u h=>?_⟩
  ·rw[show p.length+pre.length-pre.length=p.length by lia,List.drop_left,List.take_left]
  ·rcases i m h with rfl|⟨o,s⟩
   ·lia
   ·have:=(g _ s).1
    lia
 ·obtain⟨H,E,G,C⟩:=g _ s;refine⟨by lia,?_,by rw[l];lia,λm u h=>?_⟩
  ·have e:p++((pre++c::post)++R)=(p++(pre++c::post))++R:=by simp
   have B:(p++((pre++c::post)++R)).drop (j-pre.length)=R.drop (j-(p.length+(pre++c::post).length)-pre.length):=by
    rw[e,List.drop_append,List.drop_of_length_le (by rw[E8];lia),M9,E8];congr 1
    lia
   rw[B];exact E
  ·rcases i m h with rfl|⟨w,t⟩
   ·lia
   ·have:=C _ (show j-(p.length+(pre++c::post).length)<m-(p.length+(pre++c::post).length)by lia) t
    lia
section
variable{x y:Str}{d c:Nat}
theorem zT(g:Gd x.cps.toList y.cps.toList d c){j:Nat}(h:x.cps.toList[j]?=some c):At x y x.length (j-d):=by
 obtain⟨_,f,b,_⟩:=g j h;have a:y.cps.toList.length=y.length:=by simp[ah6]
 have e:x.cps.toList.length=x.length:=by simp[ah6]
 refine⟨by rw[<-a,<-e];exact b,?_⟩;rw[subAt_eq,<-a,f];exact beq_self_eq_true _
theorem Em(a:y.cps.toList[d]?=some c){k:Nat}(h:At x y x.length k):x.cps.toList[k+d]?=some c:=by
 have b:=h.2;rw[subAt_eq]at b;have e:=eq_of_beq b;rw[<-e]at a;have f:d<y.length:=by
  have:=(J8.mp a).1;rw[P6]at this;lia
 rw[S6 f,ad5]at a;exact a
theorem iF(g:Gd x.cps.toList y.cps.toList d c){a b:Nat}(ha:∀j,a<=j->x.cps.toList[j]?=some c->a+d<=j)(hn:∀k,a<=k->k<b->¬ At x y x.length k):c∉(strSub x a b).cps.toList:=by
 intro h;rw[strSub_toList]at h;obtain⟨j,e⟩:=List.getElem?_of_mem h;have f:j<b-a:=by
  have i:j<((x.cps.toList.drop a).take (b-a)).length:=(J8.mp e).1;rw[P6]at i
  lia
 rw[S6 f,ad5]at e;have:=ha (a+j) (by lia) e;exact hn (a+j-d) (by lia) (by lia) (zT g e)
theorem j4(g:Gd x.cps.toList y.cps.toList d c)(m:y.cps.toList[d]?=some c):∀(b:List Nat) (a f:Nat),(∀j,a<=j->x.cps.toList[j]?=some c->a+d<=j)->ChainG x y x.length a b f->(∀k,f<=k->¬ At x y x.length k)->∀p∈partsFrom x y.length a b,c∉p.cps.toList
 |[],a,f,q,h,l,p,i=>by
  have e:f=a:=h;subst e;rw[F5.mp i];exact iF g q λk u _=>l k u
 |k::r,a,f,q,h,l,p,i=>by
  rcases F8.mp i with rfl|n
  ·exact iF g q h.2.2.1
  ·refine j4 g m r _ f (λj z o=>?_) h.2.2.2 l p n;have t:=Em m h.2.1;have s:y.cps.toList.length=y.length:=by simp[ah6]
   have w:d<y.length:=by rw[<-s];exact(J8.mp m).1
   have:=(g _ t).2.2.2 j (by lia) o
   lia
theorem qH(g:Gd x.cps.toList y.cps.toList d c)(m:y.cps.toList[d]?=some c)(u:¬ strKind x<strKind y):∀p∈J1 x y,c∉p.cps.toList:=by
 have t:y.cps.toList.length=y.length:=by simp[ah6]
 have B:d<y.length:=by rw[<-t];exact(J8.mp m).1
 obtain⟨f,e,l⟩:=occ_tight x y (by lia);have i:∀j,0<=j->x.cps.toList[j]?=some c->0+d<=j:=λj _ h=>by have:=(g j h).1;lia
 unfold J1
 split
 ·rename_i a;intro p b;rw[F5.mp b];intro w;obtain⟨j,o⟩:=List.getElem?_of_mem w;have s:=zT g o;rw[Bool.or_eq_true,decide_eq_true_eq,decide_eq_true_eq]at a;rcases a with h|h
  ·have:=s.1;lia
  ·exact u h
 ·split
  ·rename_i q;intro p b;rw[F5.mp b];have A:occurrences x y 0 x.length (x.length+1)=[]:=List.isEmpty_iff.mp q;rw[A]at e;have z:f=0:=e;subst z;rw[<-sub_whole x];exact iF g i λk n _=>l k n
  ·rw[partsBetween_eq];exact j4 g m _ 0 f i e l
end
theorem e6(y p q:Str)(r:List Str):(N5 y (p::q::r)).cps.toList=p.cps.toList++(y.cps.toList++(N5 y (q::r)).cps.toList):=by
 show(p++y++N5 y (q::r)).cps.toList=_;show((p.cps++y.cps)++(N5 y (q::r)).cps).toList=_;simp
theorem mX{y:Str}{pre post:List Nat}{c:Nat}(i:y.cps.toList=pre++c::post)(l:c∉pre):∀{ps qs:List Str},ps≠[]->qs≠[]->(∀p∈ps,c∉p.cps.toList)->(∀q∈qs,c∉q.cps.toList)->N5 y ps=N5 y qs->ps=qs
 |[],_,h,_,_,_,_=>absurd rfl h
 |_,[],_,h,_,_,_=>absurd rfl h
 |[p],[q],_,_,_,_,h=>by
  have:p=q:=h;rw[this]
 |[p],q::o::r,_,_,g,f,h=>by
  have b:=congrArg (λz:Str=>z.cps.toList) h;simp only[e6,i]at b;have j:p.cps.toList=_:=b;exact absurd (by rw[j];simp) (g p (by simp))
 |p::n::r,[q],_,_,g,f,h=>by
  have b:=congrArg (λz:Str=>z.cps.toList) h;simp only[e6,i]at b;have j:_=q.cps.toList:=b;exact absurd (by rw[<-j];simp) (f q (by simp))
 |p::n::r,q::o::t,_,_,g,f,h=>by
  have b:=congrArg (λz:Str=>z.cps.toList) h;simp only[e6,i]at b;have e:∀(a R:List Nat),a++((pre++c::post)++R)=(a++pre)++c::(post++R):=λa R=>by simp
  rw[e,e]at b;obtain⟨s,u⟩:=ip (λz=>(P7.mp z).elim (g p (by simp)) l) (λz=>(P7.mp z).elim (f q (by simp)) l) b;rw[cc (List.append_cancel_right s),mX i l (ps:=n::r) (qs:=o::t) (by simp) (by simp) (λx m=>g x (I0 _ m)) (λx m=>f x (I0 _ m)) (cc (List.append_cancel_left u))]
theorem sZ{y:Str}{pre post:List Nat}{c:Nat}(b:y.cps.toList=pre++c::post)(e:c∉pre)(f:c∉post):∀{ps:List Str},ps≠[]->(∀p∈ps,c∉p.cps.toList)->Gd (N5 y ps).cps.toList y.cps.toList pre.length c
 |[],h,_=>absurd rfl h
 |[p],_,a=>Gd.free (a p (by simp))
 |p::q::r,_,a=>by
  have ih:=sZ b e f (ps:=q::r) (by simp) λx g=>a x (I0 _ g);rw[e6,b]at *
  exact Gd.app (a p (by simp)) e f ih
theorem rZ{y:Str}(h:y.cps.all (·<256)=true)(x:Str):¬ strKind x<strKind y:=by
 have:strKind y=1:=if_pos h;rw[this];unfold K6.Str.strKind
 split
 ·lia
 ·split<;>lia
theorem qq{y:Str}{pre post:List Nat}{c:Nat}{ps:List Str}(b:y.cps.toList=pre++c::post)(e:c∉pre)(g:c∉post)(j:y.cps.all (·<256)=true)(a:ps≠[])(f:∀p∈ps,c∉p.cps.toList):J1 (N5 y ps) y=ps:=by
 have h:=qH (sZ b e g a f) (by rw[b];simp) (rZ j _);have i:=P2 (N5 y ps) y;refine mX b e (λz=>?_) a h f i;have l:=P2 (N5 y ps) y;unfold J1 at z
 split at z
 ·cases z
 ·split at z
  ·cases z
  ·have:=length_partsBetween (N5 y ps) (occurrences (N5 y ps) y 0 (N5 y ps).length ((N5 y ps).length+1)) y.length;rw[z]at this;cases this
end L2
namespace L2
open PySem PySem.Spec PyProof.Rows
open AutoSeq1 (wpAny_loadPart')
section
variable{prog:K3}{w:P4}{A:L6}{E:s0->E3->Prop}{s:E3}
theorem kc{T newId a:String}{C I:K6}{args:List s0}{kw:List (Str×s0)}{S:J9}{Q Q₁:s0->E3->Prop}(i:TypeCalled T newId a)
  (J:checkTypeCall T ⟨args,kw⟩=ae6 ()) (q:ac9 newId ⟨.type T::args,kw⟩=ae6 ())
  (l:entryFor table newId=some C) (j:entryFor table a=some I) (g:Meets (C ⟨.type T::args,kw⟩) S)
  (h:S A.in1 (wants Q₁ E) s)
  (n:∀obj b,Q₁ obj b->b.TypeIs obj T/\argsOk a ⟨obj::args,kw⟩/\∃B,Meets (I ⟨obj::args,kw⟩) B/\B A.in1 (wants (λr m=>r=.none/\Q obj m) E) b) :
  H0 (M8 prog w) A (aq8 (.type T) args kw) Q E s:=by
 obtain⟨c,Y,H⟩:=i.mro;have x:=i.made;have G:=i.sub;refine ad1 (ad9 ?_);show H0 _ _ (callAny (.type T) _) _ _ _;refine E1 ⟨aa2 _ (by decide +kernel),W6 F.entry_type_call ?_⟩;rw[ag9 (ae0 T args kw) (units_type_call_type T args kw)];have U:=i.notType;have X:=i.canCreate
 repeat (any_goals (first|assumption|wp_step))
 refine V8 (U0 i.plain l (am7 q (g prog w A.in1 _ s h))) λr b u=>?_;cases r with
 |error e=>exact u
 |ok L =>
  cases L with
  |ret obj =>
   obtain⟨M,t,B,N,z⟩:=n _ _ u;have O:=i.init.lookup;have P:=i.init.bind obj
   repeat (any_goals (first|assumption|wp_step))
   refine V8 (U0 i.init.plain j (i.init.check _ _ _ _ _ _ _ _ M t (N prog w A.in1 _ b z))) λp m f=>?_;cases p with
   |error e=>exact f
   |ok o =>
    cases o with
    |ret r =>
     obtain⟨rfl,R⟩:=f
     repeat (any_goals (first|assumption|wp_step))
    |_=>exact f.elim
  |_=>exact u.elim
theorem iA{T newId:String}{self:s0}{rest:List s0}{kw:List (Str×s0)}(g:typeLookup (.type T) "__init__"=ae6 (some (.builtin "object.__init__")))
  (h:Bind.madeBy (.type T)=ae6 (some newId)) (c:(some newId != some "object.__new__")=true) :
  Meets (K6.«object.__init__» ⟨self::rest,kw⟩) (λ_ R s=>s.TypeIs self T/\R (.ok (.ret .none)) s):=by
 refine Meets.of_wp λprog w A R s e=>?_;obtain⟨f,b⟩:=e;cases rest with
 |nil =>
  cases kw with
  |nil=>exact E1 ⟨_,rfl,b⟩
  |cons k kw =>
   repeat (any_goals (first|assumption|wp_step))
   exact⟨_,rfl,b⟩
 |cons a rest =>
  repeat (any_goals (first|assumption|wp_step))
  exact⟨_,rfl,b⟩
theorem sm(a v:s0):checkTypeCall "enumerate" ⟨[a],[(J5 "start",v)]⟩=ae6 ():=by unfold checkTypeCall;kernel_rfl
theorem u3(a v:s0):ac9 "enumerate.__new__" ⟨[.type "enumerate",a],[(J5 "start",v)]⟩=ae6 ():=by unfold ac9;kernel_rfl
theorem rP(o a v:s0):argsOk "object.__init__" ⟨[o,a],[(J5 "start",v)]⟩:=by unfold argsOk;kernel_rfl
theorem qQ(l:E9)(a:Array s0)(n:Nat)(f:Option E9)(o:Array (Option s0))(t:Tok):
  Meets (K6.«enumerate.__new__» ⟨[.type "enumerate",.ref l],[(J5 "start",.int 1 t)]⟩) (λ_ R s=>s.heap.get? l=some { cls:=.type "list",dict:=f,data:=.seq a n,slots:=o } /\
   R (.ok (.ret (.ref (s.heap.push { cls:=.type "list_iterator",data:=.fields #[.ref l,.int 0 0] }).objs.size)))
    { s with heap:=(s.heap.push { cls:=.type "list_iterator",data:=.fields #[.ref l,.int 0 0] }).push { cls:=.type "enumerate",data:=.fields #[.none,.bool false,.ref s.heap.objs.size,an3 1,.none,.none] } }) :=
 .of_wp λprog w A R s h=>by
  obtain⟨j,g,d,m,os⟩:=s;obtain⟨b,h⟩:=h;have i:=sub_enumerate;have e:K0.IsList (E3.heap ⟨j,g,d,m,os⟩) l a:=⟨_,b,rfl,n,rfl⟩
  wp_walk using ab5 b
  refine wpAny_stack_any λst=>E1 ?_
  split
  ·rename_i c _ _ _ _ _;cases(c==M7 "enumerate")
   ·wp_walk using ab5 b,W0 e
    exact⟨_,rfl,h⟩
   ·wp_walk using ab5 b,W0 e
    exact⟨_,rfl,h⟩
  ·wp_walk using ab5 b,W0 e
   exact⟨_,rfl,h⟩
theorem jy{M:ap6}{A:L6}{E:s0->E3->Prop}{s:E3}{pos:Pos}{T:String}{args:List (Bool×Sem s0)}{b:List (Option Str×Sem s0)}{Q:s0->E3->Prop}
  (j:args.any (·.1)=false) (f:b.any (·.1.isNone)=false)
  (h:H0 M A (evalArgs (.type T) true args b) (λa c=>H0 M A (aq8 (.type T) a.pos a.kw) Q E c) E s) :
  H0 M A (callWith pos (.type T) [] args b) Q E s:=by
 unfold callWith;refine o0 (O5 (Q5 h (λa c e=>o0 (ag2 ?_)) λ_ _ x=>x));simp only[j,f,Bool.or_false];refine o0 (E1 ?_);exact o0 (Q5 e (λr g i=>o0 (O5 (wpAny_point (E1 i)))) λ_ _ x=>x)
theorem rJ{l:E9}{a:Array s0}{t:Tok}{Q:s0->E3->Prop}(q:s.heap.IsList l a)
  (h:∀ h',IsEnum h' (s.heap.objs.size + 1) s.heap.objs.size 1 .none → h'.IsListIter s.heap.objs.size l 0 → h'.objs.size = s.heap.objs.size + 2 →
   (∀b o,s.heap.get? b=some o->h'.get? b=some o)->Q (.ref (s.heap.objs.size+1)) { s with heap:=h' }) :
  H0 (M8 prog w) A (aq8 (.type "enumerate") [.ref l] [(J5 "start",.int 1 t)]) Q E s:=by
 obtain⟨⟨c,m,dt,z⟩,u,j,n,f⟩:=q;replace j:c=.type "list":=j;replace f:dt=.seq a n:=f;subst j f;refine kc F.called_enumerate (sm _ _) (u3 _ _) F.entry_enumerate_new F.entry_object_init (Q₁:=λobj e=>e.TypeIs obj "enumerate"/\Q obj e)
  (qQ l a n m z t) ⟨u,?_⟩ λobj _ g=>⟨g.1,rP obj _ _,_,iA F.called_enumerate.init.lookup F.called_enumerate.made (by decide),g.1,rfl,g.2⟩
 have i:(s.heap.push { cls:=.type "list_iterator",data:=.fields #[.ref l,.int 0 0] }).objs.size=s.heap.objs.size+1:=T4 ..;show _/\_;rw[i];have p:IsEnum ((s.heap.push { cls:=.type "list_iterator",data:=.fields #[.ref l,.int 0 0] }).push
   { cls:=.type "enumerate",data:=.fields #[.none,.bool false,.ref s.heap.objs.size,an3 1,.none,.none] }) (s.heap.objs.size+1) s.heap.objs.size 1 .none:=by
  have:=F6 (s.heap.push { cls:=.type "list_iterator",data:=.fields #[.ref l,.int 0 0] })
   (o:={ cls:=.type "enumerate",data:=.fields #[.none,.bool false,.ref s.heap.objs.size,an3 1,.none,.none] }) rfl
  rw[i]at this;exact this
 refine⟨⟨_,p,rfl⟩,h _ p ⟨_,E2 _ (F6 _ rfl),rfl,rfl⟩ (by rw[T4,i]) λb o x=>E2 _ (E2 _ x)⟩
theorem wX{it:E9}{b:List E9}{n:Nat}{P:Nat->s0->Prop}{St:Nat->K0->Prop}(D:Draws prog w A it b n P St):Draws prog w A it b (n+1) (λi v=>P (i-1) v) (λi h=>1<=i/\St (i-1) h) where
 live:=λi h st=>D.live _ h st.2
 frame:=λi h a st k=>⟨st.1,D.frame _ h a st.2 k⟩
 item:=λi s Q E l st j=>D.item (i-1) s Q E (by have:=st.1;lia) st.2 λx a c p e g=>j x a c p ⟨by lia,by rw[show i+1-1=i-1+1 by have:=st.1;lia];exact e⟩ g
 done:=λs Q E st f=>D.done s Q E st.2 f
end
def D0(b:Bool)(K:u8)(a:E9)(n:Nat):It :=
 ⟨λi H=>(∃c,n8 b K H a c/\c.length=n)/\i<n,λi H x e=>∃T y,x=.ref T/\H T=none/\e=upd H T (.tup [.int ((i+1:Nat):Int),y])/\∀c,n8 b K H a c->c[i]?=some y,λi H=>(∃c,n8 b K H a c/\c.length=n)/\n<=i⟩
theorem rq{P:K3}{w:P4}{K:u8}{Q:List L7}{x1:Nat}{pt:Pos}(b:Bool)(a e it:E9)(n:Nat):oH P w K (.Tuple Q x1 pt) (D0 b K a n) [e,it] e (λi h=>(∃f,IsEnum h e it ((i+1:Nat):Int) f)/\rB b h it a i/\e≠it/\i<=n) where
 mem:=by simp
 obj:=λi h st c A=>by
  rcases F8.mp A with z|z
  ·subst z;obtain⟨⟨f,q⟩,_⟩:=st;exact⟨_,q,λv z=>by cases z⟩
  ·have z:=F5.mp z;subst z;obtain⟨_,st,_⟩:=st;obtain⟨o,q,_,d⟩:=st.obj;exact⟨o,q,λv z=>by rw[d]at z;cases z⟩
 keep:=λi h h' st k=>by
  obtain⟨⟨f,q⟩,st,ne,le⟩:=st;obtain⟨o,q2,r⟩:=st.obj;exact⟨⟨f,k e (by simp) _ q⟩,.of ⟨o,k it (by simp) o q2,r⟩,ne,le⟩
 item:=by
  intro X hP hw hK hc i M s σ H E I hf st hg;subst hP hw hK;obtain⟨⟨xs,U,N⟩,L⟩:=hg;have Y:xs[i]?=some (xs[i]'(by lia)):=by simp[N,L]
  generalize xs[i]'(by lia)=x at Y;obtain⟨⟨f,t⟩,m,j,a3⟩:=st;obtain⟨l,St,rv,dr,g,p,ob,C,a8⟩:=pN hc I U m;obtain⟨u,hu,ru⟩:=rv.get Y;have a9:e≠a:=λz=>by
   rw[<-z,t]at C;cases C;exact a8 rfl
  have fe:=hf e (by simp);have fi:=hf it (by simp);have b0:i<l.toArray.size:=by
   have h1:=(J8.mp hu).1;simpa using h1
  have eT:e<s.heap.objs.size:=F9 t;have iT:it<s.heap.objs.size:=by obtain⟨o,q,_⟩:=m.obj;exact F9 q
  refine wpAny_pyNext_enum_itemD (i:=i+1) (wX dr) t (show 1<=i+1/\St (i+1-1) s.heap from⟨by lia,g⟩) (Nat.succ_lt_succ b0) j (by simp[j,a9]) λy h1 B hy S a4 a0 b1 hk=>?_;have ey:y=u:=by
   have Z:l[i]?=some y:=by simpa using hy
   rw[hu]at Z;cases Z;rfl
  subst ey;refine⟨_,rfl,?_⟩;have In:H s.heap.objs.size=none:=I.hok.fresh (F3 _);have I1:Inv X M σ (upd H s.heap.objs.size (.tup [.int ((i+1:Nat):Int),x])) { s with heap:=s.heap.push { cls:=.type "tuple",data:=.seq #[.int ((i+1:Nat):Int) B,y] },toks:=B+1 } :=
   I.laid (λb o q=>E2 _ q) (F3 _) ⟨by simp only[F4,N1];rw[ak4];decide,[.int ((i+1:Nat):Int) B,y],.cons ⟨_,rfl⟩ (.cons ru .nil),⟨_,F6 s.heap rfl,rfl,⟨0,rfl⟩,rfl⟩⟩
  have T:eQ X M (upd H s.heap.objs.size (.tup [.int ((i+1:Nat):Int),x])) e:=fe.upd (K5 eT);have O:eQ X M (upd H s.heap.objs.size (.tup [.int ((i+1:Nat):Int),x])) it:=fi.upd (K5 iT);have I2:Inv X M σ (upd H s.heap.objs.size (.tup [.int ((i+1:Nat):Int),x])) { s with heap:=h1,toks:=B+1 }:=I1.turned2 (t':=B+1) (λb o a1 a5 q=>by
   by_cases G:b=s.heap.objs.size
   ·subst G;rw[F6 s.heap rfl]at q;cases q;exact a0
   ·refine hk b o a1 a5 ?_;rcases K0.get?_push_cases q with z|z
    ·exact absurd z.1 G
    ·exact z) T O
  refine wpAny_letOwnedTupleGo_enum S λZ a2 J=>?_;obtain⟨g0,g1,g2,g3,g4,g5⟩:=T;have I3:=I2.turned (t':=B+1) (h':=Z) (it:=e) (λb o A q=>(J.2 b A).trans q) g0 g1 g3 g4 g5;refine⟨.ref s.heap.objs.size,_,I3,rfl,⟨_,x,rfl,In,rfl,λys a'=>by rw[n8.inj I a' U];exact Y⟩,⟨⟨y,by simpa using a2⟩,?_,j,L⟩,λb A=>?_⟩
  ·obtain⟨o,q,r⟩:=(p _ _ a4.2).obj;exact .of ⟨o,(J.2 it (T9 j)).trans q,r⟩
  ·rcases F8.mp A with z|z
   ·subst z;exact g0
   ·rw[F5.mp z];exact O.1
 done:=by
  intro X hP hw hK hc i M s σ H E I hf st hg;subst hP hw hK;obtain⟨⟨xs,U,N⟩,Y⟩:=hg;obtain⟨⟨f,t⟩,m,j,a3⟩:=st;obtain⟨l,St,rv,dr,g,_⟩:=pN hc I U m;obtain⟨f0,f1,f2,f3,f4,f5⟩:=hf it (by simp);have hl:=rv.length;have hi:i=l.toArray.size:=by simp;lia
  rw[hi]at g;exact wpAny_pyNext_enum_endD dr t g λh' eb=>⟨rfl,I.turned (t':=s.toks) (λb o A q=>eb b o A q) f0 f1 f3 f4 f5⟩
 self:=λ_ _ _ _ _ st h=>by
  obtain⟨⟨f,t⟩,_⟩:=st;exact wpAny_pyIter_enum t h
section
variable{X:Cx}{a:L7}{t:TAd}{pos:Pos}
def td(c:TAd):TId:=λb M R=>c b M λe M1=>∃a,e=[.lst a]/\(a.length<=F2->R (my 1 a) M1)
theorem xk{o:List L7}{x1:Nat}{pt p kp B:Pos}{kj}(hg:Gl X "enumerate")(hm:X.mg "enumerate"=none)(ha:QAd X [a] t)(hs:U4 pos (F0 [a] X.env)=(false,Z1 a X.env)::U4 pos (F0 [] X.env):=by rfl)(hpl:(U4 pos (F0 [a] X.env)).any (·.1)=false:=by rfl)(hw:(ag7 pos (X6 [⟨some "start",.Constant (.int 1) kj kp,B⟩] X.env)).any (·.1.isNone)=false:=by rfl)(n:(ag7 pos (X6 [⟨some "start",.Constant (.int 1) kj kp,B⟩] X.env)).all (·.1.isSome)=true:=by rfl)(N:(ag7 pos (X6 [⟨some "start",.Constant (.int 1) kj kp,B⟩] X.env)).filterMap (·.1)=[J5 "start"]:=by rfl):QId X (.Tuple o x1 pt) (.Call (.Name "enumerate" p) [a] [⟨some "start",.Constant (.int 1) kj kp,B⟩] pos) (td t):=by
 simp only[QAd.eq,QId.eq]at *
 intro ae s σ H R I C;obtain⟨Δ,M,R',sr,hr,q,k⟩:=C;refine S5 (eh I hg hm kR (jy hpl hw ?_));rw[hs];refine evalArgs_kwB n ?_;rw[<-hs];refine thn (ha pos ae s σ H (λh g=>∃b M1,ak X.K M1 g [sqD false b] h/\(b.length<=F2->R' (my 1 b) M1)/\Ext M H M1 g/\HR X.K M1 g) I ⟨Δ,M,_,sr,hr,q,λds M1 h g ⟨b,ed,P⟩ G j Q=>⟨b,M1,by rw[<-show sqD false b=.lst b from rfl]at ed;rw[<-ed];exact Q,P,G,j⟩⟩) λus U ⟨h,g,O,r1,b,M1,Q,P,G,j⟩=>?_;refine kws_cons (wpAny_Constant_int (kws_nil ?_));rw[N];have f:=O.tok (U.toks+1);generalize E:({ U with toks:=U.toks+1 }:E3)=u at f
 try rw[E]
 obtain⟨v,rfl,rt⟩:=Q.one;cases r1 with
 |cons r rr =>
  cases rr;obtain⟨ad,h,rfl,L,m⟩:=Bl rt;cases r;have lo:b.length<=F2:=by
   have hq:=m _ _ (Ext.refl _ _);rw[L.length];exact(f.list hq).choose_spec.2.2
  have a2:=L.length;obtain⟨a1,_,pl,_⟩:=f.list (m _ _ (Ext.refl _ _));refine rJ pl.isList λh' Z S a3 hk=>?_;refine wpAny_pyIter_enum Z ?_;refine⟨u.heap.objs.size+1,[u.heap.objs.size+1,u.heap.objs.size],_,_,g,rfl,f.kept (t':=u.toks) hk,rq false ad _ _ b.length,⟨⟨_,Z⟩,S,Nat.succ_ne_self _,O2 _⟩,λb' hb=>?_,?_⟩
  ·rcases F8.mp hb with z|z
   ·subst z;exact f.fpOk (by lia) (f.hok.fresh (by lia))
   ·rw[F5.mp z];exact f.fpOk (F3 _) (f.hok.fresh (F3 _))
  ·refine k _ M1 _ g (P lo) G j λM2 H2 w c i=>⟨λd l=>?_,λY=>⟨⟨h,(m _ _ w),by lia⟩,by rw[k6]at Y;exact Y⟩⟩;rw[kP]at l;cases e:b[i]? with
   |none=>rw[e]at l;cases l
   |some d0 =>
    rw[e]at l;have J:D.tup [.int ((1+i:Nat):Int),d0]=d:=by simpa using l
    subst J;rw[Nat.add_comm 1 i];have hi:i<b.length:=(J8.mp e).1;obtain⟨v0,gv,r0⟩:=L.get e;refine⟨⟨⟨h,(m _ _ w),by lia⟩,hi⟩,λx H' ⟨T,y,ex,A,eH,hy⟩=>?_⟩;subst ex;subst eH;have C:=hy h (m _ _ w);rw[gv]at C;cases C;refine⟨Ext.new c A,c.new A,?_⟩;simp only[Rep];refine⟨T,[.int ((i+1:Nat):Int),v0],rfl,.inl ⟨.inl aT,c.fresh A⟩,?_⟩;exact ak.cons (by simp[Rep]) (ak.cons ((r0.ext w).ext (Ext.new c A)) ak.nil)
end
def lG(a:Obj->Prop):Prop:=∀o v,a o->a (o.mapFields (·.setIfInBounds 1 v))
def As(h base:K0)(e:E9)(i:Obj->Prop)(g:s0):Prop :=
 ∃a c T f b,h.get? e=some a/\i a/\a.data=.fields c/\c[1]?=some (.ref T)/\base.get? T=none/\T≠e/\h.get? T=some f/\f.data=.fields b/\b[3]?=some g
def GoX(base:K0)(l:List Env)(e:E9)(b:Obj->Prop)(a:s0)(h h':K0):Prop:=base.StaysIn h'/\h'.FunFrames base l/\As h' base e b a/\h.UpToSlots h'
section
variable{M:ap6}{A:L6}{E:s0->E3->Prop}{s:E3}{base:K0}{env:Env}{z l:List Env}{L e:E9}{G:Obj->Prop}{Q:Unit->E3->Prop}
theorem wH{I:Obj}{p:Array s0}{j:s0}{l:Bool}(st:lG G)
  (O:A.frames=some (env::z)) (N:s.heap.FunFrames base (env::z)) (hf:env.frame=some L)
  (he:s.heap.get? e=some I) (a0:base.StaysIn s.heap) (P:base.get? e=none) (J:I.data=.fields p) (hsz:1<p.size) (h0:G I)
  (h:∀h',GoX base (env::z) e G (an3 L) s.heap h'->Q () { s with heap:=h' }) :
  H0 M A (do let a <-frameOf env;let pl <-entryPlaceOf L l;let b <-EntryCells.newEntry j a .none (an3 L) .none pl;setField (.ref e) 1 b) Q E s:=by
 have w:e∉(env::z).filterMap (·.frame):=λY=>by
  obtain⟨_,o,ho,f⟩:=N.mem Y;rw[he]at ho;cases ho;exact f p J
 refine o0 (wpAny_frameOf_fun O N hf λg n=>?_);refine o0 (wpAny_entryPlaceOf λpl Z=>?_);unfold EntryCells.newEntry newFields;refine o0 (U8 ?_ (Z.sizeOk5 _ _ _ _ _));have x:g.get? e=some I:=(n.2.1 e w).trans he;have C:base.StaysIn g:=λb o c=>(n.2.1 b λY=>by rw[(N.mem Y).1]at c;cases c).trans (a0 b o c);have H:([j,.ref L,.none,an3 L,.none]++(if pl.isEmpty then E5 6 K2 else pl)).toArray[3]?=some (an3 L):=by simp
 generalize ([j,.ref L,.none,an3 L,.none]++(if pl.isEmpty then E5 6 K2 else pl)).toArray=U at H ⊢;have t:=E2 (h:=g) { cls:=.type "traceback",dict:=none,data:=.fields U } x;refine am1 t J hsz (h _ ?_);have u:g.objs.size≠e:=ad6 (F9 x);have B:=aa1 J (·.setIfInBounds 1 (J4 g.objs.size));have X:=O7 (ac8 (·.setIfInBounds 1 (J4 g.objs.size))) t (Obj.isFreed_of_fields B);have S:=(L8 (g.push { cls:=.type "traceback",dict:=none,data:=.fields U }) (ac8 (·.setIfInBounds 1 (J4 g.objs.size))) (T9 u)).trans (F6 g rfl);have keep:∀b o,b≠e->g.get? b=some o->((g.push { cls:=.type "traceback",dict:=none,data:=.fields U }).update e (ac8 (·.setIfInBounds 1 (J4 g.objs.size)))).get? b=some o:=λb o T m=>by
  rw[L8 _ _ (T9 T)];exact E2 _ m
 have i:∀b o,s.heap.get? b=some o->(∀p,o.data≠.fields p)->b≠e:=λb o m f q=>by
  rw[q,he]at m;cases m;exact f p J
 refine⟨λb o c=>keep b o (λq=>by rw[q,P]at c;cases c) (C b o c),N.of_keeps λb o m f=>?_,?_,λb o m f=>?_⟩
 ·obtain⟨sl,R⟩:=n.2.2 b o m;exact⟨_,keep b _ (i b o m f) R,rfl⟩
 ·exact⟨_,_,g.objs.size,_,_,X,st _ _ h0,B,by simp[hsz],C.fresh,u,S,rfl,H⟩
 ·obtain⟨sl,R⟩:=n.2.2 b o m;exact⟨sl,keep b _ (i b o m f) R⟩
theorem sM{O:s0}(w:base.StaysIn s.heap)(J:s.heap.FunFrames base l)(P:As s.heap base e G O)(h:∀h',GoX base l e G .none s.heap h'->Q () { s with heap:=h' }):H0 M A (setFlight (.ref e) none) Q E s:=by
 obtain⟨L,u,T,R,z,H,N,B,C,n,p,t,i,I⟩:=P;have j:3<z.size:=(O3.mp I).1;have a:∀b,b≠T->(s.heap.update T (ac8 λx=>x.setIfInBounds 3 K2)).get? b=s.heap.get? b:=λb g=>L8 _ _ (T9 g);have f:∀b o,s.heap.get? b=some o->(∀u,o.data≠.fields u)->b≠T:=λb o g c q=>by
  rw[q,t]at g;cases g;exact c z i
 refine wpAny_setFlight_none H B C t i j (h _ ⟨λb o m=>(a b λq=>by rw[q,n]at m;cases m).trans (w b o m),J.of_keeps λb o g c=>⟨o,(a b (f b o g c)).trans g,rfl⟩,?_,λb o g c=>⟨o.slots,(a b (f b o g c)).trans g⟩⟩);exact⟨L,u,T,_,_,(a e (T9 p)).trans H,N,B,C,n,p,O7 _ t (Obj.isFreed_of_fields (aa1 i _)),aa1 i _,by simp[j]⟩
theorem pU{b:Obj}{l:Array s0}(st:lG G)(a:A.frames=some (env::z))(u:s.heap.FunFrames base (env::z))(j:env.frame=some L)
  (he:s.heap.get? e=some b) (f:base.StaysIn s.heap) (c:base.get? e=none) (i:b.data=.fields l) (g:l[1]?=some .none) (h0:G b)
  (h:∀h',GoX base (env::z) e G .none s.heap h'->Q () { s with heap:=h' }):H0 M A (leaving env (.ref e)) Q E s:=by
 unfold leaving ao8;simp only[j];refine o0 (o0 (ac3 he i g ?_));rw[if_neg (by decide)];exact wH st a u j he f c i (O3.mp g).1 h0 λC ⟨t,x,n,w⟩=>sM t x n λm ⟨p,B,q,o⟩=>h m ⟨p,B,q,w.trans o⟩
theorem CH(st:lG G)(l:A.frames=some (env::z))(S:s.heap.FunFrames base (env::z))(H:env.frame=some L)(O:As s.heap base e G .none)(u:base.StaysIn s.heap)(m:base.get? e=none)
  (h:∀h',GoX base (env::z) e G (an3 L) s.heap h'->Q () { s with heap:=h' }):H0 M A (ao8 (.ref e) env) Q E s:=by
 obtain⟨Y,I,T,Z,R,B,J,C,x,t,n,p,j,w⟩:=O;unfold ao8;simp only[H];refine o0 (ac3 B C x ?_);rw[if_pos (show(J4 T != K2)=true from by simp)];refine o0 (ac3 p j w ?_);rw[if_neg (show ¬ ((K2==an3 L)=true)from by simp[an3])];refine o0 (am1 p j (O3.mp w).1 ?_);have a:∀b,b≠T->(s.heap.update T (ac8 (·.setIfInBounds 3 K2))).get? b=s.heap.get? b:=λb g=>L8 _ _ (T9 g);have f:∀b o,s.heap.get? b=some o->(∀I,o.data≠.fields I)->b≠T:=λb o g c q=>by
  rw[q,p]at g;cases g;exact c R j
 refine wH st l (S.of_keeps λb o g c=>⟨o,(a b (f b o g c)).trans g,rfl⟩) H ((a e (T9 n)).trans B)
  (λb o i=>(a b λq=>by rw[q,t]at i;cases i).trans (u b o i)) m C (O3.mp x).1 J
  λh' ⟨X,U,P,N⟩=>h h' ⟨X,U,P,λb o g c=>N b o ((a b (f b o g c)).trans g) c⟩
end
theorem kn{prog:K3}{w:P4}{A:L6}{E:s0->E3->Prop}{h:K0}{g:Array aj5}{d:Drawn}{t:Nat}{os:OsState}{nm q:Str}{C N:E9}{bs bm p:List s0}{hdct:Bool}
  {sn:List Str} {sub:List s0} {ab:Bool} {col:Option Bool} {dd:Option E9} {k0 k1 k2 k3 k5:Option s0} {B newId i:String} (F:ExcBaseFacts B newId i p) (T:aq6 h p bm)
  {K:u8} {rest:List s0} {u:E9} {G:Obj} {Q:PySem.Fin->E3->Prop} (n:h.get? C=some (U6 nm q C N bs bm hdct sn sub ab col dd k0 k1 k2 k3 k5 newId)) (hn:K.In h)
  (I:R3 K (.ref C) "__init__"=some (some (J4 u))) (x:h.get? u=some G) (s:G.cls=M7 "function")
  (H:∀(h':K0) (e:E9),h.objs.size<=e->h.MadeExcOf h' e (J4 C) rest->H0 (M8 prog w) A (aq8 (J4 u) (J4 e::rest)) (λr s'=>r=K2/\Q (Fin.done (Flow.ret (J4 e))) s') E { heap:=h',gens:=g,drawn:=d,toks:=t,os:=os })
  (m:rest.length<=F2):H0 (M8 prog w) A (K6.«type.__call__» { pos:=J4 C::rest }) Q E { heap:=h,gens:=g,drawn:=d,toks:=t,os:=os }:=by
 unfold K6.«type.__call__»;dsimp only;refine R7 (al0 (decide ((J4 C==M7 "type")=true))) (o0 ?_);show H0 _ _ (Q9 _ _) _ _ _;refine o0 ?_;show H0 _ _ (Q9 _ _) _ _ _;refine o0 (an1 n (E1 (E1 ?_)));refine R7 (al0 (decide ({ name:=nm,bases:=bs,mro:=J4 C::bm,ns:=N,qualname:=q,hasDict:=hdct,slotNames:=sn,subclasses:=sub,abstract:=ab,collection:=col:ClassData }.mro.isEmpty=true))) ?_;refine o0 (wpAny_madeBy_exc n (o0 (E1 (o0 (O5 (ad1 ?_))))));refine codeAny_call_builtin_code (aa2 { pos:=J4 C::rest } F.quiet) (wpAny_check_new_subT F T n (codeAny_exc_new_subT F T n ?_ m));have l:=E2 { cls:=J4 C,data:=af2 #[J4 h.objs.size,K2,K2,K2,ah5 false,K2] } (E2 { cls:=M7 "tuple",data:=ao0 rest.toArray } n);have f:=E2 { cls:=J4 C,data:=af2 #[J4 h.objs.size,K2,K2,K2,ah5 false,K2] } (E2 { cls:=M7 "tuple",data:=ao0 rest.toArray } x);have kp:∀b o,h.get? b=some o->((h.push { cls:=M7 "tuple",data:=ao0 rest.toArray }).push { cls:=J4 C,data:=af2 #[J4 h.objs.size,K2,K2,K2,ah5 false,K2] }).get? b=some o:=λb o e=>E2 _ (E2 _ e);have j:=hn.keeps kp;have c:=K0.get?_push_at (h:=h.push { cls:=M7 "tuple",data:=ao0 rest.toArray }) (a:=h.objs.size+1) (o:={ cls:=J4 C,data:=af2 #[J4 h.objs.size,K2,K2,K2,ah5 false,K2] }) (by rw[T4]) rfl;show H0 _ _ (Q9 _ _) _ _ _;refine o0 (o0 ?_);show H0 _ _ (Q9 _ _) _ _ _;refine o0 (T8 c (E1 (af5 l ?_)));rw[show(J4 C::bm).contains (J4 C)=true by simp];refine R7 (al0 (decide ((!true)=true))) (o0 (O5 ?_));show H0 _ _ (Q9 _ _) _ _ _;refine o0 ?_;show H0 _ _ (Q9 _ _) _ _ _;refine o0 ?_;show H0 _ _ (Q9 _ _) _ _ _;refine o0 (T8 c (E1 ?_));refine PySem.W.Looks.here (PySem.W.looks_findIn j I) ?_;refine O5 (o0 ?_);show H0 _ _ (Q9 _ _) _ _ _;refine o0 (al7 ⟨G,f,s⟩ ?_);refine ai5 (al0 (decide ((M7 "function"==M7 "function" || M7 "function"==M7 "method_descriptor" || M7 "function"==M7 "wrapper_descriptor")=true))) (E1 ?_);refine o0 (Q5 (H _ (h.objs.size+1) (af4 _) ⟨kp,?_,h.objs.size,c,?_,?_⟩) ?_ λ_ _ z=>z)
 ·exact S2 (af4 _)
 ·exact S2 (F3 _)
 ·exact E2 _ (F6 _ rfl)
 ·rintro r s' ⟨rfl,J⟩;exact E1 (R7 (al0 (decide ((K2 != K2)=true))) (E1 J))
theorem rE{prog:K3}{w:P4}{A:L6}{E:s0->E3->Prop}{h:K0}{g:Array aj5}{d:Drawn}{t:Nat}{os:OsState}{nm q:Str}{C N:E9}{bs bm c:List s0}{hdct:Bool}
  {sn:List Str} {sub:List s0} {ab:Bool} {col:Option Bool} {dd:Option E9} {k0 k1 k2 k3 k5:Option s0} {B newId a:String} (F:ExcBaseFacts B newId a c) (T:aq6 h c bm)
  {K:u8} {rest:List s0} {j:E9} {m:Obj} {Q:s0->E3->Prop} (f:h.get? C=some (U6 nm q C N bs bm hdct sn sub ab col dd k0 k1 k2 k3 k5 newId)) (hn:K.In h)
  (z:R3 K (.ref C) "__init__"=some (some (J4 j))) (l:h.get? j=some m) (i:m.cls=M7 "function")
  (n:∀(h':K0) (e:E9),h.objs.size<=e->h.MadeExcOf h' e (J4 C) rest->H0 (M8 prog w) (A.under (aq9.builtin "type.__call__" { pos:=J4 C::rest })) (aq8 (J4 j) (J4 e::rest)) (λr s'=>r=K2/\Q (J4 e) s') E { heap:=h',gens:=g,drawn:=d,toks:=t,os:=os })
  (b:rest.length<=F2):H0 (M8 prog w) A (aq8 (J4 C) rest) Q E { heap:=h,gens:=g,drawn:=d,toks:=t,os:=os }:=by
 have s:=tc_lookup;have o:=tc_bind (J4 C);have p:am9 { heap:=h,gens:=g,drawn:=d,toks:=t,os:=os } (J4 C) "type":=⟨_,f,rfl⟩;refine ad1 (ad9 ?_);show H0 _ _ (Q9 _ _) _ _ _;refine o0 (an1 f ?_);show H0 _ _ (Q9 _ _) _ _ _;refine o0 (ah0 p s (o0 (am7 o (o0 ?_))));refine E1 (ai5 (al0 (decide (("type.__call__"=="type.__call__")=true))) ?_);refine E1 ⟨rfl,codeAny_call_builtin_at (aa2 _ (by decide +kernel)) entry_typeCall (wpAny_check_type_call_sub f (kn F T f hn z l i (λh' e u x=>n h' e u x) b))⟩
theorem kM{prog:K3}{w:P4}{A:L6}{E:s0->E3->Prop}{h:K0}{g:Array aj5}{d:Drawn}{t:Nat}{os:OsState}{nm q:Str}{C N e:E9}{bs bm m:List s0}{hdct:Bool}
  {sn:List Str} {sub:List s0} {ab:Bool} {col:Option Bool} {dd:Option E9} {k0 k1 k2 k3 k5:Option s0} {B newId a:String} (F:ExcBaseFacts B newId a m) (T:aq6 h m bm)
  {rest:List s0} {i:Obj} {I n z s u G:s0} {Q:s0->E3->Prop} (R:h.get? C=some (U6 nm q C N bs bm hdct sn sub ab col dd k0 k1 k2 k3 k5 newId))
  (he:h.get? e=some i) (l:i.cls=.ref C) (H:i.data=.fields #[I,n,z,s,u,G])
  (M:∀(h':K0) (t':E9),(∀b o,b≠e->h.get? b=some o->h'.get? b=some o)->h'.get? e=some { i with data:=.fields #[.ref t',n,z,s,u,G] }->Q .none { heap:=h',gens:=g,drawn:=d,toks:=t,os:=os })
  (f:rest.length<=F2):H0 (M8 prog w) A (aq8 (aj7 a) (J4 e::rest)) Q E { heap:=h,gens:=g,drawn:=d,toks:=t,os:=os }:=by
 refine ad1 (U0 F.init.plain F.initEntry (wpAny_check_init_subT F T R he l ?_));unfold K6.«BaseException.__init__»;dsimp only;refine R7 (al0 (decide ((!({ pos:=J4 e::rest }:Args).kw.isEmpty)=true))) ?_;refine o0 ?_;unfold newTuple;obtain⟨O,S,J,L⟩:=i;obtain rfl:O=.ref C:=l;obtain rfl:J=_:=H;have c:=E2 { cls:=M7 "tuple",data:=ao0 rest.toArray } he;refine R7 (by rw[decide_eq_false_iff_not];simpa using f) ?_;refine o0 (wpAny_alloc' (E1 ?_));refine o0 ?_;unfold K6.BaseException.bexcPut;refine o0 ?_;show H0 _ _ (Q9 _ _) _ _ _;refine o0 ?_;show H0 _ _ (Q9 _ _) _ _ _;refine o0 (an1 c (E1 (E1 (o0 ?_))));show H0 _ _ (Q9 _ _) _ _ _;refine o0 (an1 c ?_);dsimp only;refine ai5 (al0 (decide (0<#[I,n,z,s,u,G].size))) (wpAny_update' c ?_);have j:Q K2 { heap:=(h.push { cls:=M7 "tuple",data:=ao0 rest.toArray }).update e (ac8 λx=>x.setIfInBounds 0 (J4 h.objs.size)),gens:=g,drawn:=d,toks:=t,os:=os }:=by
  refine M _ h.objs.size (λb o P p=>?_) ?_
  ·rw[L8 _ _ (T9 P)];exact E2 _ p
  ·exact O7 _ c rfl
 cases I
 all_goals first
  |exact wpAny_letGo (E1 j)
  |exact E1 (E1 j)
theorem sh{M:ap6}{A:L6}{E:s0->E3->Prop}{env:Env}{nm q:Str}{C N:E9}{bs bm:List s0}{hdct:Bool}{sn:List Str}{sub:List s0}{ab:Bool}{col:Option Bool}{dd:Option E9}
  {k0 k1 k2 k3 k5:Option s0} {newId:String} {s:E3} {x:L7} {pos:Pos} {Q:Flow->E3->Prop} (n:bm.contains (M7 "BaseException")=true) (o:A.handled=none)
  (h:H0 M A (Z1 x env) (λv a => ∃ e m l c,v = J4 e ∧ a.heap.get? C = some (U6 nm q C N bs bm hdct sn sub ab col dd k0 k1 k2 k3 k5 newId) ∧
   a.heap.get? e=some { cls:=J4 C,dict:=m,data:=af2 #[l,K2,K2,K2,ah5 false,K2],slots:=c }/\E (J4 e) a) E s) :
  H0 M A (exec (X5.Raise (some x) none pos) env) Q E s:=by
 have i:(J4 C::bm).contains (M7 "BaseException")=true:=by
  rw[List.contains_cons,n,Bool.or_true]
 rw[arm_exec_Raise];show H0 _ _ (Q9 _ _) _ _ _;refine o0 ?_;refine ag2 ?_;show H0 _ _ (Q9 _ _) _ _ _;refine o0 (o0 (Q5 h (λv a f=>?_) λ_ _ z=>z));obtain⟨e,m,l,c,rfl,j,b,p⟩:=f;obtain⟨t,g,d,u,os⟩:=a;dsimp only at j b;refine o0 (ag2 (E1 ?_));refine o0 (E1 (o0 (O5 ?_)));show H0 _ _ (Q9 _ _) _ _ _;refine o0 ?_;show H0 _ _ (Q9 _ _) _ _ _;refine o0 ?_;show H0 _ _ (Q9 _ _) _ _ _;refine o0 ?_;refine T8 b (E1 (R7 ?_ (E1 (R7 (al0 (decide (false=true))) ?_))))
 ·rfl
 refine o0 ?_;show H0 _ _ (Q9 _ _) _ _ _;refine o0 ?_;show H0 _ _ (Q9 _ _) _ _ _;refine o0 (T8 b (E1 (af5 j ?_)));rw[i];refine ai5 (al0 (decide (true=true))) (E1 (o0 ?_));show H0 _ _ (Q9 _ _) _ _ _;refine o0 ?_;refine T8 b (E1 (R7 ?_ (o0 ?_)))
 ·rfl
 show H0 _ _ (Q9 _ _) _ _ _;refine o0 ?_;show H0 _ _ (Q9 _ _) _ _ _;refine o0 (T8 b (E1 (o0 ?_)));show H0 _ _ (Q9 _ _) _ _ _;refine o0 (T8 j (E1 (ai5 ?_ (E1 (o0 ?_)))))
 ·rfl
 show H0 _ _ (Q9 _ _) _ _ _;refine o0 ?_;show H0 _ _ (Q9 _ _) _ _ _;refine o0 ?_;show H0 _ _ (Q9 _ _) _ _ _;refine o0 (an1 b (E1 (E1 (R7 ?_ (E1 (wpAny_raiseNew_none o p))))));rfl
abbrev veM:List s0:=[.type "ValueError",.type "Exception",.type "BaseException",.type "object"]
theorem u9(self:s0)(C W:E9):refuseLoop self "__setattr__" [.ref C,.ref W,.type "ValueError",.type "Exception",.type "BaseException",.type "object"]=ae6 ():=by
 kernel_rfl
def oO(C e:E9)(h:K0):Prop:=∃b a,h.get? e=some { cls:=.ref C,dict:=none,data:=.fields #[b,.none,.none,.none,.bool false,.none],slots:=a }
theorem sP{P:K3}{w:P4}{H:Hp}{h:K0}{C e:E9}(x:oO C e h):cq P w H h e (.ext (oO C e)):=by
 obtain⟨f,c,g⟩:=x;exact⟨⟨f,c,g⟩,⟨_,g⟩,λi j ⟨a,b,q⟩ k=>⟨a,b,k _ q⟩⟩
structure mO(K:u8) (mg:Str->Option s0) (xC xW fld:Str) (C W fI:E9):Prop where
 gC:mg xC=some (.ref C)
 gW:mg xW=some (.ref W)
 kC:U9 K (.ref C)=true
 lC:∃nm q N bs sn sub ab col dd k0 k1 k2 k3 k5,K.lookup C=some (U6 nm q C N bs [.ref W,.type "ValueError",.type "Exception",.type "BaseException",.type "object"] true sn sub ab col dd k0 k1 k2 k3 k5 "ValueError.__new__")
 iC:R3 K (.ref C) "__init__"=some (some (.ref fI))
 lW:∃c0 dW cdW slW cN dN es ep sN,K.lookup W=some ⟨c0,dW,.cls cdW,slW⟩/\K.lookup cdW.ns=some ⟨cN,dN,.dict es ep,sN⟩/\es.toList.all (λe=>e.key.isStr "__init__"==false&&match e.key with|.str _ _=>true|_=>false)=true
 sW:ai3 K (.ref W) "__getattribute__"=some (some (.builtin "type.__getattribute__"))
 rW:PySem.W.readsIn K W (.type "type")=true
 fW:PySem.W.findCls K (.ref W) (.type "type") "__init__"=some (.val (.builtin "ValueError.__init__"))
 sC:R3 K (.ref C) "__setattr__"=some (some (.builtin "object.__setattr__"))
 mC:aj8 K C (.type "object")=some true
 tC:R3 K (.ref C) fld=some none
theorem mO.tail{K:u8}{u:Str->Option s0}{i s fld:Str}{C W g:E9}{h:K0}(Y:mO K u i s fld C W g)(f:K.In h):aq6 h veM (.ref W::veM):=by
 obtain⟨A,x,j,o,w,z,c,p,B,l,m,a⟩:=Y.lW;rw[L4]at a;refine aq6.own (f _ _ l) (mA:=nsFind c) ⟨_,c,p,f _ _ m,rfl,λe b=>?_,λ_=>rfl⟩ ?_ aq6.base
 ·have:=a e (by simpa using b);rw[F1]at this;cases q:e.key with
  |str n t=>exact⟨n,t,rfl⟩
  |_=>rw[q]at this;simp at this
 ·unfold nsFind findBy;rw[Option.map_eq_none_iff,Array.find?_eq_none];intro e b;have:=a e (by simpa using b);rw[F1]at this;simpa using this.1
section
variable{X:Cx}{O G J:Str}{C W fI:E9}
def tWI(C:E9)(i:Nat):TE:=λa H Q=>∃e,a[i]?=some (some (.ref e))/\H e=some (.ext (oO C e))/\Q .non H
theorem Do(Y:mO X.K X.mg O G J C W fI)(i:Nat){x:Str}{pl:Sem Bool}{p M ps pos a:Pos}{txt:Str}{j:Nat}(hg:Gl X G)(hx:PE X (.Name x ps) (vg i))(ht:PE X (.Constant (.str txt) j a) (tC (.str txt)))
  (hdb:(G==("__debug__":Str))=false:=by decide)
  (w:F0 [.Name x ps,.Constant (.str txt) j a] X.env=(false,Z1 (.Name x ps) X.env)::F0 [.Constant (.str txt) j a] X.env:=by rfl) (hpl:(U4 pos (F0 [.Constant (.str txt) j a] X.env)).any (·.1)=false:=by rfl)
  (E:Z1 (.Call (.Attribute (.Name G p) "__init__" M) [.Name x ps,.Constant (.str txt) j a] [] pos) X.env = (do
   let T <-Z1 (.Name G p) X.env
   ap7 M.atName
   let(f,first) <-ak2 [T] (getMethod T "__init__" pl)
   callWith pos f first (U4 pos (F0 [.Name x ps,.Constant (.str txt) j a] X.env)) (ag7 pos (X6 [] X.env))):=by rfl) :
  PE X (.Call (.Attribute (.Name G p) "__init__" M) [.Name x ps,.Constant (.str txt) j a] [] pos) (tWI C i):=by
 intro ae s σ H Q I h;obtain⟨e,ei,A,q⟩:=h;refine PySem.W.methodCall_KW (pl:=pl) (jd I hg Y.gW ?_ hdb) E;refine PySem.W.method_cls I.kIn Y.sW (PySem.W.cls_value I.kIn Y.rW Y.fW rfl ?_);have I1:=I.tok (s.toks+1);have ha:PA X [.Name x ps,.Constant (.str txt) j a] (uw (vg i) (uw (tC (.str txt)) BS)):=cu hx (cu ht fH);refine W4 (thn (ha pos ae _ σ H (λS c=>S=[.ref e,.str txt]/\c=H) I1 ?_) λus s1 hs=>?_) w hpl
 ·exact⟨.ref e,ei,rfl,rfl⟩
 obtain⟨S,c,m,l,rfl,rfl⟩:=hs;obtain⟨n,L,rfl,B,U⟩:∃n L,us=[n,L]/\aH (.ref e) n/\aH (.str txt) L:=by
  cases l with
  |cons B l =>
   cases l with
   |cons U l =>
    cases l;exact⟨_,_,rfl,B,U⟩
 obtain rfl:n=.ref e:=B;obtain⟨⟨a0,a2,g⟩,_⟩:=m.hok e _ A;obtain⟨nm,q',N,bs,sn,sub,ab,a1,dd,k0,k1,k2,k3,k5,lC⟩:=Y.lC;obtain⟨hp,gs,d,t,os⟩:=s1;refine kM F.excBase_ValueError (Y.tail m.kIn) (m.kIn _ _ lC) g rfl rfl (λR t' kp P=>?_) (al4 (nJ (by simp)));have Z:=m.write (t':=t) (h':=R) (x:=e) (e:=e) (o:=.ext (oO C e)) (by rw[A];trivial) (.inl rfl) (λb u hb hu=>kp b u hb hu) ⟨_,P⟩ (sP ⟨_,_,P⟩);have eu:upd c e (.ext (oO C e))=c:=by
  funext b;unfold upd
  split
  ·next z=>rw[z,A]
  ·rfl
 rw[eu]at Z;exact⟨.non,c,Z,rfl,q⟩
end
section
variable{X:Cx}{O Y J:Str}{C W fI:E9}{G:List (E9×Obj)}{σ:St}{H:Hp}{s:E3}
theorem Inv.forget{e:E9}{φ:K0->Prop}(I:Inv X G σ (upd H e (.ext φ)) s)(hn:H e=none):Inv X G σ H s:=by
 have f:∀{b o},upd H e (.ext φ) b=some o->(∀ B,o≠.ext B)->H b=some o:=λ{b o} q z=>by
  by_cases g:b=e
  ·subst g;rw[aT]at q;cases q;exact absurd rfl (z φ)
  ·rw[aE g]at q;exact q
 have i:∀{b},upd H e (.ext φ) b=none->H b=none:=λ{b} q=>by
  by_cases g:b=e
  ·subst g;exact hn
  ·rw[aE g]at q;exact q
 refine⟨I.ok,I.os,I.bare,⟨I.base.keep,I.base.slot,λb o q n x=>i (I.base.free b o q n x),I.base.there,λb j q=>f (I.base.tups b j q) (λ_ z=>by cases z),λb o u q=>f (I.base.frzs b o u q) (λ_ z=>by cases z),λb C q=>?_⟩,I.loc,I.cell,i I.free,λx c q=>i (I.freeC x c q),λp m=>?_,λa o q=>?_,I.len⟩
 ·obtain⟨h,w⟩:=I.base.tbls b C q;exact⟨h,f w (λ_ z=>by cases z)⟩
 ·obtain⟨t,A,l⟩:=I.pin p m;exact⟨t,i A,l⟩
 ·have E:a≠e:=by rintro rfl;rw[hn]at q;cases q
  refine(I.hok a o (by rw[aE E];exact q)).stay (λc v _ r=>r) (λc r=>f r (λ_ z=>by cases z)) λc j r=>f r (λ_ z=>by cases z)
end
theorem cq.is{P:K3}{w:P4}{H:Hp}{h:K0}{a:E9}{o:HO}(x:cq P w H h a o):∃u,h.get? a=some u:=by
 cases o with
 |lst c=>obtain⟨_,_,_,_,e⟩:=x;exact⟨_,e⟩
 |tup c=>obtain⟨_,_,_,g,e,_⟩:=x;exact⟨_,e⟩
 |dK b=>obtain⟨_,_,_,_,o,_,_,e,_⟩:=x;exact⟨_,e⟩
 |dT b=>obtain⟨_,_,_,_,o,_,_,e,_⟩:=x;exact⟨_,e⟩
 |set S n=>obtain⟨o,_,_,_,e,_⟩:=x;exact⟨_,e⟩
 |ins C j fs=>obtain⟨_,_,_,e,_⟩:=x;exact⟨_,e⟩
 |own y=>exact x
 |xd fs=>obtain⟨_,⟨_,_,_,e,_⟩,_⟩:=x;exact⟨_,e⟩
 |rng lo m=>obtain⟨_,_,_,e⟩:=x;exact⟨_,e⟩
 |frz g u=>obtain⟨e,_⟩:=x;exact⟨_,e⟩
 |tbl i=>exact⟨_,x⟩
 |met f y=>exact⟨_,x⟩
 |ext l=>exact x.2.1
def ExF(C:E9)(o:Obj):Prop:=o.cls=.ref C/\∃a,o.data=.fields a/\a[2]?=some .none
theorem sd{C:E9}:lG (ExF C):=λo v ⟨b,e,c,a⟩=>⟨(Obj.cls_mapFields _ _).trans b,_,aa1 c _,by rw[Array.getElem?_setIfInBounds_ne (by decide)];exact a⟩
section
variable{X:Cx}{J:List (E9×Obj)}{σ:St}{O G:Hp}{I s':E3}{C a T:E9}
theorem pj{h:K0}{Z:List E9}(A:Inv X J σ O I)(os:s'.os=I.os)(f:aj1 s'.gens)(un:Un (frs X.stack) [] O G I.heap s'.heap)(j:HOk X.prog X.w G s'.heap)
  (kp:∀b o,s'.heap.get? b=some o->b∉Z->b∉frs X.stack->h.get? b=some o) (s:∀b o,b∈frs X.stack->s'.heap.get? b=some o->∃B,h.get? b=some { o with slots:=B })
  (x:∀b∈Z,I.heap.get? b=none/\G b=none):Inv X J σ G { s' with heap:=h }:=by
 have C:Inv X J σ G s':=A.call' (ch:=[]) os un j f λb z=>absurd z (by simp);have g:=C.stkFree;have w:∀{b o},I.heap.get? b=some o->b∉Z:=λ{b o} e z=>by rw[(x b z).1]at e;cases e
 refine A.call' (s':={ s' with heap:=h }) (ch:=[]) os ⟨λb o e n i l=>kp b o (un.keep b o e n i l) (w e) i,λb o e n i l=>?_,un.free,λb o e l=>?_,un.tups,un.frzs,un.tbls⟩ (λb o e=>?_) f λb z=>absurd z (by simp)
 ·obtain⟨B,p⟩:=un.slot b o e n i l;obtain⟨m,q⟩:=s b _ i p;exact⟨m,q⟩
 ·obtain⟨t,p⟩:=un.there b o e l
  by_cases u:b∈frs X.stack
  ·obtain⟨m,q⟩:=s b _ u p;exact⟨_,q⟩
  ·exact⟨t,kp b t p (w e) u⟩
 ·refine(j b o e).stay (λc v a r=>kp c v r (λz=>?_) (λz=>?_)) (λc r=>r) λc E r=>r
  ·have:=(x c z).2;rcases a with rfl|a
   ·rw[this]at e;cases e
   ·rw[this]at a;cases a
  ·have:=g c z;rcases a with rfl|a
   ·rw[this]at e;cases e
   ·rw[this]at a;cases a
end
theorem mO.cls{K:u8}{g:Str->Option s0}{b e fld:Str}{C W a:E9}(Y:mO K g b e fld C W a):∃nm q N bs bm c sn sub ab col dd k0 k1 k2 k3 k5 newId,K.lookup C=some (U6 nm q C N bs bm c sn sub ab col dd k0 k1 k2 k3 k5 newId)/\bm.contains (.type "BaseException")=true:=by
 obtain⟨nm,q,N,bs,sn,sub,ab,col,dd,k0,k1,k2,k3,k5,f⟩:=Y.lC;exact⟨nm,q,N,bs,_,_,sn,sub,ab,col,dd,k0,k1,k2,k3,k5,_,f,rfl⟩
theorem kT{b:Type}{p:b->Bool}:∀(l:List b) (i:Nat),(∀x,l[i]?=some x->p x=false)->(l.eraseIdx i).find? p=l.find? p
 |[],_,_=>rfl
 |a::l,0,h=>by simp[X7,h a rfl]
 |a::l,i+1,h=>by
  simp only[List.eraseIdx_cons_succ,X7];rw[kT l i (λx e=>h x (by simpa using e))]
theorem qo{b:Array aq1}{name x:Str}{i:Nat}(f:b.findIdx? (·.key.isStr name)=some i)(g:x≠name):nsFind (b.eraseIdxIfInBounds i) x=nsFind b x:=by
 unfold nsFind findBy;rw[<-Array.find?_toList,<-Array.find?_toList];obtain⟨c,a,h⟩:=Array.findIdx?_eq_some_iff_getElem.mp f;rw[Array.eraseIdxIfInBounds,dif_pos c,Array.toList_eraseIdx,kT];intro y e;rw[T0,P0 c]at e;cases e;have a:b[i].key.isStr name=true:=a;show b[i].key.isStr x=false;cases q:b[i].key<;>rw[q]at a<;>simp only[s0.isStr]at a ⊢<;>first|(cases a;done)|skip
 all_goals first|(rw[beq_iff_eq]at a;rw[beq_eq_false_iff_ne];exact λz=>g (z.symm.trans a))|rfl
section
variable{M:ap6}{A:L6}{E:s0->E3->Prop}{s:E3}
theorem B0{a:E9}{m}{name:Str}{Q:Bool->E3->Prop}(hn:s.heap.Ns a m)
  (J:∀h' g,h'.Ns a g->(∀x,x≠name->g x=m x)->O6 a s.heap h'->Q (m name).isSome { s with heap:=h' }):H0 M A (nsDel a name) Q E s:=by
 obtain⟨o,j,L,u,N,w,z⟩:=id hn;have q:j.any (·.refKey)=false:=by
  rw[Array.any_eq_false'];intro e O;obtain⟨n,t,h⟩:=w e O;simp[aq1.refKey,h]
 have f:(m name).isSome=j.any (·.key.isStr name):=by
  rw[<-z name];simp only[nsFind,findBy,Option.isSome_map];rw[R6];simp only[Array.find?_isSome,Array.any_eq_true];constructor
  ·rintro⟨x,I,C⟩;obtain⟨i,c,rfl⟩:=Array.mem_iff_getElem.mp I;exact⟨i,c,C⟩
  ·rintro⟨i,c,C⟩;exact⟨_,Array.getElem_mem c,C⟩
 have l:nsHas name o=ae6 (j.any (·.key.isStr name)):=by
  rw[nsHas_eq];unfold nsHasByArray;rw[N];show(if(j.any λx=>x.key.isStr name)=true then _ else _)=_;generalize (j.any λx=>x.key.isStr name)=b;cases b<;>simp[q]
 unfold nsDel;refine o0 (am3 u ?_);rw[l];refine o0 (E1 ?_);rw[<-f];cases p:(m name).isSome
 ·have:=J s.heap m hn (λ_ _=>rfl) (.refl ..);rw[p]at this;exact E1 this
 ·refine o0 (wpAny_updatePart u (E1 ?_));have H:∃g,(s.heap.update a (Obj.dropName name)).Ns a g/\∀x,x≠name->g x=m x:=by
   obtain⟨R,d,dt,P⟩:=o;subst N;cases c:j.findIdx? (·.key.isStr name)with
   |some i=>exact⟨_,⟨_,_,L+1,O7 _ u (by simp only[al2,af6,c]<;>rfl),(by simp only[al2,af6,c]<;>rfl),w.erase i,λ_=>rfl⟩,λx I=>by rw[qo c I,z]⟩
   |none=>exact⟨_,⟨_,_,L,O7 _ u (by simp only[al2,af6,c]<;>rfl),(by simp only[al2,af6,c]<;>rfl),w,λ_=>rfl⟩,λx _=>z x⟩
  obtain⟨g,B,G⟩:=H;have:=J _ g B G (U5 ..);rw[p]at this;exact this
end
end L2
namespace L2
open PySem PySem.Spec PySem.Calls PyProof.Rows PySem.W PySem.Builtin PySem.Builtin.ObjectAttr PySem.Builtin.Getset_descriptor
def xQ(C e:E9)(h:K0):Prop:=∃o,h.get? e=some o/\ExF C o
theorem xQ.type{M:ap6}{h:K0}{C e:E9}(x:xQ C e h):Looks M h (typeOf (.ref e)) (.ref C):=by
 obtain⟨o,g,r,_⟩:=x;exact r▸(Looks.ld g).andThen .now
section
variable{prog:K3}{w:P4}{A:L6}{E:s0->E3->Prop}{s:E3}{K:Frag}{x C D:E9}{name:Str}
theorem xj{M:ap6}{a:s0}{Q:Unit->E3->Prop}(X:K.In s.heap)(I:xQ D x s.heap)(n:mroIn K D (.type "BaseException")=some true)(f:Q () s):
  H0 M A (ac9 "BaseException.__getattribute__" ⟨[.ref x,a],[]⟩) Q E s:=by
 obtain⟨o,g,d,t,os⟩:=s;have j:builtinKind "BaseException.__getattribute__"=some .slot:=by decide +kernel
 have b:splitId "BaseException.__getattribute__"=some ("BaseException","__getattribute__"):=by decide +kernel
 have h:=F.args_bexc_ga (.ref x) a;have i:=I.type (M:=M);have m:=looks_mroIn (M:=M) X n;simp only[ac9,j,b];unfold isInstance;refine o0 (o0 (i.at (m.at ?_)));simp only[aa4,E7,if_false];cases e:Manifest.signature? "BaseException.__getattribute__" with
 |none=>exact E1 f
 |some c =>
  simp only[argsOk,e]at h;have l:Bind.checkArgs "BaseException.__getattribute__" c ⟨[.ref x,a],[]⟩=ae6 ():=h;show H0 M A (Bind.checkArgs "BaseException.__getattribute__" c ⟨[.ref x,a],[]⟩) Q E _;rw[l];exact E1 f
end
end L2
namespace L2
open PySem PySem.Spec PyProof.Rows
section
variable{X:Cx}{G:List (E9×Obj)}{σ:St}{H:Hp}{s:E3}
theorem kz{M:ap6}{A:L6}{E:s0->E3->Prop}{i:Nat}{x:Str}{pos:Pos}{Q:Unit->E3->Prop}(I:Inv X G σ H s)(Z:X.N.Nodup)(P:X.N[i]?=some x)(l:X.env.scope.names.lookup x=some .local)
  (h:∀s',Inv X G (σ.set i none) H s'->Q () s'):H0 M A (do bindName X.env x .none;unbindBehindTheSuite X.env x pos) Q E s:=by
 refine o0 (wpAny_bindName (gQ I Z P (.inl l) (v:=.non) (u:=.none) rfl (λs1 a=>?_) (.inr l)));have t:i<σ.length:=by rw[I.len];exact(J8.mp P).1
 unfold unbindBehindTheSuite;refine wpAny_onRaise ?_;unfold unbindName;refine o0 (wpAny_point (o0 ?_));unfold deleteName;have hl:X.env.kindOf x=some .local:=l;have J:(X.env.scope.kind==.class || (X.env.scope.kind==.module&&X.env.locals != X.env.globals))=false:=by rw[I.ok.kind];rfl
 simp only[hl,J];rw[if_neg (by decide)];obtain⟨m,hn,C⟩:=id a.loc;have hm:(m x).isSome=true:=by
  obtain⟨u,r,q⟩:=C i x .non P (by rw[S4 t]) (.inl l);rcases q with⟨_,e⟩|⟨k,_⟩
  ·rw[e];rfl
  ·rw[hl]at k;rcases k with k|k<;>cases k
 refine o0 (B0 hn λh2 m2 R T w=>?_);rw[hm];simp only[aa4,E7,if_false];refine E1 (wpAny_point (h _ ?_));have cne:=a.cne;obtain⟨oL,_,_,a0,_⟩:=id hn;have g:HOk X.prog X.w H h2:=λb ob e=>by
  refine(a.hok b ob e).stay (λc Y O q=>(w.2 c ?_).trans q) (λ_ q=>q) λ_ _ q=>q;rintro rfl;have f:=a.free;rcases O with rfl|O
  ·rw[f]at e;cases e
  ·rw[f]at O;cases O
 refine⟨a.ok,a.os,a.bare,⟨λb o e n S l=>?_,λb o e n S l=>?_,a.base.free,λb o e l=>?_,a.base.tups,a.base.frzs,a.base.tbls⟩,⟨_,R,λj y v' B L e3=>?_⟩,λy c e=>?_,a.free,a.freeC,λp hp=>?_,g,by simpa using I.len⟩
 ·exact(w.2 b (K5 (J0 (F9 e) I.ok.above))).trans (a.base.keep b o e n S l)
 ·obtain⟨sl,B⟩:=a.base.slot b o e n S l;exact⟨sl,(w.2 b (K5 (J0 (F9 e) I.ok.above))).trans B⟩
 ·obtain⟨o',B⟩:=a.base.there b o e l;exact⟨o',(w.2 b (K5 (J0 (F9 e) I.ok.above))).trans B⟩
 ·by_cases N:j=i
  ·subst N;rw[S4 t]at L;cases L
  ·rw[V7 (T9 N)]at L;obtain⟨u',r',q⟩:=C j y v' B (by rw[V7 (T9 N)];exact L) e3;refine⟨u',r',?_⟩;rcases q with⟨k,e⟩|⟨k,c,e,z⟩
   ·refine .inl ⟨k,?_⟩;have:y≠x:=λe=>N (mm Z B (e▸P));rw[T y this];exact e
   ·exact .inr ⟨k,c,e,z.sameBut w (cne y c e)⟩
 ·obtain⟨Y,z⟩:=a.cell y c e;exact⟨Y,z.sameBut w (cne y c e)⟩
 ·obtain⟨e,n,U,nf,d⟩:=a.pin p hp;exact⟨(w.2 p.1 U).trans e,n,U,nf,d⟩
theorem Inv.track{a:E9}{φ:K0->Prop}(I:Inv X G σ H s)(hn:H a=none)(w:cq X.prog X.w (upd H a (.ext φ)) s.heap a (.ext φ))(h0:X.s₀.heap.get? a=none)(m:a≠X.env.locals)(A:∀x c,X.env.cells.lookup x=some c->c≠a)
  (t:∀p∈X.pn++G,p.1≠a):Inv X G σ (upd H a (.ext φ)) s:=by
 have f:∀{b o},H b=some o->upd H a (.ext φ) b=some o:=λ{b o} q=>by
  by_cases z:b=a
  ·rw[z,hn]at q;cases q
  ·rw[aE z];exact q
 refine⟨I.ok,I.os,I.bare,⟨I.base.keep,I.base.slot,λb o e n x=>?_,I.base.there,λb h q=>f (I.base.tups b h q),λb o u q=>f (I.base.frzs b o u q),λb l q=>?_⟩,I.loc,I.cell,?_,λx c e=>?_,λp z=>?_,λb o e=>?_,I.len⟩
 ·have:b≠a:=λz=>by rw[z,h0]at e;cases e
  rw[aE this];exact I.base.free b o e n x
 ·obtain⟨g,C⟩:=I.base.tbls b l q;exact⟨g,f C⟩
 ·rw[aE (T9 m)];exact I.free
 ·rw[aE (A x c e)];exact I.freeC x c e
 ·obtain⟨B,E,j⟩:=I.pin p z;exact⟨B,by rw[aE (t p z)];exact E,j⟩
 ·by_cases i:b=a
  ·subst i;rw[aT]at e;cases e;exact w
  ·rw[aE i]at e;exact(I.hok b o e).stay (λc v _ r=>r) (λc r=>f r) λc h r=>f r
end
theorem SR.setN{K:u8}{M:DH}{H:Hp}{σ:St}{a:DE}(h:SR K M H σ a)(i:Nat):SR K M H (σ.set i none) (a.set i none):=by
 refine⟨by simp[h.1],λj e q=>?_⟩
 by_cases c:j=i
 ·subst c
  by_cases b:j<a.length
  ·rw[S4 b]at q;cases q
  ·rw[P8 (by simpa using b)]at q;cases q
 ·rw[V7 (T9 c)]at q ⊢;exact h.2 j e q
def Bs(j:Nat)(E:dR):dR where
 nx:=λb M=>∃a,LeM a M/\E.nx (b.set j none) a
 bk:=λb M=>∃a,LeM a M/\E.bk (b.set j none) a
 ct:=λb M=>∃a,LeM a M/\E.ct (b.set j none) a
 rt:=λd M=>∃a,LeM a M/\E.rt d a
abbrev Cx.caught(X:Cx)(a:E9):Cx:={ X with A:=X.A.mark (some (.ref a)),calm:=false,xe:=λ_ _=>False }
structure Dh(K:u8) (C:E9):Prop where
 ga:R3 K (.ref C) "__getattribute__"=some (some (.builtin "BaseException.__getattribute__"))
 gk:R3 K (.ref C) "__getattr__"=some none
 mb:aj8 K C (.type "BaseException")=some true
 cl:(PySem.W.clsIn K C).isSome=true
 ha:R3 K (.ref C) "__class__"=some (some (.builtin "object.__class__"))
 hn:ai3 K (.builtin "object.__class__") "__get__"=some (some (.builtin "getset_descriptor.__get__"))
 tk:PySem.W.takesIn K (.builtin "object.__class__")=some true
 mo:aj8 K C (.type "object")=some true
def BL(K:u8)(P:E9):u8:=K.filter λp=>p.1 != P
theorem dE{P a:E9}(h:a≠P):∀K:u8,(BL K P).lookup a=K.lookup a
 |[]=>rfl
 |(b,o)::K=>by
  have ih:=dE h K;unfold BL at ih ⊢
  by_cases c:b=P
  ·rw[List.filter_cons_of_neg (by simp[c]),ih,P1,beq_eq_false_iff_ne.mpr (λe=>h (e.trans c))]
  ·rw[List.filter_cons_of_pos (by simp[c]),P1,P1,ih]
theorem bo.cut{K:u8}{P f:E9}{x:Str}{st:X5}{o:J7}(i:bo K x st f o)(l:K.lookup P=some (PySem.W.tabObj #[])):bo (BL K P) x st f o:=by
 obtain⟨a,⟨p,t,kV,m,A,q,g,w,j,e,h,b⟩,kp⟩:=i;have n:f≠P:=λz=>by rw[z,l]at h;cases h
 have u:K1≠P:=λz=>by
  unfold M0 at a;rw[z,l]at a;cases a
 refine⟨?_,⟨p,t,kV,m,A,q,g,w,j,e,(dE n K).trans h,?_⟩,?_⟩
 ·unfold M0 at a ⊢;rw[dE u];exact a
 ·cases g<;>try (exact b)
  rename_i c;have s:c≠P:=λz=>by
   unfold ad2 at b;rw[z]at b;simp only[l]at b;cases b
  unfold ad2 at b ⊢;simp only[dE s];exact b
 ·unfold U9;simp only[dE n,h]
end L2
namespace L2
open PySem PySem.Spec PySem.Calls PyProof.Rows
end L2
namespace L2
open PySem PySem.Spec PyProof.Rows
end L2
namespace L2
open PySem PySem.Spec PyProof.Rows PySem.Calls PySem.SeqAt
end L2
namespace L2
open PySem PySem.Spec PyProof.Rows PySem.Calls PySem.SeqAt PySem.W
end L2
namespace L2
open PySem PySem.Spec PyProof.Rows PySem.Calls
end L2
namespace L2
open PySem PySem.Spec PyProof.Rows
end L2
namespace L2
open PySem PySem.Spec PyProof.Rows PySem.Calls PySem.SeqAt
end L2
namespace L2
open PySem PySem.Spec PyProof.Rows
end L2
namespace L2
open PySem PySem.Spec PySem.Calls PyProof.Rows PySem.W PySem.Builtin PySem.Builtin.ObjectAttr
section
variable{prog:K3}{w:P4}{A:L6}{E:s0->E3->Prop}{s:E3}{K:Frag}{x D:E9}{G:Obj}{z:Option Obj}{name:Str}
theorem BA{a:Bool}{v:s0}{Q:s0->E3->Prop}(X:K.In s.heap)(I:InstAt s.heap x G D z)(c:findIn K (.ref D) "__getattribute__"=some (some (.builtin "BaseException.__getattribute__")))(e:findIn K (.ref D) "__getattr__"=some none)(j:mroIn K D (.type "BaseException")=some true)
  (J:xQ D x s.heap) (l:findObj K D z name=some (.value v)) (m:handedIn v=true) (h:Q v { s with toks:=s.toks+1 }) :
  H0 (M8 prog w) A (getAttr (.ref x) name a) Q E s:=by
 obtain⟨n,p,d,t,os⟩:=s;have f:=I.type (M:=M8 prog w);have i:=looks_findIn (M:=M8 prog w) X c;have o:=looks_findIn (M:=M8 prog w) X e;have g:=looks_find (M:=M8 prog w) X I l;unfold getAttr getAttrBy;refine o0 (wpAny_mkText (O5 (o0 (f.at (o0 (i.at ?_))))));have b:(aj7 "BaseException.__getattribute__"==aj7 "object.__getattribute__")=false:=by decide +kernel
 simp only[b,aa9,E7,if_false];unfold getAttrByItsOwn hookBefore;refine o0 (o.at (o0 (wpAny_attempt (O5 ?_))));unfold callGetattribute boundAndCalled;simp only[onTheHeap,aa9,E7,if_false];rw[show bindSpecial (.builtin "BaseException.__getattribute__") (.ref x)=ae6 (.builtin "BaseException.__getattribute__",[.ref x])from F.excAttr_ValueError.ga.bind _];refine o0 (E1 (ad1 ?_));refine U0 F.excAttr_ValueError.ga.plain F.entry_bexc_ga (xj X J j ?_);refine o0 (E1 (o0 (E1 (o0 (f.at (o0 (g.at ?_)))))));refine E1 ?_;show H0 _ _ (handedOut v) _ _ _;rw[handedOut_of m];exact E1 h
end
end L2
namespace L2
open PySem PySem.Spec PyProof.Rows
theorem om{prog:K3}{w:P4}{A:L6}{E:s0->E3->Prop}{s:E3}{K:W.Frag}{x C:E9}{n:Obj}{name:Str}{v:s0}{H:Array s0}{cd:ClassData}{Q:Unit->E3->Prop}
  (X:K.In s.heap) (he:s.heap.get? x=some n) (l:n.cls=.ref C) (f:n.dict=none) (c:n.data=.fields H)
  (hs:W.findIn K (.ref C) "__setattr__"=some (some (.builtin "object.__setattr__"))) (T:W.clsIn K C=some cd) (M:W.mroIn K C (.type "object")=some true)
  (B:∀self,refuseLoop self "__setattr__" cd.mro=ae6 ()) (ha:W.findIn K (.ref C) name=some none) (Y:cd.hasDict=true)
  (h:∀(h':K0) (d:E9),(∀b o,b≠x->s.heap.get? b=some o->h'.get? b=some o)->s.heap.objs.size<=d->h'.get? x=some { n with dict:=some d }->(∃o,h'.get? d=some o/\W.lookIn name o=some (some v))->Q () { s with heap:=h',toks:=s.toks+2 }) :
  H0 (M8 prog w) A (setAttr (.ref x) name v) Q E s:=by
 have I:W.InstAt s.heap x n C none:=⟨he,l,by unfold W.notCls;rw[c],by rw[f];trivial⟩;refine W.set_plain X I hs ?_;have G:=F.store_object;have sub:al3 (M8 prog w) s.heap (isInstance (.ref x) (.type "object")) true:=al3.andThen (W.InstAt.type I) (W.looks_mroIn X M);refine U0 G.slot.plain G.entry ?_;have Z:=G.kind;have J:=G.split;have P:=G.args (J4 x) (am4 name s.toks) v;refine W.check_slot (i:="object.__setattr__") (owner:="object") (self:=.ref x) (rest:=[am4 name s.toks,v]) (kw:=[]) Z J sub P ?_;rw[W.osa_eq,refuse_eq];have hm:al3 (M8 prog w) s.heap (mroOf (.ref C)) cd.mro:=al3.andThen (W.looks_clsIn X T) al3.now;refine o0 (o0 (aj0 (W.InstAt.type I) (o0 (aj0 hm ?_))));rw[B];refine E1 (o0 (aj0 (W.InstAt.type I) (o0 (aj0 (W.looks_findIn X ha) (o0 (aj0 (r:=none) al3.now ?_))))));obtain⟨U,od,O,p⟩:=n;obtain rfl:U=.ref C:=l;obtain rfl:od=none:=f;obtain rfl:O=.fields H:=c;obtain⟨a,g,d,t,os⟩:=s;refine o0 (E1 (o0 (o0 (am3 he (o0 (aj0 (W.looks_clsIn X T) ?_))))));rw[Y];refine R7 (al0 (decide ((!true)=true))) ?_;refine R7 (al0 (decide ((!true || !typeHasDict (J4 C))=true))) ?_;refine o0 (wpAny_alloc (o0 (wpAny_update (E2 _ he) ?_)));dsimp only;have j:a.get? a.objs.size=none:=S2 (F3 _);have q:a.objs.size≠x:=λz=>by rw[z]at j;dsimp only at he;rw[he]at j;cases j
 refine E1 ?_;have L:(a.push { cls:=M7 "dict",data:=am5 #[] }).get? x=some { cls:=.ref C,data:=.fields H,slots:=p }:=E2 _ he;have R:((a.push { cls:=M7 "dict",data:=am5 #[] }).update x λo=>{ cls:=o.cls,dict:=some a.objs.size,data:=o.data,slots:=o.slots }).get? x=some { cls:=.ref C,dict:=some a.objs.size,data:=.fields H,slots:=p } :=
  O7 _ L rfl
 have m:((a.push { cls:=M7 "dict",data:=am5 #[] }).update x λo=>{ cls:=o.cls,dict:=some a.objs.size,data:=o.data,slots:=o.slots }).get? a.objs.size=some { cls:=M7 "dict",data:=am5 #[] }:=by
  rw[L8 _ _ (T9 q)];exact F6 _ rfl
 have S:∀b o,b≠x->a.get? b=some o->((a.push { cls:=M7 "dict",data:=am5 #[] }).update x λo=>{ cls:=o.cls,dict:=some a.objs.size,data:=o.data,slots:=o.slots }).get? b=some o:=λb o N e=>by
  rw[L8 _ _ (T9 N)];exact E2 _ e
 generalize ((a.push { cls:=M7 "dict",data:=am5 #[] }).update x λo=>{ cls:=o.cls,dict:=some a.objs.size,data:=o.data,slots:=o.slots })=h1 at *
 refine o0 (E1 (o0 ?_));show H0 _ _ (Q9 _ _) _ _ _;refine o0 (o0 (wpAny_askSetting (E1 ?_)));refine o0 (wpAny_mkText (o0 (am3 m ?_)));dsimp only;refine R7 (show decide (aRefKeyMayBeTheName name #[]=true)=false from rfl) (wpAny_updatePart m ?_);dsimp only;have u:=O7 (Obj.putName name (if name.cps.isEmpty=true then 0 else ap5 ((M8 prog w).w.params.strHash name.cps)) (am4 name (t+1)) v) m rfl;refine o0 (o0 (am3 u ?_));refine E1 (E1 ?_);refine h _ a.objs.size (λb o N e=>?_) (F3 _) ?_ ⟨_,u,?_⟩
 ·rw[L8 _ _ (λz=>by subst z;dsimp only at e;rw[j]at e;cases e)];exact S b o N e
 ·rw[L8 _ _ q];exact R
 ·exact(congrArg (W.lookIn name) (W.putName_dict name _ _ v [] 0)).trans (by rw[W.lookIn_dict];simp[W.putL,W.getL,s0.isStr])
def j8(f:Str)(dd:E9)(v:V)(h:K0):Prop:=∃o u,h.get? dd=some o/\PySem.W.lookIn f o=some (some u)/\aH v u
theorem yq{P:K3}{w:P4}{H:Hp}{h:K0}{f:Str}{dd:E9}{v:V}(x:j8 f dd v h):cq P w H h dd (.ext (j8 f dd v)):=by
 obtain⟨o,u,g,l,r⟩:=x;exact⟨⟨o,u,g,l,r⟩,⟨_,g⟩,λa b ⟨o,u,q,l,r⟩ k=>⟨o,u,k _ q,l,r⟩⟩
def nT(x:Option E9)(C e:E9)(h:K0):Prop:=∃b a,h.get? e=some { cls:=.ref C,dict:=x,data:=.fields #[b,.none,.none,.none,.bool false,.none],slots:=a }
theorem zo{P:K3}{w:P4}{H:Hp}{h:K0}{y:Option E9}{C e:E9}(x:nT y C e h):cq P w H h e (.ext (nT y C e)):=by
 obtain⟨f,a,g⟩:=x;exact⟨⟨f,a,g⟩,⟨_,g⟩,λi j ⟨b,c,q⟩ k=>⟨b,c,k _ q⟩⟩
section
variable{X:Cx}{J O G:Str}{C W fI:E9}
def tSF(G:Str)(C:E9)(i j:Nat):TS:=λD b H=>∃e v,b[i]?=some (some (.ref e))/\b[j]?=some (some v)/\H e=some (.ext (oO C e))/\∀a,H a=none->D.nx b (upd (upd H e (.ext (nT (some a) C e))) a (.ext (j8 G a v)))
theorem Cc(Y:mO X.K X.mg J O G C W fI)(i j:Nat){x y:Str}{A Q pa pos:Pos}(hx:PE X (.Name x A) (vg i))(hy:PE X (.Name y Q) (vg j))
  (hs:ak3 (.Name y Q) (some (.Attribute (.Name x A) G pa)) pos.line X.env=ae6 false:=by rfl):PS X (.Assign [.Attribute (.Name x A) G pa] (.Name y Q) pos) (tSF G C i j):=by
 intro ae s Z H D I h;obtain⟨e,v,ei,ej,R,q⟩:=h;refine plainObj_wpAny_Assign_Attribute (thn (hy ae s Z H (λT L=>T=v/\L=H) I ⟨v,ej,rfl,rfl⟩) λu s1 E=>?_) hs;obtain⟨v0,_,I1,rv,ev,rfl⟩:=E;subst ev;refine thn (hx ae s1 Z _ (λT L=>T=.ref e/\L=_) I1 ⟨_,ei,rfl,rfl⟩) λu2 B M=>?_;obtain⟨_,H2,n,P,rfl,rfl⟩:=M;obtain rfl:u2=.ref e:=P;obtain⟨⟨a0,a1,g⟩,_⟩:=n.hok e _ R;obtain⟨nm,q',N,bs,sn,sub,ab,U,dd,k0,k1,k2,k3,k5,lC⟩:=Y.lC;refine om n.kIn g rfl rfl rfl Y.sC (cd:={ name:=nm,bases:=bs,mro:=[.ref C,.ref W,.type "ValueError",.type "Exception",.type "BaseException",.type "object"],ns:=N,qualname:=q',hasDict:=true,slotNames:=sn,subclasses:=sub,abstract:=ab,collection:=U }) ?_ Y.mC (λt=>u9 t C W) Y.tC rfl λh' l kp S ge gd=>?_
 ·unfold PySem.W.clsIn;rw[lC]
 ·have I3:=n.write (t':=B.toks+2) (x:=e) (e:=e) (o:=.ext (nT (some l) C e)) (by rw[R];trivial) (.inl rfl) (λb u hb hu=>kp b u hb hu) ⟨_,ge⟩ (zo ⟨_,_,ge⟩);have w:H2 l=none:=n.hok.fresh S;have ne:l≠e:=λz=>by rw[z,R]at w;cases w
  obtain⟨o,go,lo⟩:=gd;have n0:B.heap.get? l=none:=S2 S;have f:∀{b o},B.heap.get? b=some o->b≠l:=λe z=>by rw[z,n0]at e;cases e
  refine⟨Z,_,I3.track (a:=l) (φ:=j8 G l v0) (by rw[aE ne];exact w) (yq ⟨o,_,go,lo,rv⟩) (S2 (L5 n.sz S)) ?_ (λx c e=>?_) (λp hp=>?_),q l w⟩
  ·obtain⟨m,⟨o,es,ep,g,_⟩,_⟩:=n.loc;exact(f g).symm
  ·obtain⟨v,o,g,_⟩:=n.cell x c e;exact f g
  ·exact f (n.pin p hp).1
end
def spF(fld:Str)(C:E9):Sp:=λb H Q _=>∃e v,b=[.ref e,v]/\H e=some (.ext (oO C e))/\∀a,H a=none->Q .non (upd (upd H e (.ext (nT (some a) C e))) a (.ext (j8 fld a v)))
section
variable{X:Cx}{O xW G:Str}{C W fI:E9}{J:List (E9×Obj)}{σ:St}{H:Hp}{s:E3}
def rfQ(G:Str)(XW:E9->Hp->Prop):List V->Hp->Prop
 |[x],b=>∀a,b a=none->XW a (upd b a (.ext (j8 G a x)))
 |_,_=>False
def tRF(G:Str)(XW:E9->Hp->Prop)(te:TE):TS:=λ_ σ H=>te σ H λx a=>rfQ G XW [x] a
theorem C6{XW:E9->Hp->Prop}{k:Nat}{fd:J7}{ps:List Str}{e:L7}{te:TE}{p pos pc:Pos}(Y:mO X.K X.mg O xW G C W fI)(F:aO X.prog X.w X.K X.mg X.base CX0 k fI fd ps (spF G C))(hb:cY X.K fd ps [])(hf:∃P,X.K.lookup fI=some P/\P.cls=M7 "function")
  (hr:cg (k+1) X.A) (hg:Gl X O) (hc:X.calm=true) (he:PE X e te)
  (hx:∀J σ H s a dd,Inv X J σ H s->XW dd H->H a=none->nT (some dd) C a s.heap->X.s₀.heap.get? a=none->X.xe (.ref a) s)
  (hdb:(O==("__debug__":Str))=false:=by decide) (m:F0 [e] X.env=(false,Z1 e X.env)::F0 [] X.env:=by rfl) :
  PS X (.Raise (some (.Call (.Name O p) [e] [] pc)) none pos) (tRF G XW te):=by
 intro J s σ H D I h;obtain⟨nm,q',N,bs,sn,sub,ab,n,dd,k0,k1,k2,k3,k5,lC⟩:=Y.lC;obtain⟨P,lI,cI⟩:=hf;refine sh (C:=C) (bm:=[.ref W,.type "ValueError",.type "Exception",.type "BaseException",.type "object"]) (hdct:=true) (nm:=nm) (q:=q') (N:=N) (bs:=bs) (sn:=sn) (sub:=sub) (ab:=ab) (col:=n) (dd:=dd) (k0:=k0) (k1:=k1) (k2:=k2) (k3:=k3) (k5:=k5) (newId:="ValueError.__new__") rfl (I.ok.hd hc) (S5 (jd I hg Y.gC ?_ hdb));have ha:PA X [e] (uw te BS):=cu he fH m;refine PySem.W.callWith_K (h₀:=X.base) I.ok.mod.kin Y.kC (thn (ha pc J s σ H (rfQ G XW) I h) λg s1 hs=>⟨?_,?_⟩) m rfl
 ·obtain⟨Q,i,f,Z,_⟩:=hs;exact f.kIn
 obtain⟨Q,i,f,Z,q⟩:=hs;obtain⟨v,rfl⟩:∃v,Q=[v]:=by
  match Q,q with
  |[v],_=>exact⟨v,rfl⟩
 obtain⟨hp,gs,d,t,os⟩:=s1;have a1:g.length=1:=by rw[<-Z.length];rfl
 refine rE PySem.F.excBase_ValueError (Y.tail f.kIn) (f.kIn _ _ lC) f.kIn Y.iC (f.kIn _ _ lI) cI (λh' a j x=>?_) ?_
 ·obtain⟨kp,new,t',ge,_,_⟩:=x;have S:Inv X J σ (upd i a (.ext (oO C a))) { heap:=h',gens:=gs,drawn:=d,toks:=t,os:=os }:=f.laid (t':=t) kp j (sP ⟨_,_,ge⟩);have M:i a=none:=f.hok.fresh j;have r2:az [V.ref a,v] (J4 a::g):=.cons rfl Z;have l:spF G C [V.ref a,v] (upd i a (.ext (oO C a))) (λu H2=>u=.non/\∃dd,i dd=none/\dd≠a/\H2=upd (upd i dd (.ext (j8 G dd v))) a (.ext (nT (some dd) C a))) E0:=⟨a,v,rfl,aT,λdd B=>by
   have T:dd≠a:=λz=>by rw[z,aT]at B;cases B
   rw[aE T]at B;refine⟨rfl,dd,B,T,?_⟩;rw[xZ];funext b;unfold upd
   by_cases z1:b=dd
   ·subst z1;simp[T]
   ·simp[z1]⟩
  have L:(J4 a::g++[]).length=ps.length:=by
   rw[ab4,<-r2.length];exact F.len _ _ _ _ l
  refine ad1 (V8 (F.run _ X.stack _ _ ⟨J4 a::g,[]⟩ (J4 a::g) _ _ E0 (hr.make C g []) (S.env0.make C g []) (by simpa using hb _ (J4 a::g) S.kIn L) r2 l) λr s' c=>?_);cases r with
  |error e=>exact c.elim
  |ok fl =>
   cases fl with
   |ret u =>
    obtain⟨v3,H3,I3,E,rfl,A,R,U,rfl⟩:=S.after c;obtain rfl:u=K2:=E;obtain⟨a0,o,g3⟩:=(I3.hok a _ aT).1;refine⟨rfl,a,_,a0,o,rfl,I3.kIn _ _ lC,g3,?_⟩;have w:upd i A (.ext (j8 G A v)) a=none:=by rw[aE (T9 U)];exact M
    refine hx J σ _ s' a A (I3.forget w) (q A R) w ⟨a0,o,g3⟩ ?_;exact S2 (L5 f.sz j)
   |next=>exact T7 c
   |brk=>exact T7 c
   |cont=>exact T7 c
 ·rw[M9,a1];exact al4 (nJ (by decide))
end
def ExG(x:Option E9)(C:E9)(o:Obj):Prop:=ExF C o/\o.dict=x
theorem lM{x:Option E9}{C:E9}:lG (ExG x C):=λo v ⟨a,e⟩=>⟨sd o v a,by
 obtain⟨c,d,b,f⟩:=o;cases b<;>exact e⟩
def Co(x:Option E9)(C a T:E9)(h0 h:K0):Prop:=∃b e f c,h.get? a=some b/\ExG x C b/\b.data=.fields e/\e[1]?=some (.ref T)/\h0.get? T=none/\T≠a/\h.get? T=some f/\f.data=.fields c/\c[3]?=some .none
def CX2(P:K3)(w:P4)(Cs:List E9):CXT:=λb H s E e c=>∃(i:Nat) (C:E9) (x:Option E9) (a T:E9) (f:Hp),Cs[i]?=some C/\e=.ref a/\c.os=s.os/\aj1 c.gens/\Un (frs b) [] H f s.heap c.heap/\HOk P w f c.heap/\s.heap.get? a=none/\f a=none/\f T=none/\Co x C a T s.heap c.heap/\E (.ref C) x f
section
variable{P:K3}{w:P4}{K:u8}{Y:Str->Option s0}{base:K0}{N:List Str}{O:Str}{J:ae7}{f:E9}{cd:s0}{A:L6}{G:List Env}{s:E3}{H:Hp}{E:XK}{Cs:List E9}
theorem oP{ae:List (E9×Obj)}{σ:St}{B:Hp}{p:E3}{a C:E9}{x0:Option E9}{i:Nat}(I:Inv (kL (CX2 P w Cs) P w K Y base N O J f cd A G s H E) ae σ B p)(hC:Cs[i]?=some C)(q:E (.ref C) x0 B)(hn:B a=none)(x:nT x0 C a p.heap)(h0:s.heap.get? a=none):
  (kL (CX2 P w Cs) P w K Y base N O J f cd A G s H E).xe (.ref a) p:=by
 obtain⟨a0,a4,g⟩:=x;have X:=I.stack;have j:∀b∈frs (ag6 O J s.heap.objs.size f cd::G),∃o,p.heap.get? b=some o/\∀vs:Array s0,o.data≠af2 vs:=λb l=>(X.mem l).2;have a3:a∉frs (ag6 O J s.heap.objs.size f cd::G):=λl=>by
  obtain⟨o,e,d⟩:=j a l;rw[g]at e;cases e;exact d _ rfl
 refine pU lM (base:=PySem.W.hideAll p.heap (a::frs (ag6 O J s.heap.objs.size f cd::G))) I.ok.frames ?_ (L:=s.heap.objs.size) rfl g ?_ ?_ rfl rfl ⟨⟨rfl,_,rfl,rfl⟩,rfl⟩ λh' lf=>?_
 ·exact PySem.W.funFrames_hide X λa1 he b l=>I0 _ (V1.mpr ⟨a1,he,l⟩)
 ·exact λb o e=>PySem.W.of_hideAll _ e
 ·exact ae4 _ R0
 obtain⟨st,ff,⟨oe,vs,T,oT,ts,t1,t2,t3,t4,t5,t6,t7,t8,t9⟩,up⟩:=lf;have keep:∀b o,p.heap.get? b=some o->b≠a->b∉frs (ag6 O J s.heap.objs.size f cd::G)->h'.get? b=some o:=λb o e l m=>st b o (ac1 _ e (λz=>(F8.mp z).elim l m));have hT:p.heap.get? T=none:=by
  cases e:p.heap.get? T with
  |none=>rfl
  |some o =>
   by_cases m:T∈frs (ag6 O J s.heap.objs.size f cd::G)
   ·obtain⟨o',Q,S⟩:=j T m;obtain⟨sl,R⟩:=up T o' Q S;rw[t7]at R;cases R;exact absurd t8 (S ts)
   ·rw[ac1 _ e (λz=>(F8.mp z).elim t6 m)]at t5;cases t5
 have un:Un (frs G) [] H B s.heap p.heap:=I.base;have M:∀b∈frs (ag6 O J s.heap.objs.size f cd::G),B b=none:=I.stkFree;have a2:∀b o,s.heap.get? b=some o->b∈frs (ag6 O J s.heap.objs.size f cd::G)->b∈frs G:=λb o e l=>by
  rcases F8.mp l with z|z
  ·subst z;exact absurd (F9 e) (Z7 _)
  ·exact z
 refine⟨i,C,x0,a,T,B,hC,rfl,I.os,I.bare,⟨λb o e n U u=>?_,λb o e n U u=>?_,λb o e n u=>un.free b o e n u,λb o e u=>?_,un.tups,un.frzs,un.tbls⟩,λb o e=>?_,h0,hn,?_,⟨oe,vs,oT,ts,t1,t2,t3,t4,?_,t6,t7,t8,t9⟩,q⟩
 ·exact keep b o (un.keep b o e n U u) (λz=>by rw[z,h0]at e;cases e) λz=>U (a2 b o e z)
 ·obtain⟨sl,h⟩:=un.slot b o e n U u;obtain⟨o',Q,S⟩:=j b (I0 _ U);rw[h]at Q;cases Q;obtain⟨Z,R⟩:=up b _ h S;exact⟨Z,R⟩
 ·obtain⟨o1,h⟩:=un.there b o e u
  by_cases m:b∈frs (ag6 O J s.heap.objs.size f cd::G)
  ·obtain⟨o',Q,S⟩:=j b m;obtain⟨Z,R⟩:=up b _ Q S;exact⟨_,R⟩
  ·exact⟨o1,keep b o1 h (λz=>by rw[z,h0]at e;cases e) m⟩
 ·refine(I.hok b o e).stay (λc v t r=>keep c v r ?_ ?_) (λc r=>r) λc xs r=>r
  ·rintro rfl;rcases t with rfl|t
   ·rw[hn]at e;cases e
   ·rw[hn]at t;cases t
  ·intro m;have:=M c m;rcases t with rfl|t
   ·rw[this]at e;cases e
   ·rw[this]at t;cases t
 ·cases e:B T with
  |none=>rfl
  |some o =>
   obtain⟨o1,h⟩:=(I.hok T o e).is;rw[hT]at h;cases h
 ·cases e:s.heap.get? T with
  |none=>rfl
  |some o =>
   obtain⟨o1,h⟩:=un.there T o e (by simp);rw[hT]at h;cases h
end
def xA(i:Nat)(x:Option E9):D:=.box (.dk [.inl (i:Int)]) (match x with|none=>[]|some d=>[.ref d,.ref d])
def isX:D->Option (Nat×Option E9)
 |.box (.dk [.inl i]) []=>some (i.toNat,none)
 |.box (.dk [.inl i]) [.ref d,.ref _]=>some (i.toNat,some d)
 |_=>none
theorem qX{i:Nat}{x:Option E9}:isX (xA i x)=some (i,x):=by cases x<;>simp[xA,isX]
theorem xN{d:D}{i:Nat}{x:Option E9}(h:isX d=some (i,x)):(∃j:Int,d=.box (.dk [.inl j]) [])∨∃(j:Int) (a b:E9),d=.box (.dk [.inl j]) [.ref a,.ref b]:=by
 unfold isX at h
 split at h
 ·exact .inl ⟨_,rfl⟩
 ·exact .inr ⟨_,_,_,rfl⟩
 ·cases h
theorem yB{K:u8}{M:DH}{H:Hp}{v:V}{d:D}(h:Rep K M H d v):isX d=none:=by
 cases e:isX d with
 |none=>rfl
 |some p =>
  rcases xN (i:=p.1) (x:=p.2) e with⟨j,rfl⟩|⟨j,a,b,rfl⟩
  ·obtain⟨a,f,_,⟨c,_⟩,r⟩:=h;simp only[ak]at r;subst r;cases c
  ·obtain⟨a,f,_,⟨c,_⟩,r⟩:=h;have:=r.length;simp at this c
   lia
def Eu(f:Str)(dd:E9):List V->K0->Prop
 |[v]=>j8 f dd v
 |_=>λ_=>False
def qL(f:Str)(dd:E9)(d:D):HD:=.ext (Eu f dd) [d]
def Cd(K:u8)(Cs:List E9)(XW:E9->Option E9->Hp->Prop)(t:TSd):TS:=λD b H=>∃(a:DE) (M:DH) (E:dR),SR K M H b a/\HR K M H/\t E a M/\UpE K E D M H/\∀(i:Nat) (x:Option E9) (C:E9) M' H',E.rt (xA i x) M'->Cs[i]?=some C->Ext M H M' H'->HR K M' H'->XW C x H'
def PSy(X:Cx)(Cs:List E9)(XW:E9->Option E9->Hp->Prop)(st:X5)(t:TSd):Prop:=PS X st (Cd X.K Cs XW t)
def qh(X:Cx)(Cs:List E9)(XW:E9->Option E9->Hp->Prop)(st:List X5)(t:TSd):Prop:=PSs X st (Cd X.K Cs XW t)
section
variable{X:Cx}{XW:E9->Option E9->Hp->Prop}{Cs:List E9}{a b c e:L7}{te:TEd}{pos:Pos}{st:X5}{rest:List X5}{t u:TSd}{I xW G:Str}{C W O:E9}
theorem oK(h:QSd X st t):PSy X Cs XW st t:=by
 rw[QSd.eq]at h;exact PS.conv h λD e H ⟨a,M,E,b,c,q,k,_⟩=>⟨a,M,E,b,c,q,k⟩
theorem rQ:qh X Cs XW [] wY:=uf.conv λD b H ⟨a,M,E,c,e,q,u,_⟩=>u.nx a M b H q (Ext.refl _ _) e c
theorem cO(l:PSy X Cs XW st t)(n:qh X Cs XW rest u):qh X Cs XW (st::rest) (xT t u) :=
 (lQ l n).conv λD I H ⟨h,M,E,B,p,q,k,x⟩=>⟨h,M,{ E with nx:=u E },B,p,q,⟨λb w z J o g c f=>⟨b,w,E,f,c,o,k.ext g,λC m i a e s A j G=>x C m i a e s A (g.trans j) G⟩,k.bk,k.ct,k.rt⟩,x⟩
theorem fv(a:PSy X Cs XW st t):qh X Cs XW [st] t:=o8 a
theorem xy{A B:List X5}{tc:TTd}(z:QTd X c tc)(ha:qh X Cs XW A t)(G:qh X Cs XW B u):PSy X Cs XW (.If c A B pos) (z9 tc t u):=by
 rw[QTd.eq]at z;exact(zM z ha G).conv λD I H ⟨i,M,E,o,C,q,k,x⟩=>⟨i,M,_,o,C,q,λb M1 J h f g=>by
  cases b with
  |true=>simp only[if_true]at h ⊢;exact⟨i,M1,E,o.ext f,g,h,k.ext f,λp w j e a l m n s=>x p w j e a l m (f.trans n) s⟩
  |false=>simp only[E7,if_false]at h ⊢;exact⟨i,M1,E,o.ext f,g,h,k.ext f,λp w j e a l m n s=>x p w j e a l m (f.trans n) s⟩⟩
theorem DA{R iter:L7}{o:List X5}{Z:TId}{g:GD}{O:TSd}(hp:ai6 (M8 X.prog X.w) X.A X.env X.xe)(hc:X.calm=true)(hi:QId X R iter Z)(hg:PGd X R g)(hb:qh X Cs XW o O)
  (hs:∀x,X2 iter X.env x=ae6 x:=by intro _;rfl):PSy X Cs XW (.For R iter o [] pos) (Az Z g O):=by
 rw[QId.eq]at hi;obtain⟨gv,pg,kg⟩:=hg;refine(wa hp hc hi pg hb hs).conv λD σ H hh=>?_;obtain⟨U,M,E,sr,hr,q,k,xx⟩:=hh;refine⟨U,M,_,sr,hr,q,λj M1 J Y q1 A S it=>?_⟩;refine⟨λi m c l=>∃ a b,m=j.length-i/\i<=j.length/\Ext M1 Y b l/\HR X.K b l/\SR X.K b l c a/\cx g O E (j.drop i) a b,⟨j.length,U,M1,by simp,O2 _,Ext.refl _ _,S,sr.ext A,q1⟩,?_⟩;rintro i m w H2 ⟨N,M2,rfl,a1,s,I,G,C⟩;obtain⟨go,stop⟩:=it M2 H2 s I i
 by_cases n:i<j.length
 ·have hd:j[i]?=some j[i]:=by simp[n]
  obtain⟨g1,y1⟩:=go _ hd;rw[S0 n]at C;simp only[cx]at C;obtain⟨B,eg,f3⟩:=C;refine .inr ⟨g1,λc l=>∃m',m'<j.length-i/\∃ a b,m'=j.length-(i+1)/\i+1<=j.length/\Ext M1 Y b l/\HR X.K b l/\SR X.K b l c a/\cx g O E (j.drop (i+1)) a b,λc l z=>z,λx l hy=>?_⟩;obtain⟨u,L,rx⟩:=y1 x l hy;refine kg _ x w N B M2 l _ (G.ext u) L rx eg λa0 P=>?_;refine⟨B,M2,_,P,L,f3,⟨λa b c f p t e h=>?_,λa b c f p t e h=>?_,λa b c f p t e h=>?_,λd b v f p t e Q=>?_⟩,λi0 x0 C0 T f z1 z0 z2 z3=>xx i0 x0 C0 T f z1 z0 (((A.trans s).trans u).trans z2) z3⟩
  ·exact⟨_,by lia,a,b,rfl,n,(s.trans u).trans t,e,h,p⟩
  ·exact k.nx a b c f p (((A.trans s).trans u).trans t) e h
  ·exact⟨_,by lia,a,b,rfl,n,(s.trans u).trans t,e,h,p⟩
  ·exact k.rt d b v f p (((A.trans s).trans u).trans t) e Q
 ·rw[ad3 (by lia)]at C;exact .inl ⟨stop (by lia),k.nx N M2 w H2 C (A.trans s) I G⟩
def tX(G:Str)(i:Nat)(te:TEd):TSd:=λE b M=>te b M λd M1=>∀a,M1 a=none->∃M2,LeM M2 (ay M1 a (qL G a d))/\E.rt (xA i (some a)) M2
theorem yC(i:Nat){k:Nat}{t:J7}{ps:List Str}{p Q:Pos}(S:Cs[i]?=some C)(Y:mO X.K X.mg I xW G C W O)(F:aO X.prog X.w X.K X.mg X.base CX0 k O t ps (spF G C))(A:cY X.K t ps [])(J:∃o,X.K.lookup O=some o/\o.cls=M7 "function")
  (hr:cg (k+1) X.A) (hg:Gl X I) (P:X.calm=true) (he:QEd X e te)
  (R:∀g σ H s a x,Inv X g σ H s->XW C x H->H a=none->nT x C a s.heap->X.s₀.heap.get? a=none->X.xe (.ref a) s)
  (hdb:(I==("__debug__":Str))=false:=by decide) (l:F0 [e] X.env=(false,Z1 e X.env)::F0 [] X.env:=by rfl) :
  PSy X Cs XW (.Raise (some (.Call (.Name I p) [e] [] Q)) none pos) (tX G i te):=by
 rw[QEd.eq]at he;refine(C6 (XW:=λb H=>XW C (some b) H) Y F A J hr hg P he (λg σ H s a b=>R g σ H s a (some b)) hdb l).conv λD σ H ⟨u,M,E,L,hr,q,k,x⟩=>⟨u,M,_,L,hr,q,λd M1 v m B N c w b n=>?_⟩;obtain⟨M2,f,z⟩:=B b (c.fresh n);have j:Ext M1 m (ay M1 b (qL G b d)) (upd m b (.ext (j8 G b v))):=Ext.own n;have h:HR X.K (ay M1 b (qL G b d)) (upd m b (.ext (j8 G b v))):=c.put j ⟨[v],aT,by simp only[ak];exact⟨_,_,rfl,w.ext j,rfl⟩⟩;exact x i (some b) C M2 _ z S ((N.trans j).trans (Ext.le f)) (h.le f)
end
def spY(K:u8)(n:Nat)(S:SpD)(Cs:List E9):Sp:=λe H Q E=>∃(c:List D) (M:DH) (R:D->DH->Prop),c.length=n/\ak K M H c e/\HR K M H/\S c M R/\(∀d a v b,R d a->Ext M H a b->HR K a b->Rep K a b d v->Q v b) /\
 ∀(i:Nat) (x:Option E9) (C:E9) a b,R (xA i x) a->Cs[i]?=some C->Ext M H a b->HR K a b->E (.ref C) x b
section
variable{P:K3}{w:P4}{K:u8}{G:Str->Option s0}{base:K0}{f:E9}{z:J7}
theorem Fun.okY{x b:Str}{st:X5}{f:E9}{z:J7}{N ps:List Str}{k n:Nat}{S:SpD}{Cs:List E9}(F:Fun K x b st f z)(hn:ps.length=n)(X:au N ps (ah st))
  (i:∀ (c:s0) (A:L6) (a:List Env) (s:E3) (H:Hp) (E:XK),cg k (A.deeper (ag6 b (ah st) s.heap.objs.size f c)) →
   ∃t:TSd,qh (kL (CX2 P w Cs) P w K G base N b (ah st) f c A a s H E) Cs (λC x j=>E (.ref C) x j) (cf st) t/\∀ds M R,ds.length=n->S ds M R->t { nx:=λ_ l=>R .non l,rt:=R } (fu N ds) M):aO P w K G base (CX2 P w Cs) (k+1) f z ps (spY K n S Cs):=by
 obtain⟨oc,od,kV,J,pm,an,c,ct,Y,rfl,T,o⟩:=F.ex;refine zy T o X (λvs H Q E h=>?_) λA a s H vs Q E O h=>?_
 ·obtain⟨ds,M,R,m,r,_⟩:=h;rw[hn,<-r.length];exact m
 obtain⟨t,L,hq⟩:=i c A a s H E O;obtain⟨ds,M,R,m,r,u,q,B,kx⟩:=h;exact⟨_,L,fu N ds,M,_,qg r,u,hq ds M R m q,⟨λI l U j e p g _=>B .non l .non j e p g (by simp[Rep]),λ_ _ _ _ e=>T7 e,λ_ _ _ _ e=>T7 e,λd l v j e p g Z=>B d l v j e p g Z⟩,kx⟩
end
structure FnY(P:K3) (w:P4) (K:u8) (mg:Str->Option s0) (base:K0) (x:Str) (k n:Nat) (S:SpD) (Cs:List E9):Prop where
 ex:∃(f:E9) (fd:J7) (ps:List Str),aO P w K mg base (CX2 P w Cs) k f fd ps (spY K n S Cs)/\mg x=some (.ref f)/\U9 K (.ref f)=true/\cY K fd ps []
theorem fgY{P:K3}{w:P4}{K:u8}{c:Str->Option s0}{base h:K0}{x:Str}{st:X5}{f:E9}{Cs:List E9}{a:J7}{S:SpD}{k:Nat}{ps:List Str}{n:Nat}(X:K.In h)(G:h.Ns K1 c)(i:bo K x st f a)(o:aO P w K c base (CX2 P w Cs) k f a ps (spY K n S Cs))(b:cY K a ps []):FnY P w K c base x k n S Cs:=⟨_,_,_,o,P3 X G i.a,i.F.kp,b⟩
section
variable{M:ap6}{A:L6}{E:s0->E3->Prop}
variable{nm q Y q2:Str}{C N W N2:E9}{bs bm bs2 G:List s0}{hdct I:Bool}{sn sn2:List Str}{sub J:List s0}{ab ab2:Bool}{col O:Option Bool}{dd dd2:Option E9}{k0 k1 k2 k3 k5 l0 l1 l2 l3 l5:Option s0}{newId z:String}
theorem xY{h:K0}{g:Array aj5}{d:Drawn}{t:Nat}{os:OsState}{e:E9}{j:Obj}{Q:Bool->E3->Prop}
  (l:h.get? C=some (U6 nm q C N bs bm hdct sn sub ab col dd k0 k1 k2 k3 k5 newId)) (i:h.get? W=some (U6 Y q2 W N2 bs2 G I sn2 J ab2 O dd2 l0 l1 l2 l3 l5 z)) (he:h.get? e=some j) (a:j.cls=.ref C)
  (n:G.contains (.type "BaseException")=true) (b:(J4 C::bm).contains (.ref W)=true)
  (m:Q true ⟨h,g,d,t,os⟩):H0 M A (excMatches (.ref e) (.ref W)) Q E ⟨h,g,d,t,os⟩:=by
 have c:(J4 W::G).contains (.type "BaseException")=true:=by rw[List.contains_cons,n,Bool.or_true]
 have f:=tc_notTuple;unfold excMatches
 repeat (first|(with_reducible refine T8 he ?_;rw[a])|with_reducible refine T8 i ?_|with_reducible refine T8 l ?_|(with_reducible refine af5 i ?_;rw[c])|(with_reducible refine af5 l ?_;rw[b])|wp_step)
 exact m
end
def ExX(x:Option E9)(C a:E9)(h:K0):Prop:=∃o,h.get? a=some o/\ExG x C o
def ExY(Cs:List E9)(i:Nat)(x:Option E9)(a:E9)(h:K0):Prop:=∃C,Cs[i]?=some C/\ExX x C a h
theorem BZ{P:K3}{w:P4}{H:Hp}{h:K0}{Cs:List E9}{i:Nat}{x:Option E9}{a:E9}(z:ExY Cs i x a h):cq P w H h a (.ext (ExY Cs i x a)):=by
 obtain⟨C,b,o,g,r⟩:=z;exact⟨⟨C,b,o,g,r⟩,⟨_,g⟩,λc e ⟨C,b,o,q,r⟩ k=>⟨C,b,o,k _ q,r⟩⟩
def exY(Cs:List E9)(i:Nat)(x:Option E9)(a:E9):HD:=.ext (λ_=>ExY Cs i x a) []
section
variable{X:Cx}{O:List (E9×Obj)}{σ:St}{Y G:Hp}{I s':E3}{C a T:E9}{y:Option E9}{Cs:List E9}{J:Nat}
theorem yF{xW n:Str}{W:E9}{p pos:Pos}{b0:X5}{t:List X5}{Q:Flow->E3->Prop}{E':s0->E3->Prop}(E:Inv X O σ Y I)(R:X.stack=X.env::X.outer)(b1:X.env.frame=some X.env.locals)(hg:Gl X xW)(hm:X.mg xW=some (.ref W))
  (lC:∃nm q N bs bm hd sn sub ab col dd k0 k1 k2 k3 k5 newId,X.K.lookup C=some (U6 nm q C N bs bm hd sn sub ab col dd k0 k1 k2 k3 k5 newId)/\(J4 C::bm).contains (.ref W)=true)
  (lW:∃nm q N bs bm hd sn sub ab col dd k0 k1 k2 k3 k5 newId,X.K.lookup W=some (U6 nm q W N bs bm hd sn sub ab col dd k0 k1 k2 k3 k5 newId)/\bm.contains (.type "BaseException")=true)
  (os:s'.os=I.os) (s:aj1 s'.gens) (un:Un (frs X.stack) [] Y G I.heap s'.heap) (w:HOk X.prog X.w G s'.heap) (ha:I.heap.get? a=none) (M:G a=none) (H:G T=none) (a5:Cs[J]?=some C) (fl:Co y C a T I.heap s'.heap) (hex:X.ex=[])
  (k:∀ h,Inv X O σ (upd G a (.ext (ExY Cs J y a))) { s' with heap:=h } → H0 (M8 X.prog X.w) (X.A.mark (some (.ref a))) (storeName X.env n (.ref a)) (λ_ s2 => H0 (M8 X.prog X.w) (X.A.mark (some (.ref a))) (execs (b0 :: t) X.env)
   (λf s3=>H0 (M8 X.prog X.w) X.A (do bindName X.env n .none;unbindBehindTheSuite X.env n pos) (λ_ s4=>Q f s4) E' s3) (λ_ _=>False) s2) (λ_ _=>False) { s' with heap:=h }) (hdb:(xW==("__debug__":Str))=false:=by decide) :
  H0 (M8 X.prog X.w) X.A (ao8 (.ref a) X.env) (λ_ s2=>H0 (M8 X.prog X.w) X.A (setFlight (.ref a) none) (λ_ s3=>H0 (M8 X.prog X.w) X.A (handleBy (.ref a) X.env [.ExceptHandler (some (.Name xW p)) (some n) (b0::t) pos]) Q E' s3) E' s2) E' s':=by
 obtain⟨oe,vs,oT,ts,f1,f2,f3,f4,f5,f6,f7,f8,f9⟩:=fl;have I':Inv X O σ G s':=E.call' (ch:=[]) os un w s λb z=>absurd z (by simp);have S:=I'.stack;have a0:∀b∈frs X.stack,∃o,s'.heap.get? b=some o/\∀vs:Array s0,o.data≠af2 vs:=λb i=>(S.mem i).2;have hA:X.A.frames=some (X.env::X.outer):=by rw[<-R];exact E.ok.frames
 refine CH lM (base:=PySem.W.hideAll s'.heap (a::T::frs X.stack)) hA (by rw[<-R];exact PySem.W.funFrames_hide S λb8 he b i=>I0 _ (I0 _ (V1.mpr ⟨b8,he,i⟩))) b1
  ⟨oe,vs,T,oT,ts,f1,f2,f3,f4,ae4 _ (by simp),f6,f7,f8,f9⟩ (λb o e=>PySem.W.of_hideAll _ e) (ae4 _ (by simp)) λh1 g=>sM g.1 g.2.1 g.2.2.1 λh2 a2=>?_
 have up1:=g.2.2.2;obtain⟨st2,c5,⟨a',d6,l,d9,a9,t1,t2,t3,t4,t5,t6,t7,t8,t9⟩,a8⟩:=a2;have U:∀b o,s'.heap.get? b=some o->b∉[a,T]->b∉frs X.stack->h2.get? b=some o:=λb o e hz hf=>st2 b o (ac1 _ e λz=>by
  rcases F8.mp z with z|z
  ·exact hz (by simp[z])
  rcases F8.mp z with z|z
  ·exact hz (by simp[z])
  ·exact hf z)
 have L:∀b o,b∈frs X.stack->s'.heap.get? b=some o->∃sl,h2.get? b=some { o with slots:=sl }:=λb o i e=>by
  obtain⟨o',e',d'⟩:=a0 b i;rw[e]at e';cases e';obtain⟨sl,q1⟩:=up1 b o e d';obtain⟨b5,q2⟩:=a8 b _ q1 d';exact⟨b5,q2⟩
 have b':∀b∈[a,T],I.heap.get? b=none/\G b=none:=λb i=>by
  rcases F8.mp i with rfl|i
  ·exact⟨ha,M⟩
  ·obtain rfl:=F5.mp i;exact⟨f5,H⟩
 have P:=pj E os s un w U L b';obtain⟨nm,q,N,bs,bm,hd,sn,sub,ab,col,dd,k0,k1,k2,k3,k5,newId,lC,b2⟩:=lC;obtain⟨d4,q',N',d0,d5,c',d2,c2,c6,c1,d1,d8,c3,d3,c4,d7,a3,lW,a1⟩:=lW;refine wpAny_handleBy_cons (codeAny_handlers_test (Calls.Name_function_global P.ok.kind hg (Calls.loadGlobal_global (by rw[P.ok.glob];exact P.mod.glob.keeps P.bk) hm ?_) hdb)) (by intro z;cases z);refine xY (P.kIn _ _ lC) (P.kIn _ _ lW) t1 t2.1.1 a1 b2 ?_;refine codeAny_handlers_suite_as ?_;have b3:3<a9.size:=(O3.mp t9).1;refine wpAny_setFlight_none t1 t3 t4 t7 t8 b3 ?_;have B:l∉frs X.stack:=λi=>by
  obtain⟨o',e',d'⟩:=a0 l i;obtain⟨sl,q2⟩:=L l o' i e';rw[t7]at q2;cases q2;exact d' _ t8
 have b4:l=T∨s'.heap.get? l=none:=by
  by_cases z:l=T
  ·exact .inl z
  ·right;cases e:s'.heap.get? l with
   |none=>rfl
   |some o =>
    rw[ac1 _ e λu=>by
     rcases F8.mp u with u|u
     ·exact t6 u
     rcases F8.mp u with u|u
     ·exact z u
     ·exact B u]at t5
    cases t5
 have b9:∀b∈[a,T,l],I.heap.get? b=none/\G b=none:=λb i=>by
  rcases F8.mp i with rfl|i
  ·exact⟨ha,M⟩
  rcases F8.mp i with rfl|i
  ·exact⟨f5,H⟩
  obtain rfl:=F5.mp i;rcases b4 with rfl|z
  ·exact⟨f5,H⟩
  ·constructor
   ·cases e:I.heap.get? b with
    |none=>rfl
    |some o =>
     obtain⟨o1,A⟩:=un.there b o e (by simp);rw[z]at A;cases A
   ·cases e:G b with
    |none=>rfl
    |some o =>
     obtain⟨o1,A⟩:=(w b o e).is;rw[z]at A;cases A
 have I3:=pj (h:=h2.update l (ac8 λx=>x.setIfInBounds 3 K2)) E os s un w (Z:=[a,T,l]) (λb o e hz hf=>by
   rw[L8 _ _ (λz=>hz (by simp[z]))];exact U b o e (λz=>hz (by
    rcases F8.mp z with z|z
    ·simp[z]
    ·simp[F5.mp z])) hf)
  (λb o i e => by
   rw[L8 _ _ (λz=>B (by rw[z];exact i))];exact L b o i e) b9
 have j:∀{b o},I.heap.get? b=some o->b≠a:=λe z=>by rw[z,ha]at e;cases e
 have a4:ExY Cs J y a (h2.update l (ac8 λx=>x.setIfInBounds 3 K2)):=⟨C,a5,a',by rw[L8 _ _ t6];exact t1,t2⟩;have I4:=I3.track (a:=a) (φ:=ExY Cs J y a) M (BZ a4) (by
   cases e:X.s₀.heap.get? a with
   |none=>rfl
   |some o =>
    obtain⟨o1,A⟩:=E.base.there a o e (by rw[hex];simp);rw[ha]at A;cases A) (by
   obtain⟨m,⟨o,es,ep,g,_⟩,_⟩:=E.loc;exact(j g).symm) (λx c e=>by
   obtain⟨v,o,g,_⟩:=E.cell x c e;exact j g) (λp hp=>j (E.pin p hp).1)
 exact Q5 (k _ I4) (λ_ s2 z=>Q5 z (λf s3 z=>z) λ_ _ z=>z.elim) λ_ _ z=>z.elim
end
abbrev TXd:=DE->DH->(D->DH->Prop)->(Nat->Option E9->DH->Prop)->Prop
abbrev TYd:=dR->(Nat->Option E9->DH->Prop)->DE->DH->Prop
def xF(X:Cx)(Cs:List E9)(j:List (E9×Obj))(σ:St)(M:DH)(H:Hp)(h:Nat->Option E9->DH->Prop)(e:s0)(s':E3):Prop :=
 ∃b g,Inv X j σ g b/\CX2 X.prog X.w Cs X.stack g b (λc x f=>∃(i:Nat) (C:E9) (a:DH),c=.ref C/\Cs[i]?=some C/\h i x a/\Ext M H a f/\HR X.K a f) e s'
def PXe(X:Cx)(Cs:List E9)(e:L7)(t:TXd):Prop:=∀(f:List (E9×Obj)) (s:E3) (a:St) (H:Hp) (i:VK) (g:DE) (M:DH) (Q:D->DH->Prop) (h:Nat->Option E9->DH->Prop),Inv X f a H s->SR X.K M H a g->HR X.K M H->t g M Q h ->
 (∀d b v c,Q d b->Ext M H b c->HR X.K b c->Rep X.K b c d v->i v c)->H0 (M8 X.prog X.w) X.A (Z1 e X.env) (EP X f a i) (xF X Cs f a M H h) s
def PTy(X:Cx)(Cs:List E9)(st:X5)(t:TYd):Prop:=∀(b:List (E9×Obj)) (s:E3) (a:St) (H:Hp) (D:mE) (c:DE) (M:DH) (E:dR) (e:Nat->Option E9->DH->Prop),Inv X b a H s->SR X.K M H a c->HR X.K M H->t E e c M->UpE X.K E D M H ->
 H0 (M8 X.prog X.w) X.A (exec st X.env) (SP X b D) (xF X Cs b a M H e) s
theorem xF.ext{X:Cx}{Cs:List E9}{c:List (E9×Obj)}{σ:St}{M M1:DH}{H g:Hp}{f:Nat->Option E9->DH->Prop}{e:s0}{s':E3}(x:Ext M H M1 g)(h:xF X Cs c σ M1 g f e s'):xF X Cs c σ M H f e s':=by
 obtain⟨N,O,I,i,C,y,a,T,G,s,u,l,L,z,p,m,w,o,b,j,q,E,B,t,A,n,J⟩:=h;exact⟨N,O,I,i,C,y,a,T,G,s,u,l,L,z,p,m,w,o,b,j,q,E,B,t,A,x.trans n,J⟩
def dXC(n:Nat)(S:SpD)(t:TAd):TXd:=λb M Q c=>t b M λa M1=>a.length=n/\S a M1 λd M2=>(isX d=none->Q d M2)/\∀i x,isX d=some (i,x)->c i x M2
section
variable{X:Cx}{Cs:List E9}{e c:L7}{G:List L7}{t:TAd}{S:SpD}{O Y nm:Str}{W:E9}{tb:E9->TSd}{te:TXd}{st sa sb:X5}{ta tt:TYd}{tc:TTd}{pos:Pos}
theorem yK{k n:Nat}{p2 p3:Pos}(FX:FnY X.prog X.w X.K X.mg X.base O k n S Cs)(hr:cg k X.A)(a0:Gl X O)(N:∀e s,¬ X.xe e s)(ha:QAd X (e::G) t)
  (L:(O==("__debug__":Str))=false:=by decide) (he:F0 (e::G) X.env=(false,Z1 e X.env)::F0 G X.env:=by rfl) (hpl:(U4 p3 (F0 G X.env)).any (·.1)=false:=by rfl) :
  PXe X Cs (.Call (.Name O p2) (e::G) [] p3) (dXC n S t):=by
 rw[QAd.eq]at ha;intro ae s σ H QV Δ M Q XH I sr Y q kk;obtain⟨f,fd,ps,F,P,U,Z⟩:=FX.ex;refine S5 (jd I a0 P ?_ L);refine PySem.W.callWith_K (h₀:=X.base) I.ok.mod.kin U (Q5 (ha p3 ae s σ H (λl a=>∃g M1,g.length=n/\S g M1 (λd M2=>(isX d=none->Q d M2)/\∀i x,isX d=some (i,x)->XH i x M2)/\Ext M H M1 a/\HR X.K M1 a/\ak X.K M1 a g l) I
  ⟨Δ,M,_,sr,Y,q,λg M1 l a ⟨hl,q1⟩ J b T=>⟨g,M1,hl,q1,J,b,T⟩⟩) (λE s1 hs=>⟨?_,?_⟩) λe s' z=>(N e s' z).elim) he hpl
 ·obtain⟨l,a,m,_⟩:=hs;exact m.kIn
 obtain⟨l,a,m,rv,g,M1,hl,q1,J,b,T⟩:=hs;have p:spY X.K n S Cs l a QV (λc x A=>∃(i:Nat) (C:E9) (j:DH),c=.ref C/\Cs[i]?=some C/\XH i x j/\Ext M H j A/\HR X.K j A) :=
  ⟨g,M1,_,hl,T,b,q1,λd j v A q' R h B=>kk d j v A (q'.1 (yB B)) (J.trans R) h B,λi x C j A q' hC R h=>⟨i,C,j,rfl,hC,q'.2 i x qX,J.trans R,h⟩⟩
 have w:(E++[]).length=ps.length:=by
  rw[ab4,<-rv.length];exact F.len _ _ _ _ p
 refine ad1 (V8 (F.run X.A X.stack s1 a ⟨E,[]⟩ E l _ _ hr m.env0 (by simpa using Z s1 E m.kIn w) rv p) λr s' o=>?_);cases r with
 |error e=>exact⟨s1,a,m,o⟩
 |ok fl =>
  cases fl with
  |ret u=>exact m.after o
  |next=>exact T7 o
  |brk=>exact T7 o
  |cont=>exact T7 o
def dYA(i:Nat)(te:TXd):TYd:=λE b a M=>te a M (λd M2=>E.nx (a.set i (some d)) M2) b
theorem z6(i:Nat){x:Str}{j g:Pos}(C:X.N.Nodup)(P:X.N[i]?=some x)(Q:Loc X.env.scope x)(he:PXe X Cs e te)
  (hs:ak3 e (some (.Name x j)) g.line X.env=ae6 false:=by rfl) (J:X.fn x=true∨X.env.scope.names.lookup x=some .local:=by first|exact .inl rfl|exact .inr rfl|assumption) :
  PTy X Cs (.Assign [.Name x j] e g) (dYA i te):=by
 intro p s f H D m M E t I l B q n;refine wpAny_Assign_Name (thn (he p s f H (λv c=>D.nx (f.set i (some v)) c) m M _ t I l B q λd L v N A h a b=>n.nx _ L _ N A h a ((l.ext h).set i b)) λu S w=>?_) hs;obtain⟨v,c,O,o,z⟩:=w;exact gQ O C P Q o (λR G=>⟨_,c,G,z⟩) J
def Dc(Cs:List E9)(j:Nat)(tt:TYd)(tb:E9->TSd):TSd:=λE b M=>tt E (λi x M2=>∀a,M2 a=none->tb a (Bs j E) (b.set j (some (.ref a))) (ay M2 a (exY Cs i x a))) b M
theorem Ag{j:Nat}{p5 p9 a5:Pos}{b0:X5}{x:List X5}(b9:∀e s,¬ X.xe e s)(a8:X.stack=X.env::X.outer)(b1:X.env.frame=some X.env.locals)(hex:X.ex=[])
  (hg:Gl X Y) (hm:X.mg Y=some (.ref W))
  (lC:∀C∈Cs,∃nm q N bs bm hd sn sub ab col dd k0 k1 k2 k3 k5 newId,X.K.lookup C=some (U6 nm q C N bs bm hd sn sub ab col dd k0 k1 k2 k3 k5 newId)/\(J4 C::bm).contains (.ref W)=true)
  (lW:∃nm q N bs bm hd sn sub ab col dd k0 k1 k2 k3 k5 newId,X.K.lookup W=some (U6 nm q W N bs bm hd sn sub ab col dd k0 k1 k2 k3 k5 newId)/\bm.contains (.type "BaseException")=true)
  (U:X.N.Nodup) (hj:X.N[j]?=some nm) (S:X.env.scope.names.lookup nm=some .local) (ha:PTy X Cs st tt) (hb:∀a,QSs (X.caught a) (b0::x) (tb a)) (hdb:(Y==("__debug__":Str))=false:=by decide) :
  QSd X (.Try [st] [.ExceptHandler (some (.Name Y p5)) (some nm) (b0::x) p9] [] [] a5) (Dc Cs j tt tb):=by
 simp only[QSd.eq,QSs.eq]at *
 intro ae s σ H D I hh;obtain⟨Δ,M,E,sr,b4,q,kk⟩:=hh;refine wpAny_Try_except (wpAny_execs_cons (Q5 (ha ae s σ H D Δ M E _ I sr b4 q kk) (λf s1 z=>?_) λev s' z=>?_))
 ·cases f with
  |next=>exact ag1 (ag1 z)
  |ret v=>exact z
  |brk=>exact z
  |cont=>exact z
 ·obtain⟨s1,H1,I1,i,C,y,a,T,t,a3,rfl,os,a2,un,a',h0,R,a4,fl,B,C',M2,eC,b5,qx,e2,a0⟩:=z;cases eC;refine yF I1 a8 b1 hg hm (lC C (O4 a3)) lW os a2 un a' h0 R a4 b5 fl hex (λh I3=>?_) hdb;refine gQ I3 U hj (.inl S) (v:=.ref a) rfl (λs2 c=>?_) (.inr S);have J:Inv (X.caught a) ae (σ.set j (some (.ref a))) (upd t a (.ext (ExY Cs B y a))) s2:=⟨⟨c.ok.mod,c.ok.kind,c.ok.glob,c.ok.blt,c.ok.above,c.ok.inj,c.ok.has,c.ok.cab,λz=>(by cases z),c.ok.frames,c.ok.stk,c.ok.exf,c.ok.bs,c.ok.bsz,c.ok.noex,c.ok.exfs,c.ok.funs,c.ok.frf⟩,c.os,c.bare,c.base,c.loc,c.cell,c.free,c.freeC,c.pin,c.hok,c.len⟩;have e3:Ext M2 t (ay M2 a (exY Cs B y a)) (upd t a (.ext (ExY Cs B y a))):=Ext.own R;have b2:HR X.K (ay M2 a (exY Cs B y a)) (upd t a (.ext (ExY Cs B y a))):=a0.put e3 ⟨[],aT,by simp[ak]⟩;have Z:=e2.trans e3;have b8:SR X.K (ay M2 a (exY Cs B y a)) (upd t a (.ext (ExY Cs B y a))) (σ.set j (some (.ref a))) (Δ.set j (some (.ref a))):=(sr.ext Z).set j (by simp[Rep])
  let D2:mE:={ nx:=λl t=>D.nx (l.set j none) t,bk:=λl t=>D.bk (l.set j none) t,ct:=λl t=>D.ct (l.set j none) t,rt:=D.rt }
  have a9:UpE X.K (Bs j E) D2 (ay M2 a (exY Cs B y a)) (upd t a (.ext (ExY Cs B y a))) :=
   ⟨λa1 M' l n ⟨P,b,O⟩ Q m w=>kk.nx _ P _ n O ((Z.trans Q).trans (Ext.le b)) (m.le b) ((w.ext (Ext.le b)).setN j),λa1 M' l n ⟨P,b,O⟩ Q m w=>kk.bk _ P _ n O ((Z.trans Q).trans (Ext.le b)) (m.le b) ((w.ext (Ext.le b)).setN j),
    λa1 M' l n ⟨P,b,O⟩ Q m w=>kk.ct _ P _ n O ((Z.trans Q).trans (Ext.le b)) (m.le b) ((w.ext (Ext.le b)).setN j),λd M' v n ⟨P,b,O⟩ Q m b3=>kk.rt d P v n O ((Z.trans Q).trans (Ext.le b)) (m.le b) (b3.ext (Ext.le b))⟩
  refine Q5 (hb a ae s2 _ _ D2 J ⟨_,_,_,b8,b2,qx a (a0.fresh R),a9⟩) (λfl s3 z=>?_) λ_ _ z=>z;have o:∀{p A},Inv (X.caught a) ae p A s3->Inv X ae p A s3:=λg=>⟨I.ok,g.os,g.bare,g.base,g.loc,g.cell,g.free,g.freeC,g.pin,g.hok,g.len⟩;cases fl with
  |next=>obtain⟨p,A,g,G⟩:=z;exact kz (o g) U hj S λs4 L=>⟨_,A,L,G⟩
  |brk=>obtain⟨p,A,g,G⟩:=z;exact kz (o g) U hj S λs4 L=>⟨_,A,L,G⟩
  |cont=>obtain⟨p,A,g,G⟩:=z;exact kz (o g) U hj S λs4 L=>⟨_,A,L,G⟩
  |ret u=>obtain⟨v2,p,A,g,r2,G⟩:=z;exact kz (o g) U hj S λs4 L=>⟨v2,_,A,L,r2,G⟩
end
section
variable{X:Cx}{a:L7}{O:TEd}{pos p Y:Pos}{Cs:List E9}{bs:List Bool}{T:Str}
structure Cy(K:u8) (C:E9) (f:Str):Prop where
 hd:PySem.W.hasDictIn K C=true
 fn:R3 K (.ref C) f=some none
def Dk(Cs:List E9)(i:Nat)(f:Str)(O:TEd):TEd:=λc M Q=>O c M λd M1=>∃a b z,d=.ref a/\M1 a=some (exY Cs i (some b) a)/\M1 b=some (qL f b z)/\Q z M1
theorem zW(i:Nat){C:E9}{f:Str}(hC:Cs[i]?=some C)(Z:Dh X.K C)(G:Cy X.K C f)(he:QEd X a O)(Y:W9 a f X.env (Z1 a X.env)=Z1 a X.env:=by rfl):QEd X (.Attribute a f pos) (Dk Cs i f O):=by
 rw[QEd.eq]at *
 intro ae s σ H Q I hh;obtain⟨S,M,R,sr,U,q,k⟩:=hh;refine yO Y (thn (he ae s σ H (λv c=>∃x e z w M1,v=.ref x/\c x=some (.ext (ExY Cs i (some e) x))/\c e=some (.ext (j8 f e w))/\Ext M H M1 c/\HR X.K M1 c/\Rep X.K M1 c z w/\R z M1) I ⟨S,M,_,sr,U,q,λd M1 v c ⟨x,e,z,ed,em,ef,n⟩ p b A=>?_⟩) λu s1 ⟨v,c,m,A,x,e,z,w,M1,ev,E,t,p,b,rz,n⟩=>?_)
 ·subst ed;obtain rfl:v=.ref x:=by simpa only[Rep]using A
  obtain⟨N,E,_⟩:=b x _ em;obtain⟨ws,T,h⟩:=b e _ ef;simp only[ak]at h;obtain⟨w,a0,rfl,r1,rfl⟩:=h;exact⟨x,e,z,w,M1,rfl,E,T,p,b,r1,n⟩
 ·subst ev;obtain rfl:u=J4 x:=A;obtain⟨C',l,o,g,r⟩:=(m.hok x _ E).1;rw[hC]at l;cases l;obtain⟨o2,u2,g2,l2,L⟩:=(m.hok e _ t).1;obtain⟨⟨P,N,j,_⟩,B⟩:=r;have J:PySem.W.InstAt s1.heap x o C (some o2):=⟨g,P,by unfold PySem.W.notCls;rw[j],by rw[B];exact g2⟩;exact BA m.kIn J Z.ga Z.gk Z.mb ⟨o,g,P,N,j,by assumption⟩ (PySem.W.findObj_own G.hd G.fn rfl l2) (uO L) ⟨w,c,m.tok _,L,k z M1 w c n p b rz⟩
end
theorem ix1{p:Nat->E9->Prop}{a:E9}(h0:p 0 a):∀(i:Nat) C,[a][i]?=some C->p i C
 |0,_,e=>by cases e;exact h0
 |_+1,_,e=>by simp at e
theorem al1{p:E9->Prop}{a:E9}(h0:p a):∀C∈[a],p C:=λC h=>by cases F5.mp h;exact h0
end L2
namespace L2
open PySem PySem.Spec PySem.Calls PyProof.Rows PySem.SeqAt
end L2
namespace L2
open PySem PySem.Spec PySem.Calls PyProof.Rows
section
variable{X:Cx}
def DR:D->Option D
 |.int i=>if i.natAbs.log2<1920 then some (.str (toString i))else none
 |_=>none
theorem BE{i:Int}:DR (.int i)=if i.natAbs.log2<1920 then some (.str (toString i))else none:=rfl
end
end L2
namespace L2
open PySem PySem.Spec PyProof.Rows
section
variable{X:Cx}
end
end L2
namespace L2
open PySem PySem.Spec PyProof.Rows PySem.Calls
end L2
namespace L2
open PySem PySem.Spec PyProof.Rows
end L2
namespace L2
open PySem PySem.Spec PyProof.Rows PySem.Calls
end L2
namespace L2
open PySem PySem.Spec PyProof.Rows
section
variable{X:Cx}{XW:E9->Option E9->Hp->Prop}{Cs:List E9}{z:ae7}{J:List (Str×E9)}{ms:List Bool}{ar:List Str}{I O G e:L7}{te:TXd}{pos:Pos}
end
section
variable{X:Cx}{XW:E9->Option E9->Hp->Prop}{Cs:List E9}{a e o i:L7}{z:List L7}{te:TXd}{G I J:TEd}{pos:Pos}
end
end L2
namespace L2
open PySem PySem.Spec PyProof.Rows PySem.Calls PySem.SeqAt PySem.W
end L2
namespace L2
open PySem PySem.Spec PyProof.Rows PySem.Calls PySem.Builtin PySem.Builtin.Str
section
variable{X:Cx}
end
section
variable{prog:K3}{w:P4}{A:L6}{E:s0->E3->Prop}{s:E3}{x y:Str}{t u:Tok}{Q:s0->E3->Prop}
theorem va(e:(y.length==0)=false)(hsz:x.length<=F2)
  (h:∀b c tc k,Q (.ref s.heap.objs.size) { s with heap:=s.heap.push { cls:=.type "tuple",data:=.seq [.str (N7 x y).1 b,.str (N7 x y).2.1 c,.str (N7 x y).2.2 tc].toArray },toks:=k }) :
  H0 (M8 prog w) A (aq8 (.builtin "str.partition") [.str x t,.str y u]) Q E s:=by
 refine af8 F.slot_str_partition (aj9 _ _ _) F.entry_str_partition (F.args_str_partition_2 _ _) (meets_str_partition x y t u e hsz) ?_;have a:=h;unfold N7 at a
 revert a
 cases occurrences x y 0 x.length 1 with
 |nil=>intro a;exact a _ _ _ _
 |cons i r=>intro a;exact a _ _ _ _
end
section
variable{X:Cx}{e:L7}{te:TEd}
def Dp(x y:Str):D:=.tup [.str (N7 x y).1,.str (N7 x y).2.1,.str (N7 x y).2.2]
def CN(b te:TEd):TEd:=λa M Q=>b a M λo M1=>∃x,o=.str x/\te a M1 λd M2=>∃y,d=.str y/\(y.length==0)=false/\x.length<=F2/\Q (Dp x y) M2
theorem gn{o:L7}{G:TEd}{J a:Pos}(ho:QEd X o G)(he:QEd X e te)(P:W9 o "partition" X.env (Z1 o X.env)=Z1 o X.env:=by rfl)
  (c:F0 [e] X.env=(false,Z1 e X.env)::F0 [] X.env:=by rfl)
  (O:((U4 a (F0 [e] X.env)).all (λx => !x.1) && (ag7 a (X6 [] X.env)).all (λx => x.1.isSome)
  &&decide ([e].length+([]:List af3).length+(if([]:List af3).isEmpty then 0 else 1)<30))=true:=by rfl)
  (gF:(J.endLine==a.line)=true:=by rfl) (cG:(U4 a (F0 [] X.env)).any (·.1)=false:=by rfl):QEd X (.Call (.Attribute o "partition" J) [e] [] a) (CN G te):=by
 rw[QEd.eq]at *
 have hm:MtR X "str.partition" (λx B H Q=>∃z y,x=.str z/\B=[.str y]/\(y.length==0)=false/\z.length<=F2/\∀p,H p=none->Q (.ref p) (upd H p (.tup [.str (N7 z y).1,.str (N7 z y).2.1,.str (N7 z y).2.2]))):=by
  intro ae s N H x B v us Q I rx f h;obtain⟨z,y,rfl,rfl,i,n,q⟩:=h;obtain⟨t,rfl⟩:=rx;obtain⟨u,rfl,Z⟩:=az.one f;obtain⟨t2,rfl⟩:=Z;refine va i n λta tb tc k=>?_;have hf:H s.heap.objs.size=none:=I.hok.fresh (F3 _);refine⟨.ref s.heap.objs.size,_,I.laid (t':=k) (o:=.tup [.str (N7 z y).1,.str (N7 z y).2.1,.str (N7 z y).2.2]) (λb u e=>E2 _ e) (F3 _) ?_,rfl,q _ hf⟩;exact⟨by rw[ak4];simp,_,.cons ⟨_,rfl⟩ (.cons ⟨_,rfl⟩ (.cons ⟨_,rfl⟩ .nil)),⟨_,F6 _ rfl,rfl,⟨_,rfl⟩,rfl⟩⟩
 refine(qR ad4 PySem.F.slot_str_partition PySem.F.type_str_partition hm ho (cu he fH c) P O gF c cG).conv λN H Q hh=>?_;obtain⟨A,M,R,C,hr,q,k⟩:=hh;refine⟨A,M,_,C,hr,q,λo M1 ov H1 ⟨z,eo,q1⟩ E j L=>?_⟩;subst eo;simp only[Rep]at L;subst L;refine⟨rfl,A,M1,_,C.ext E,j,q1,λd M2 v H2 ⟨y,ed,i,n,U⟩ e2 l f=>?_⟩;subst ed;simp only[Rep]at f;subst f;refine⟨z,y,rfl,rfl,i,n,λp S=>?_⟩;have T:=mq (K:=X.K) (M:=M2) (H:=H2) [(N7 z y).1,(N7 z y).2.1,(N7 z y).2.2];exact jo l S T λw H' Y m g=>k _ M2 w H' U ((E.trans e2).trans Y) m g
end
def dXT(e:TEd)(te:TXd):TXd:=λa M Q c=>e a M λb M1=>te a M1 (λd M2=>Q (.tup [b,d]) M2) c
theorem xX{X:Cx}{Cs:List E9}{a e:L7}{E:TEd}{te:TXd}{x1}{pos:Pos}(o:∀e s,¬ X.xe e s)(ha:QEd X a E)(he:PXe X Cs e te)
  (hs:F0 [a,e] X.env=[(false,Z1 a X.env),(false,Z1 e X.env)]:=by rfl):PXe X Cs (.Tuple [a,e] x1 pos) (dXT E te):=by
 rw[QEd.eq]at ha;intro L s J H QV n M Q G I N T q R;refine wpAny_Tuple_spliced ?_;rw[hs];show H0 _ _ (ap0 [(false,Z1 a X.env),(false,Z1 e X.env)]) _ _ s;refine W7 (Q5 (ha L s J H (λv f=>∃d M1,te n M1 (λd1 M2=>Q (.tup [d,d1]) M2) G/\Ext M H M1 f/\HR X.K M1 f/\Rep X.K M1 f d v) I ⟨n,M,_,N,T,q,λd M1 v f A j i B=>⟨d,M1,A,j,i,B⟩⟩) (λu s1 ⟨x,f,I1,r1,Y,M1,A,j,i,B⟩=>?_) (λe P z=>(o e P z).elim));refine W7 (Q5 (he L s1 J f (λv h=>∃d M2,Q (.tup [Y,d]) M2/\Ext M1 f M2 h/\HR X.K M2 h/\Rep X.K M2 h d v) n M1 _ G I1 (N.ext j) i A λd M2 v h t m c g=>⟨d,M2,t,m,c,g⟩) (λu2 l ⟨y,h,O,U,d,M2,t,m,c,g⟩=>?_) (λe P z=>z.ext j));refine X3 ⟨by show 2<=F2;rw[ak4];decide,?_⟩;have hf:h l.heap.objs.size=none:=O.hok.fresh (F3 _);refine⟨.ref l.heap.objs.size,upd h l.heap.objs.size (.tup [x,y]),O.laid (t':=l.toks) (λb u e=>E2 _ e) (F3 _) ?_,rfl,?_⟩
 ·exact⟨by rw[ak4];simp,_,.cons r1 (.cons U .nil),⟨_,F6 _ rfl,rfl,⟨_,rfl⟩,rfl⟩⟩
 ·exact jo c hf (ak.cons (B.ext m) (ak.cons g ak.nil)) λw Z S p C=>R _ M2 w Z t ((j.trans m).trans S) p C
end L2
namespace L2
open PySem PySem.Spec PyProof.Rows PySem.Calls PySem.SeqAt
section
variable{X:Cx}{z:List (E9×Obj)}{s:E3}{σ:St}{H:Hp}{M:DH}{K:u8}
def CB(c:TEd):TEd:=λb M Q=>c b M λx M1=>∃a:List (List KD),rdM M1 x=.lst (a.map kU)/\(∀k∈a,dpK 8 (.tup k))/\a.length<1000/\Q (.int ((dJ a).length:Nat)) M1
theorem CJ{a:L7}{ta:TEd}{p0 P N g:Pos}(hc:X.calm=true)(hu:X.A.units+64<ai7)(J:Gl X "len")(S:X.mg "len"=none)(hg:Gl X "set")(hm:X.mg "set"=none)(ha:QEd X a ta)
  (f:F0 [.Call (.Name "set" P) [a] [] g] X.env=(false,Z1 (.Call (.Name "set" P) [a] [] g) X.env)::F0 [] X.env:=by rfl)
  (e:F0 [a] X.env=(false,Z1 a X.env)::F0 [] X.env:=by rfl)
  (B:(U4 N (F0 [] X.env)).any (·.1)=false:=by rfl) (U:(U4 g (F0 [] X.env)).any (·.1)=false:=by rfl) :
  QEd X (.Call (.Name "len" p0) [.Call (.Name "set" P) [a] [] g] [] N) (CB ta):=by
 simp only[QEd.eq]at *
 intro z s σ H Q I ⟨Δ,M,R,sr,hr,q,k⟩;refine S5 (eh I J S (u:=.builtin "len") (by kernel_rfl) ?_ (by decide) (by decide));refine W4 ?_ f B;rw[f];show H0 _ _ (ap0 ((false,Z1 _ X.env)::U4 N (F0 [] X.env))) _ _ s;refine W7 ?_;refine S5 (eh I hg hm (u:=.type "set") (by kernel_rfl) ?_ (by decide) (by decide));refine V0 ?_ e U;rw[e];show H0 _ _ (ap0 ((false,Z1 a X.env)::U4 g (F0 [] X.env))) _ _ s;refine W7 (evD ha I sr hr q λu T v Z x M1 p r1 hx j E e1=>?_);have rv:=E.rd j;refine X3 ?_;obtain⟨w,ex,L,hl,q2⟩:=hx;rw[ex]at rv;obtain⟨l,vs,rfl,sq,rl⟩:=rv;cases r1;obtain⟨b,c,pl,hz⟩:=p.list (SqL.of sq);have hn:w.length=b.length:=by rw[<-c.length,<-rl.length,E4]
 have C:∀(i:Nat) k u,w[i]?=some k->b[i]?=some u->KAt T.heap 8 (.tup k) u:=λi k u G O=>qT p L rl c G O;refine uH (n:=8) (hn8:=F3 _) (p.ok.hd hc) (by lia) pl.isList (by simp[hn]) (λi k u G O=>C i k u G (by simpa using O)) hl λh' Y hS kp=>?_;refine X3 ?_;obtain⟨o,es,ep,t,zs,m,pm⟩:=hS;have A:es.size=(dJ w).length:=by rw[m.el.len,pm.length_eq]
 have I2:Inv X z σ Z { T with heap:=h',toks:=Y }:=p.kept kp;have a0:=iZ w;refine call_len_set (s:={ T with heap:=h',toks:=Y }) m.get m.ex m.data m.tb.fit (by lia) ?_;rw[A];exact⟨.int _,Z,I2.tok _,⟨_,rfl⟩,k _ _ _ _ q2 e1 j (by simp only[Rep])⟩
def zF(t:TTd):TTd:=λa M Q=>t (a.map (Option.map (rdM M))) noM λb _=>Q b M
theorem Bk{e:L7}{t:TTd}(h:QTd X e t):QTd X e (zF t):=by
 simp only[QTd.eq]at *
 exact PT.conv h λσ H Q c=>c.el λz M R x f q k=>⟨_,noM,_,x.lend f,HR.nil,q,λb M2 i p j w=>by
  have l:Ext M H M i:=λa o n s=>⟨(j a o n rfl).1,s⟩;have g:HR X.K M i:=f.ext1 l λa o q=>by
   obtain⟨u,m,_⟩:=(f a o q).some;rw[m];exact(j a u m rfl).1
  exact k b M i p l g⟩
end
end L2
namespace My
open PySem PySem.Spec PyProof.Rows L2
def top(i:Nat):X5:=PySem.Challenge.pw_wordwishes_k09_whole_texts_of_lexicons.main.body.getD i (.Pass ⟨0,0,0,0⟩)
abbrev fw:X5:=top 6
abbrev cT:X5:=top 7
abbrev bP:X5:=top 8
abbrev gA:X5:=top 11
abbrev gf:X5:=top 12
abbrev c7:X5:=top 13
abbrev fZ:X5:=top 16
abbrev gB:X5:=top 17
abbrev fD:X5:=top 18
abbrev dF:X5:=top 23
abbrev gb:X5:=top 24
abbrev cL:X5:=top 25
abbrev fE:X5:=top 26
abbrev bL:X5:=top 27
abbrev dX:X5:=top 30
abbrev c9:X5:=top 31
abbrev gx:X5:=top 32
abbrev fU:X5:=top 33
abbrev fK:X5:=top 34
abbrev cz:X5:=top 40
abbrev bz:X5:=top 41
abbrev gL:X5:=top 42
abbrev gJ:X5:=top 43
abbrev c8:X5:=top 44
abbrev cF:X5:=top 45
abbrev lD:X5:=top 47
abbrev kJ:X5:=top 48
abbrev mn:X5:=top 49
abbrev kG:X5:=top 50
abbrev gZ:X5:=top 51
abbrev lK:X5:=top 52
abbrev mf:X5:=top 53
abbrev gV:X5:=top 54
abbrev gD:X5:=top 55
abbrev fj:X5:=top 56
abbrev cC:X5:=top 57
abbrev ot:X5:=top 58
abbrev jv:X5:=top 59
abbrev uo:X5:=top 60
abbrev ph:List Str:=["thing"]
theorem g7:au ph ["thing"] (ah fw):=fsc
abbrev ka:List Str:=["thing","many"]
theorem eW:au ka ["thing","many"] (ah cT):=fsc
abbrev cw:List Str:=["thing"]
theorem di:au cw ["thing"] (ah bP):=fsc
abbrev qU:List Str:=["thing"]
theorem iU:au qU ["thing"] (ah gA):=fsc
abbrev qJ:List Str:=["thing"]
theorem iQ:au qJ ["thing"] (ah gf):=fsc
abbrev fo:List Str:=["thing"]
theorem hU:au fo ["thing"] (ah c7):=fsc
abbrev pR:List Str:=["thing"]
theorem jf:au pR ["thing"] (ah fZ):=fsc
abbrev qt:List Str:=["thing"]
theorem jb:au qt ["thing"] (ah gB):=fsc
abbrev iy:List Str:=["thing"]
theorem jW:au iy ["thing"] (ah fD):=fsc
abbrev lg:List Str:=["things"]
theorem fL:au lg ["things"] (ah dF):=fsc
abbrev qS:List Str:=["thing"]
theorem i8:au qS ["thing"] (ah gb):=fsc
abbrev eD:List Str:=["thing"]
theorem gP:au eD ["thing"] (ah cL):=fsc
abbrev n3:List Str:=["thing"]
theorem ie:au n3 ["thing"] (ah fE):=fsc
abbrev bq:List Str:=["thing"]
theorem eV:au bq ["thing"] (ah bL):=fsc
abbrev mr:List Str:=["sign","mark","turn"]
theorem gz:au mr ["sign"] (ah dX):=fsc
abbrev fh:List Str:=["row"]
theorem g9:au fh ["row"] (ah c9):=fsc
abbrev qe:List Str:=["letters","many"]
theorem je:au qe ["letters"] (ah gx):=fsc
abbrev pD:List Str:=["text","halves"]
theorem iY:au pD ["text"] (ah fU):=fsc
abbrev iK:List Str:=["text","row"]
theorem j6:au iK ["text"] (ah fK):=fsc
abbrev dq:List Str:=["entry","word","kinds"]
theorem fN:au dq ["entry"] (ah cz):=fsc
abbrev ba:List Str:=["lexicon","order","goal","entries","pairs"]
theorem dO:au ba ["lexicon"] (ah bz):=fsc
abbrev qN:List Str:=["part","words"]
theorem iP:au qN ["part"] (ah gL):=fsc
abbrev qz:List Str:=["part"]
theorem jj:au qz ["part"] (ah gJ):=fsc
abbrev e7:List Str:=["part","halves"]
theorem g8:au e7 ["part"] (ah c8):=fsc
abbrev jw:List Str:=["text","parts","goal","order","entries","number","part","longer_order","more_entries"]
theorem dP:au jw ["text"] (ah cF):=fsc
abbrev xc:List Str:=["_law_cell","_law_rest","_law_one"]
theorem nH:au xc ["_law_cell"] (ah lD):=fsc
abbrev xK:List Str:=["_law_pool_here","_law_amount","_law_found"]
theorem nL:au xK ["_law_pool_here","_law_amount"] (ah kJ):=fsc
abbrev wG:List Str:=["_law_pool_here","_law_mark","_law_far"]
theorem nG:au wG ["_law_pool_here"] (ah mn):=fsc
abbrev oQ:List Str:=["_law_pool_here"]
theorem pG:au oQ ["_law_pool_here"] (ah kG):=fsc
abbrev jD:List Str:=["_law_pool_here","_law_word"]
theorem lF:au jD ["_law_pool_here"] (ah gZ):=fsc
abbrev vA:List Str:=["_law_pool_here","_law_part","_law_odd","_law_at","_law_sign_here"]
theorem nv:au vA ["_law_pool_here","_law_part"] (ah lK):=fsc
abbrev wt:List Str:=["_law_cell","_law_pool_here","_law_parts","_law_k","_law_way","_law_at","_law_more"]
theorem mW:au wt ["_law_cell"] (ah mf):=fsc
abbrev jH:List Str:=["_law_word"]
theorem kZ:au jH ["_law_word"] (ah gV):=fsc
abbrev pH:List Str:=["_law_word","_law_mark","_law_dot","_law_turns","_law_turn","_law_sign_here"]
theorem iR:au pH ["_law_word"] (ah gD):=fsc
abbrev iu:List Str:=["_law_text_here","_law_found"]
theorem jU:au iu ["_law_text_here"] (ah fj):=fsc
abbrev bW:List Str:=["_law_part","_law_entries","_law_word","_law_sign_here","_law_rest","_law_rows"]
theorem ia:au bW ["_law_part","_law_entries"] (ah cC):=fsc
abbrev yJ:List Str:=["_law_text_here","_law_parts","_law_order","_law_entries","_law_number","_law_low","_law_sign_here","_law_high","_law_entry_here"]
theorem pT:au yJ ["_law_text_here"] (ah ot):=fsc
abbrev vp:List Str:=["_law_text_here","_law_due_here","_law_found","e"]
theorem lZ:au vp ["_law_text_here","_law_due_here"] (ah jv):=fsc
abbrev vN:List Str:=["_law_script","_law_cell","_law_text_here"]
theorem xP:au vN ["_law_script"] (ah uo):=fsc
abbrev gS:X5:=DL (top 2) 0
theorem xf:au ["self","part"] ["self","part"] (ah gS):=fsc
theorem vy{P:K3}{w:P4}{K:u8}{g:Str->Option s0}{base:K0}{C W i f:E9}{c:J7}(F:Fun K "__init__" "NoText.__init__" gS f c)(Y:mO K g "NoText" "WishError" "part" C W i):aO P w K g base CX0 1 f c ["self","part"] (spF "part" C):=by
 refine F.ok xf (λl H Q E h=>?_) (λj A a s H l Q E m h=>⟨_,lQ (sY (Do Y 0 rfl (pv 0) xq)) (o8 (Cc Y 0 1 (pv 0) (pv 1))),?_⟩)
 ·obtain⟨e,v,rfl,_⟩:=h;rfl
 ·obtain⟨e,v,rfl,b,q⟩:=h;exact⟨e,rfl,b,e,v,rfl,rfl,b,q⟩
structure AQ(K:u8) (mg:Str->Option s0) (C0 W fI0:E9):Prop where
 p0:mO K mg "NoText" "WishError" "part" C0 W fI0
 g0:Cy K C0 "part"
 gH:mg "NoText"=some (.ref C0)
 lC:∀C∈[C0],∃nm q N bs bm hd sn sub ab col dd k0 k1 k2 k3 k5 newId,K.lookup C=some (U6 nm q C N bs bm hd sn sub ab col dd k0 k1 k2 k3 k5 newId)/\(J4 C::bm).contains (.ref C0)=true
 lW:∃nm q N bs bm hd sn sub ab col dd k0 k1 k2 k3 k5 newId,K.lookup C0=some (U6 nm q C0 N bs bm hd sn sub ab col dd k0 k1 k2 k3 k5 newId)/\bm.contains (.type "BaseException")=true
 z:∀C∈[C0],Dh K C
 k_ValueError:∀(i:Nat) C,[C0][i]?=some C->PySem.W.kitOne K (.ref C) (.type "ValueError")=some ([true].getD i false)
structure Txt(mg:Str->Option s0):Prop where
 b_isinstance:mg "isinstance"=none
 b_int:mg "int"=none
 b_bool:mg "bool"=none
 b_tuple:mg "tuple"=none
 b_len:mg "len"=none
 b_str:mg "str"=none
 b_all:mg "all"=none
 b_set:mg "set"=none
 b_enumerate:mg "enumerate"=none
 b_abs:mg "abs"=none
 b_range:mg "range"=none
 g_SMALL_LETTERS:∃t,mg "SMALL_LETTERS"=some (.str "abcdefghijklmnopqrstuvwxyz" t)
 g_MOST_LETTERS:∃t,mg "MOST_LETTERS"=some (.int 8 t)
 g_MOST_PAIRS:∃t,mg "MOST_PAIRS"=some (.int 8 t)
 g_MOST_TURN:∃t,mg "MOST_TURN"=some (.int 99 t)
 g_MOST_ENTRIES:∃t,mg "MOST_ENTRIES"=some (.int 10 t)
 g_MOST_KINDS:∃t,mg "MOST_KINDS"=some (.int 4 t)
 g_MOST_SIGNS:∃t,mg "MOST_SIGNS"=some (.int 5 t)
 g_NO_SIGNS:∃t,mg "NO_SIGNS"=some (.str "1" t)
 g_BETWEEN_PARTS:∃t,mg "BETWEEN_PARTS"=some (.str "; " t)
 g_BETWEEN_PAIR:∃t,mg "BETWEEN_PAIR"=some (.str " < " t)
 g_BEHIND_WORD:∃t,mg "BEHIND_WORD"=some (.str ": " t)
 g_BETWEEN_KINDS:∃t,mg "BETWEEN_KINDS"=some (.str " | " t)
set_option hygiene false in
local macro_rules|`(tactic| walk_at"")=>`(tactic| simp only[CB,zF,CN,Dp,dXT,BE,Dc,dYA,dXC,Dk,tX,dLS,Bs,yA,AX,xT,BD,CF,dC,z9,wY,Dr,zO,dOp,dUn,zp,B5,zK,zV,dCB,zx,C1,Ck,zJ,CM,CZ,B7,z4,CI,dOr,CW,dIf,qr,Az,vK,w9,zE,Dg,C5,v6,Du,AL,xS,wA,wx,HD.dKr.injEq,zu,HD.dT.injEq,HD.dK.injEq,B4,Di,oy,wI,zQ,dLc,rO,Ce,
 yu,Ac,iN,yT,ze,yi,zw,zl,Af,yp,yE,um,yz,uh,Dj,B6,B8,Da,Dn,wM,rY,AN,By,xr,Bw,Am,Av,BG,Bu,Bj,Br,Cn,C9,Dq,zD,lL,BN,B1,Cj,DJ,vC,xl,xp,we,CV,B3,CC,C3,Dz,C7,Cf,wZ,DN,zt,vi,Bq,aw,aQ,
 fu,K7,al8,List.cons_append,M9,F4,N1,E5,List.set_cons_zero,List.set_cons_succ,V4,P9,ab9,exists_eq_left',exists_eq_left,D.int.injEq,D.bl.injEq,D.str.injEq,D.ref.injEq,D.tup.injEq,D.lst.injEq,true_and,and_true,if_true,decide_eq_true_eq,exists_and_left,Nat.zero_add,Nat.reduceAdd,Nat.reduceSub,Dd,zG,vF,CG,HD.lst.injEq,N0,or_true,true_or,and_self,↓reduceIte,Int.reduceLT,Int.reduceLE,Int.reducePow,Int.reduceNeg,Int.reduceToNat,Nat.reducePow,Nat.reduceLT,Nat.reduceLeDiff,Int.reduceAdd,Int.reduceMul,Int.reduceSub,E7,Bool.true_eq_false,if_false])
section
variable{P:K3}{w:P4}{K:u8}{z:Str->Option s0}{base:K0}{f:E9}{G:J7}
theorem kY{a b:TSd}{E:dR}{f:DE}{M:DH}(C:DE->DH->Prop)(g:∀nx,(∀ c e,C c e->nx c e)->a { E with nx:=nx } f M)(h:∀ c e,C c e->b E c e):xT a b E f M:=g _ h
theorem Bo{xs:List D}{n:Nat}:L2.dI xs none (some (n:Int))=xs.take n:=by
 unfold L2.dI;rw[HT.sIx_none,HT.sIx_nat,List.drop_zero,Nat.sub_zero]
 by_cases h:n<=xs.length
 ·rw[Nat.min_eq_left h]
 ·rw[Nat.min_eq_right (by lia),aj3,Z0 (by lia)]
theorem wR{xs:List D}{n:Nat}:L2.dI xs (some (n:Int)) none=xs.drop n:=by
 unfold L2.dI;rw[HT.sIx_none,HT.sIx_nat]
 by_cases h:n<=xs.length
 ·rw[Nat.min_eq_left h,Z0 (by simp)]
 ·rw[Nat.min_eq_right (by lia),an7,List.take_zero,List.drop_of_length_le (by lia)]
theorem dB{lo:Int}{n:Nat}:(pf lo n).length=n:=by simp[pf]
def bA(x:Str×Str):D:=.tup [.str x.1,.str x.2]
theorem nO{M:DH}{p q:E9}{a b:HD}(h:p≠q):ay (ay M p a) q b=ay (ay M q b) p a:=by
 funext c;unfold ay
 by_cases e:c=q
 ·subst e;simp[T9 h]
 ·by_cases f:c=p
  ·subst f;simp[h]
  ·simp[e,f]
def Bg(a b c:Int):Prop:=0<=a/\0<=b/\b<1000000403/\0<=c/\c<1000000513
def bx(l:List D):Prop:=∃a b c,l=[.int a,.int b,.int c]/\Bg a b c
def qf:SpD:=λa M R=>∃i,a=[.int i]/\∀p l,M p=none->bx l->R (.ref p) (ay M p (.lst l))
def eY:SpD:=λb M R=>∃p l n,b=[.ref p,.int n]/\M p=some (.lst l)/\bx l/\0<n/\n<1073741824/\∀v a,0<=v->v<n->bx a->R (.int v) (ay M p (.lst a))
theorem uB(F:Fun K "_law_pool" "_law_pool" lD f G)(T:Txt z):aO P w K z base CX0 1 f G ["_law_cell"] (spD K 1 qf):=by
 have b:=nH.nd;refine F.okR rfl nH (λm A e s H E o=>⟨_,(aj (aU (i:=1) b rfl (O8 rfl) ai)
   (aj (bp (ma (ic (aD xn (af 0) ai nbh) (jz (aD Ek (af 0) (aJ B9 ai ai) nbh)))) (ao (aU (i:=1) b rfl (O8 rfl) (aC CK rfl T.b_abs (by kernel_rfl) (aa (af 0) ag)))) aR)
   (aj (aU (i:=2) b rfl (O8 rfl) (aJ lj (af 0) ai))
   (ao (aB (lJ (aa (af 1) (aa (af 2) (aa (aJ lj (aJ aI (aJ eE (af 2) ai) ai) ai) ag))))))))),λq M R _ j bk=>?_⟩)
 obtain⟨i,rfl,k⟩:=j;refine bk ?_;clear bk;walk_at"";have c:∀a:Int,0<=a->∀p,M p=none->R (D.ref p) (ay M p (HD.lst [D.int a,D.int (i % 1000000403),D.int ((i % 1000000403*48271+12345) % 1000000513)])):=λa n p g=>k p _ g ⟨a,_,_,rfl,n,by lia,by lia,by lia,by lia⟩;refine aV (λh=>⟨sz3 3,c _ (by split<;>lia)⟩) (λh=>aV (λl=>⟨sz3 3,c _ (by split<;>lia)⟩) (λl=>⟨sz3 3,c _ (by lia)⟩))
theorem uK(F:Fun K "_law_draw" "_law_draw" kJ f G)(T:Txt z):aO P w K z base CX0 1 f G ["_law_pool_here","_law_amount"] (spD K 2 eY):=by
 have S:=nL.nd;refine F.okR rfl nL (λX A o s H E Z=>⟨_,(aj (bp (aD pC (bj bh (af 0) ai (λ_ _=>rfl)) ai nbh) (aj (aU (i:=2) S rfl (O8 rfl) (aJ lj (bj bh (af 0) ai (λ_ _=>rfl)) (af 1)))
   (aj (tV (af 0) ai (aJ xM (bj bh (af 0) ai (λ_ _=>rfl)) (af 1)))
   (ao (aB (af 2))))) aR)
   (aj (tV (af 0) ai (aJ lj (aJ aI (aJ aI (aJ eE (bj bh (af 0) ai (λ_ _=>rfl)) ai) (bj bh (af 0) ai (λ_ _=>rfl))) ai) ai))
   (aj (tV (af 0) ai (aJ lj (aJ aI (aJ aI (aJ eE (bj bh (af 0) ai (λ_ _=>rfl)) ai) (aJ lj (aJ eE (bj bh (af 0) ai (λ_ _=>rfl)) (bj bh (af 0) ai (λ_ _=>rfl))) ai)) ai) ai))
   (ao (aB (aJ lj (aJ xM (aJ aI (bj bh (af 0) ai (λ_ _=>rfl)) (aJ eE ai (bj bh (af 0) ai (λ_ _=>rfl)))) ai) (af 1))))))),λds M R _ J bk=>?_⟩)
 obtain⟨p,l,n,rfl,q,⟨a,b,c,rfl,I⟩,g,N,k⟩:=J;refine bk ?_;clear bk;have m:=fA q;have e:∀x,n9 x n:=λx=>⟨g,N⟩;obtain⟨U,L,Y,B,O⟩:=I;have Q:-18446744073709551616<(b*40014+c+7) % 1000000403/\(b*40014+c+7) % 1000000403<18446744073709551616:=by lia
 have C:=zG (j:=(b*40014+c+7) % 1000000403) Q;walk_at"";simp only[m,q,g,e];walk_at"";simp only[C];walk_at"";simp only[g,e];walk_at"";have u:∀x:Int,0<=x % n:=λx=>Int.emod_nonneg _ (by lia);have t:∀x:Int,x % n<n:=λx=>Int.emod_lt_of_pos _ g;refine aV (λh=>?_) (λh=>?_)
 ·exact k _ _ (u _) (t _) ⟨_,_,_,rfl,Int.ediv_nonneg (by lia) (by lia),L,Y,B,O⟩
 ·exact k _ _ (u _) (t _) ⟨_,_,_,rfl,U,by lia,by lia,by lia,by lia⟩
mutual
def aq:D->Bool
 |.tup a=>aL a
 |.lst a=>aL a
 |.str x=>decide (x.length<=1000000)
 |.scr _=>false
 |.ref _=>false
 |.box _ _=>false
 |_=>true
def aL:List D->Bool
 |[]=>true
 |d::a=>aq d&&aL a
end
theorem aK:∀{ds:List D},aL ds=true↔∀d∈ds,aq d=true
 |[]=>by simp[aL]
 |d::ds=>by simp[aL,aK (ds:=ds)]
theorem cA{M:DH}{d:D}(h:aq d=true):rdM M d=d:=by
 cases d<;>first|rfl|(simp[aq]at h)
def jR:D->Int->Bool
 |.tup a,n=>(a.length:Int)==n
 |_,_=>false
def av(x:Str):Bool:=decide (1<=x.length)&&decide (x.length<=8)&&x.cps.toList.all λc=>decide (c∈fQ)
def aX:D->Bool
 |.str x=>av x
 |_=>false
def bK:SpD:=λa M R=>∃d n,a=[d,.int n]/\aq d=true/\R (.bl (jR d n)) M
theorem cv{d:D}{n:Int}{M:DH}{R:D->DH->Prop}:bK [d,.int n] M R↔aq d=true/\R (.bl (jR d n)) M :=
 ⟨λ⟨b,a,e,h⟩=>by simp only[N0,D.int.injEq,and_true]at e;rw[e.1,e.2];exact h,λh=>⟨d,n,rfl,h⟩⟩
theorem jC(F:Fun K "is_tuple_of" "is_tuple_of" cT f G)(T:Txt z):aO P w K z base CX0 1 f G ["thing","many"] (spD K 2 bK):=by
 have i:=eW.nd;refine F.okR rfl eW (λh A b s H E e=>⟨_,(ao (aB (bS (hV (Tn:="tuple") (by decide) rfl T.b_isinstance rfl T.b_tuple (by kernel_rfl) (af 0)) (df (jc (cU e.units) (aC bE rfl T.b_len (by kernel_rfl) (aa (af 0) ag)) (af 1) nbh))))),λg M R _ c bk=>?_⟩);obtain⟨d,n,rfl,a,k⟩:=c;refine bk ?_;clear bk;walk_at"";simp only[cA a];cases d with
 |tup g =>
  refine⟨true,rfl,?_⟩;walk_at"";exact k
 |scr _=>simp[aq]at a
 |ref _=>simp[aq]at a
 |box _ _=>simp[aq]at a
 |_=>exact⟨false,rfl,by simp only[E7,if_false];exact k⟩
def br:SpD:=λa M R=>∃d,a=[d]/\aq d=true/\R (.bl (aX d)) M
theorem b6{d:D}{M:DH}{R:D->DH->Prop}:br [d] M R↔aq d=true/\R (.bl (aX d)) M :=
 ⟨λ⟨a,e,h⟩=>by simp only[N0,and_true]at e;rw[e];exact h,λh=>⟨d,rfl,h⟩⟩
def cS:SpD:=br
theorem cP{d:D}{M:DH}{R:D->DH->Prop}:cS [d] M R↔aq d=true/\R (.bl (aX d)) M:=b6
theorem tv:abc.cps.toList=fQ:=by rw[BJ,ax]
theorem eJ{bs:List Bool}:ve (.lst (bs.map D.bl))=some (.bl (bs.all id)):=by
 have b:(bs.map D.bl).all wu=true:=by rw[U1,L4];intro _ _;rfl
 have a:(bs.map D.bl).all uP=bs.all id:=by rw[U1];rfl
 simp only[ve,b,a,if_true]
theorem iL(F:Fun K "is_short_word" "is_short_word" bP f G)(T:Txt z):aO P w K z base CX0 1 f G ["thing"] (spD K 1 br):=by
 have I:=di.nd;refine F.okR rfl di (λo A g s H E B=>⟨_,(ao (aB (bS (hV (Tn:="str") (by decide) rfl T.b_isinstance rfl T.b_str (by kernel_rfl) (af 0)) (bS (jg kh kh ai (aC bE rfl T.b_len (by kernel_rfl) (aa (af 0) ag)) (dn rfl T.g_MOST_LETTERS)) (df (aC (ly rfl) rfl T.b_all (by kernel_rfl) (aa (gj (ms:=[false]) (ar:=["letter"]) (aG (n0:=0) rfl (show aY (ah bP) cw _ _=true from by decide +kernel)) rfl (bG (af 0)) (aS (i:=1) (show(cw++_).Nodup from by decide +kernel) rfl rfl) (λ_ _ _ _=>bH) (λ_ _ _ _=>(jc vJ (af 1) (bT rfl T.g_SMALL_LETTERS) rfl))) ag))))))),λC M R _ l bk=>?_⟩);obtain⟨d,rfl,a,k⟩:=l;refine bk ?_;clear bk;walk_at"";simp only[cA a];cases d with
 |str x =>
  have N:x.length<=1000000:=by simpa[aq]using a
  refine⟨true,rfl,?_⟩;walk_at"";refine⟨_,if_pos (szB _ (by lia)),?_⟩;walk_at"";have t:x.length=x.cps.toList.length:=by show x.cps.size=_;simp
  refine aV (λm=>aV (λn=>?_) (λn=>?_)) (λm=>?_)
  ·refine⟨_,if_pos (szB _ (by lia)),λp=>⟨p,?_⟩⟩;refine bR (λ_=>true) (λd=>match d with|.str y=>.bl (y.cps.toList.all λc=>decide (c∈fQ))|_=>.non) (λj=>∃x,j=[none,x]) _ _ _ (λd a j h=>?_) ⟨none,rfl⟩ ?_
   ·obtain⟨L,rfl⟩:=h;obtain⟨c,_,rfl⟩:=J3.mp (show d∈x.cps.toList.map λc=>D.str (tx [c])from a);refine⟨_,rfl,⟨_,rfl⟩,λJ q=>q,λ_ u q=>?_⟩;walk_at"";simp only[wZ,ab9,exists_eq_left',Bool.false_xor];rw[show(J5 "abcdefghijklmnopqrstuvwxyz").cps.toList=fQ from tv];simpa[ax]using q
   ·rw[M9,N9.mpr (λ_ _=>rfl)];have e:(L2.eK x).map (λd=>match d with|.str y=>D.bl (y.cps.toList.all λc=>decide (c∈fQ))|_=>.non)=(x.cps.toList.map λc=>decide (c∈fQ)).map D.bl:=by
     unfold L2.eK;rw[O9,O9];apply W1;intro c _;simp
    rw[e];refine⟨_,eJ,?_⟩;have b:(x.cps.toList.map λc=>decide (c∈fQ)).all id=av x:=by
     unfold av;rw[U1,decide_eq_true (by lia:1<=x.length),decide_eq_true (by lia:x.length<=8)];rfl
    rw[b];exact k
  ·have b:aX (.str x)=false:=by simp only[aX,av,decide_eq_false (by lia:¬ x.length<=8),aa9,L9]
   rw[b]at k;exact k
  ·have b:aX (.str x)=false:=by simp only[aX,av,decide_eq_false (by lia:¬ 1<=x.length),L9]
   rw[b]at k;exact k
 |scr _=>simp[aq]at a
 |ref _=>simp[aq]at a
 |box _ _=>simp[aq]at a
 |_=>exact⟨false,rfl,by simp only[E7,if_false];exact k⟩
theorem oq(F:Fun K "is_mark" "is_mark" gA f G)(T:Txt z)(b:FnD P w K z base "is_short_word" 1 1 br):aO P w K z base CX0 2 f G ["thing"] (spD K 1 cS):=by
 have j:=iU.nd;refine F.okR rfl iU (λh A a s H E e=>⟨_,(ao (aB (qd b e (aa (af 0) ag)))),λi M R _ c bk=>?_⟩);obtain⟨d,rfl,g,k⟩:=c;refine bk ?_;clear bk;walk_at"";exact b6.mpr ⟨g,k⟩
end
section
variable{P:K3}{w:P4}{K:u8}{J:Str->Option s0}{base:K0}{f:E9}{O:J7}
theorem kB{b:Type}{f:b->D}(a:∀x y,f x=f y->x=y):∀{xs ys:List b},xs.map f=ys.map f->xs=ys
 |[],[],_=>rfl
 |[],_::_,h=>by simp at h
 |_::_,[],h=>by simp at h
 |x::xs,y::ys,h=>by
  simp only[K7,N0]at h;rw[a _ _ h.1,kB a h.2]
def bX(x:Str×Int):D:=.tup [.str x.1,.int x.2]
theorem jx:∀x y,bX x=bX y->x=y:=λ⟨a,b⟩ ⟨c,d⟩ h=>by simpa[bX]using h
def sH:D->Bool
 |.int _=>true
 |_=>false
def fP:D->Bool
 |.int t=>decide (-99<=t)&&decide (t<=99)
 |_=>false
def cm:D->Bool
 |.tup [a,b]=>aX a&&fP b
 |_=>false
def o3:D->Bool
 |.tup a=>a.all cm
 |_=>false
def iW(f:D->Bool):SpD:=λa M R=>∃d,a=[d]/\aq d=true/\R (.bl (f d)) M
theorem bU{f:D->Bool}{d:D}{M:DH}{R:D->DH->Prop}:iW f [d] M R↔aq d=true/\R (.bl (f d)) M :=
 ⟨λ⟨a,e,h⟩=>by simp only[N0,and_true]at e;rw[e];exact h,λh=>⟨d,rfl,h⟩⟩
def i6:SpD:=iW sH
def j3:SpD:=iW fP
def jZ:SpD:=iW cm
def iq:SpD:=iW o3
theorem mM(F:Fun K "is_whole" "is_whole" fw f O)(T:Txt J):aO P w K J base CX0 1 f O ["thing"] (spD K 1 i6):=by
 have l:=g7.nd;refine F.okR rfl g7 (λg A c s H E h=>⟨_,(ao (aB (bS (hV (Tn:="int") (by decide) rfl T.b_isinstance rfl T.b_int (by kernel_rfl) (af 0)) (df (Ca (hV (Tn:="bool") (by decide) rfl T.b_isinstance rfl T.b_bool (by kernel_rfl) (af 0))))))),λj M R _ e bk=>?_⟩);obtain⟨d,rfl,a,k⟩:=e;refine bk ?_;clear bk;walk_at"";simp only[cA a];cases d with
 |int i=>exact⟨true,rfl,by simp only[if_true];exact⟨false,rfl,k⟩⟩
 |bl b=>exact⟨true,rfl,by simp only[if_true];exact⟨true,rfl,k⟩⟩
 |scr _=>simp[aq]at a
 |ref _=>simp[aq]at a
 |box _ _=>simp[aq]at a
 |_=>exact⟨false,rfl,by simp only[E7,if_false];exact k⟩
theorem n4(F:Fun K "is_turn" "is_turn" fZ f O)(T:Txt J)(b:FnD P w K J base "is_whole" 1 1 i6):aO P w K J base CX0 2 f O ["thing"] (spD K 1 j3):=by
 have l:=jf.nd;refine F.okR rfl jf (λi A c s H E g=>⟨_,(ao (aB (bS (qd b g (aa (af 0) ag)) (df (jg kh kh (yI yj (dn rfl T.g_MOST_TURN)) (af 0) (dn rfl T.g_MOST_TURN)))))),λj M R _ e bk=>?_⟩);obtain⟨d,rfl,a,k⟩:=e;refine bk ?_;clear bk;walk_at"";refine bU.mpr ⟨a,?_⟩;walk_at"";simp only[cA a];cases d with
 |int t =>
  simp only[sH,if_true];walk_at"";simp only[fP]at k;refine aV (λh=>?_) (λh=>?_)
  ·rw[decide_eq_true h,O1]at k;exact k
  ·rw[decide_eq_false h,L9]at k;exact k
 |scr _=>simp[aq]at a
 |ref _=>simp[aq]at a
 |box _ _=>simp[aq]at a
 |_=>simp only[sH,E7,if_false];exact k
theorem uQ{ds:List D}(h:¬ ds.length=2):cm (.tup ds)=false:=by
 match ds,h with
 |[],_=>rfl
 |[_],_=>rfl
 |[_,_],h=>exact absurd rfl h
 |_::_::_::_,_=>rfl
theorem o4(F:Fun K "is_sign" "is_sign" gB f O)(T:Txt J)(q:FnD P w K J base "is_tuple_of" 1 2 bK)(n:FnD P w K J base "is_mark" 2 1 cS)(g:FnD P w K J base "is_turn" 2 1 j3):aO P w K J base CX0 3 f O ["thing"] (spD K 1 jZ):=by
 have t:=jb.nd;refine F.okR rfl jb (λo A i s H E j=>⟨_,(ao (aB (bS (qd q j (aa (af 0) (aa ai ag))) (bS (qd n j (aa (bj bh (af 0) ai (λ_ _=>rfl)) ag)) (df (qd g j (aa (bj bh (af 0) ai (λ_ _=>rfl)) ag))))))),λl M R _ p bk=>?_⟩);obtain⟨d,rfl,c,k⟩:=p;refine bk ?_;clear bk;walk_at"";refine cv.mpr ⟨c,?_⟩;walk_at"";cases d with
 |tup l =>
  by_cases m:l.length=2
  ·match l,m,c,k with
   |[a,b],_,c,k =>
    have e:aq a=true/\aq b=true:=by simpa[aq,aL]using c
    rw[if_pos (by rfl)];walk_at"";refine cP.mpr ⟨e.1,?_⟩;walk_at"";simp only[cm]at k;refine aV (λh=>bU.mpr ⟨e.2,?_⟩) (λh=>?_)
    ·rw[h,O1]at k;exact k
    ·rw[show aX a=false by simpa using h,L9]at k;exact k
  ·rw[if_neg (by simp only[jR];simp;lia)];rw[uQ m]at k;exact k
 |scr _=>simp[aq]at c
 |ref _=>simp[aq]at c
 |box _ _=>simp[aq]at c
 |_=>rw[if_neg (by simp[jR])];exact k
theorem oh{f:D->Bool}{M:DH}{Q:List D->DH->Prop}{ds:List D}{te:TEd}{Δ0:DE}{n:Nat}(b:∀d∈ds,∀x,∀a:D->DH->Prop,a (.bl (f d)) M->te ((Δ0++[x]).set Δ0.length (some d)) M a)
  (h:Q ((ds.map f).map D.bl) M):cE (cH Δ0.length) yd te ds (Δ0++[none]) M [] Q:=by
 refine bR (λ_=>true) (λd=>.bl (f d)) (λe=>∃x,e=Δ0++[x]) _ _ _ (λd g e c=>?_) ⟨none,rfl⟩ ?_
 ·obtain⟨x,rfl⟩:=c;refine⟨_,rfl,⟨some d,by simp⟩,λi q=>q,λ_ a q=>b d g x a q⟩
 ·rw[M9,N9.mpr (λ_ _=>rfl)];rw[O9]at h;exact h
theorem p7(F:Fun K "is_row" "is_row" fD f O)(T:Txt J)(g:FnD P w K J base "is_sign" 3 1 jZ):aO P w K J base CX0 4 f O ["thing"] (spD K 1 iq):=by
 have u:=jW.nd;refine F.okR rfl jW (λo A h s H E m=>⟨_,(ao (aB (bS (hV (Tn:="tuple") (by decide) rfl T.b_isinstance rfl T.b_tuple (by kernel_rfl) (af 0)) (df (aC (ly rfl) rfl T.b_all (by kernel_rfl) (aa (gj (ms:=[false]) (ar:=["sign"]) (aG (n0:=0) rfl (show aY (ah fD) iy _ _=true from by decide +kernel)) rfl (bG (af 0)) (aS (i:=1) (show(iy++_).Nodup from by decide +kernel) rfl rfl) (λ_ _ _ _=>bH) (λ_ _ _ _=>(qd g m (aa (af 1) ag)))) ag)))))),λb M R _ l bk=>?_⟩);obtain⟨d,rfl,a,k⟩:=l;refine bk ?_;clear bk;walk_at"";simp only[cA a];cases d with
 |tup b =>
  refine⟨true,rfl,?_⟩;walk_at"";have c:∀d∈b,aq d=true:=aK.mp (by simpa[aq]using a);intro p;refine⟨p,oh (f:=cm) (Δ0:=[none]) (n:=1) (λd j x t q=>?_) ?_⟩
  ·walk_at"";exact bU.mpr ⟨c d j,q⟩
  ·refine⟨_,eJ,?_⟩;have e:(b.map cm).all id=o3 (.tup b):=by
    simp only[o3,U1];rfl
   rw[e];exact k
 |scr _=>simp[aq]at a
 |ref _=>simp[aq]at a
 |box _ _=>simp[aq]at a
 |_=>exact⟨false,rfl,by simp only[E7,if_false];exact k⟩
theorem bN{w:Str}(h:aM w):w.length<=8:=by
 have:w.length=w.cps.toList.length:=by show w.cps.size=_;simp
 rw[this];exact h.2.1
theorem du{w:Str}(h:aM w):av w=true:=by
 obtain⟨f,g,a⟩:=h;have e:w.length=w.cps.toList.length:=by show w.cps.size=_;simp
 unfold av;rw[decide_eq_true (by lia:1<=w.length),decide_eq_true (by lia:w.length<=8),O1,O1,L4];intro c b;have:=a c b;unfold nF at this;rw[decide_eq_true_eq];unfold fQ;rw[List.mem_range'_1]
 lia
theorem pV{a:List (Str×Int)}(h:∀x∈a,x.1.length<=8):aL (a.map bX)=true:=by
 rw[aK];intro d b;obtain⟨x,c,rfl⟩:=J3.mp b;have:=h x c;simp only[bX,aq,aL,V5,decide_eq_true_eq]
 lia
theorem lA{a b:List D}:aL (a++b)=(aL a&&aL b):=by
 rw[R6,F1,aK,aK,aK];exact⟨λh=>⟨λd c=>h d (ab0 _ c),λd c=>h d (K9 _ c)⟩,λh d c=>(P7.mp c).elim (h.1 d) (h.2 d)⟩
def gm:D->Bool
 |.tup [a,b]=>aX a&&aX b
 |_=>false
def qB:D->Bool
 |.tup a=>decide (a.length<=8)&&a.all gm
 |_=>false
def gM:SpD:=λa M R=>∃d,a=[d]/\aq d=true/\R (.bl (gm d)) M
def fc:SpD:=λa M R=>∃d,a=[d]/\aq d=true/\R (.bl (qB d)) M
theorem mN{d:D}{M:DH}{R:D->DH->Prop}:gM [d] M R↔aq d=true/\R (.bl (gm d)) M :=
 ⟨λ⟨a,e,h⟩=>by simp only[N0,and_true]at e;rw[e];exact h,λh=>⟨d,rfl,h⟩⟩
theorem gI{d:D}{M:DH}{R:D->DH->Prop}:fc [d] M R↔aq d=true/\R (.bl (qB d)) M :=
 ⟨λ⟨a,e,h⟩=>by simp only[N0,and_true]at e;rw[e];exact h,λh=>⟨d,rfl,h⟩⟩
theorem mS{ds:List D}(h:¬ ds.length=2):gm (.tup ds)=false:=by
 match ds,h with
 |[],_=>rfl
 |[_],_=>rfl
 |[_,_],h=>exact absurd rfl h
 |_::_::_::_,_=>rfl
theorem oX(F:Fun K "is_pair" "is_pair" gf f O)(T:Txt J)(p:FnD P w K J base "is_tuple_of" 1 2 bK)(l:FnD P w K J base "is_mark" 2 1 cS):aO P w K J base CX0 3 f O ["thing"] (spD K 1 gM):=by
 have q:=iQ.nd;refine F.okR rfl iQ (λo A j s H E g=>⟨_,(ao (aB (bS (qd p g (aa (af 0) (aa ai ag))) (bS (qd l g (aa (bj bh (af 0) ai (λ_ _=>rfl)) ag)) (df (qd l g (aa (bj bh (af 0) ai (λ_ _=>rfl)) ag))))))),λi M R _ n bk=>?_⟩);obtain⟨d,rfl,c,k⟩:=n;refine bk ?_;clear bk;walk_at"";refine cv.mpr ⟨c,?_⟩;walk_at"";cases d with
 |tup i =>
  by_cases m:i.length=2
  ·match i,m,c,k with
   |[a,b],_,c,k =>
    have e:aq a=true/\aq b=true:=by simpa[aq,aL]using c
    rw[if_pos (by rfl)];walk_at"";refine cP.mpr ⟨e.1,?_⟩;walk_at"";simp only[gm]at k;refine aV (λh=>cP.mpr ⟨e.2,?_⟩) (λh=>?_)
    ·rw[h,O1]at k;exact k
    ·rw[show aX a=false by simpa using h,L9]at k;exact k
  ·rw[if_neg (by simp only[jR];simp;lia)];rw[mS m]at k;exact k
 |scr _=>simp[aq]at c
 |ref _=>simp[aq]at c
 |box _ _=>simp[aq]at c
 |_=>rw[if_neg (by simp[jR])];exact k
theorem mw(F:Fun K "is_order" "is_order" c7 f O)(T:Txt J)(h:FnD P w K J base "is_pair" 3 1 gM):aO P w K J base CX0 4 f O ["thing"] (spD K 1 fc):=by
 have z:=hU.nd;refine F.okR rfl hU (λp A g s H E o=>⟨_,(ao (aB (bS (hV (Tn:="tuple") (by decide) rfl T.b_isinstance rfl T.b_tuple (by kernel_rfl) (af 0)) (bS (jc kh (aC bE rfl T.b_len (by kernel_rfl) (aa (af 0) ag)) (dn rfl T.g_MOST_PAIRS) nbh) (df (aC (ly rfl) rfl T.b_all (by kernel_rfl) (aa (gj (ms:=[false]) (ar:=["pair"]) (aG (n0:=0) rfl (show aY (ah c7) fo _ _=true from by decide +kernel)) rfl (bG (af 0)) (aS (i:=1) (show(fo++_).Nodup from by decide +kernel) rfl rfl) (λ_ _ _ _=>bH) (λ_ _ _ _=>(qd h o (aa (af 1) ag)))) ag))))))),λa M R _ l bk=>?_⟩);obtain⟨d,rfl,b,k⟩:=l;refine bk ?_;clear bk;walk_at"";simp only[cA b];cases d with
 |tup a =>
  refine⟨true,rfl,?_⟩;walk_at"";have c:∀d∈a,aq d=true:=aK.mp (by simpa[aq]using b);refine aV (λm=>λt=>⟨t,?_⟩) (λm=>?_)
  ·refine oh (f:=gm) (Δ0:=[none]) (n:=1) (λd j x u q=>?_) ?_
   ·walk_at"";exact mN.mpr ⟨c d j,q⟩
   ·refine⟨_,eJ,?_⟩;have e:(a.map gm).all id=qB (.tup a):=by
     simp only[qB,U1,decide_eq_true (by lia:a.length<=8),O1];rfl
    rw[e];exact k
  ·have e:qB (.tup a)=false:=by simp only[qB,decide_eq_false (by lia:¬ a.length<=8),L9]
   rw[e]at k;exact k
 |scr _=>simp[aq]at b
 |ref _=>simp[aq]at b
 |box _ _=>simp[aq]at b
 |_=>exact⟨false,rfl,by simp only[E7,if_false];exact k⟩
theorem bV{m:Type}{g:GD}{tc:TTd}{te:TEd}{M:DH}{Q:List D->DH->Prop}(i:m->D)(b:m->Bool)(y:m->D)(Ok:DE->Prop):∀(xs:List m) (f:DE) (c:List D),
  (∀x∈xs,∀ f,Ok f->∃ a,g (i x) f=some a/\Ok a/\(∀s:Bool->DH->Prop,s (b x) M->tc a M s)/\(b x=true->∀p:D->DH->Prop,p (y x) M->te a M p))->Ok f ->
  Q (c++(xs.filter b).map y) M->cE g tc te (xs.map i) f M c Q
 |[],f,c,_,_,q=>by simpa[cE]using q
 |x::xs,f,c,h,o,q=>by
  rw[K7];simp only[cE];obtain⟨a,e,l,t,u⟩:=h x (.head _) f o;refine⟨a,e,t _ ?_⟩;have ih:=λj w=>bV (Q:=Q) i b y Ok xs a j (λz A=>h z (.tail _ A)) l w;cases n:b x with
  |true =>
   simp only[if_true];refine u n _ (ih _ ?_);rw[List.filter_cons_of_pos n]at q;simpa using q
  |false =>
   simp only[E7,if_false];refine ih _ ?_;rw[List.filter_cons_of_neg (by simp[n])]at q;exact q
theorem gE{a:Type}{p:a->Prop}{xs:List a}{y:a}(h:∀x∈xs,p x)(b:p y):∀x∈xs++[y],p x:=λx c=>by
 rcases P7.mp c with z|z
 ·exact h x z
 ·obtain rfl:=F5.mp z;exact b
open Classical in
def fR{a:Type}(l:List a):Bool:=decide l.Nodup
theorem eX{a:Type}{l:List a}:fR l=true↔l.Nodup:=by simp[fR]
theorem dh{a b:Type}{f:a->b}(c:∀x y,f x=f y->x=y){l:List a}:fR (l.map f)=fR l:=by
 rw[R6,eX,eX,List.nodup_iff_pairwise_ne,List.nodup_iff_pairwise_ne,List.pairwise_map];exact⟨λh=>h.imp λq e=>q (by rw[e]),λh=>h.imp λq e=>q (c _ _ e)⟩
theorem jA{l:Type}:∀(xs c:List l),(xs.foldl eU c).length<=c.length+xs.length/\((xs.foldl eU c).length=c.length+xs.length->c.Nodup->(c++xs).Nodup)
 |[],c=>by simp
 |x::xs,c=>by
  rw[W5]
  by_cases h:x∈c
  ·rw[show eU c x=c from if_pos h];have:=(jA xs c).1;exact⟨by simp;lia,λe=>by simp at e;lia⟩
  ·rw[show eU c x=c++[x]from if_neg h];obtain⟨f,g⟩:=jA xs (c++[x]);refine⟨by simp at f ⊢;lia,λe i=>?_⟩;have:=g (by simp at e ⊢;lia) (by
    rw[X4];refine⟨i,by simp,λa m b j=>?_⟩;obtain rfl:=F5.mp j;rintro rfl;exact h m)
   simpa using this
theorem lR{c:Type}:∀(xs a:List c),(a++xs).Nodup->xs.foldl eU a=a++xs
 |[],a,_=>by simp
 |x::xs,a,h=>by
  have b:x∉a:=λz=>by
   rw[X4]at h;exact h.2.2 x z x (.head _) rfl
  rw[W5,show eU a x=a++[x]from if_neg b,lR xs _ (by simpa using h)];simp
theorem ur{a:Type}{xs:List a}:(((dJ xs).length:Int)==(xs.length:Int))=fR xs:=by
 rw[R6,eX,beq_iff_eq];constructor
 ·intro e;have:=(jA xs []).2 (by simp;exact_mod_cast e) List.nodup_nil;simpa using this
 ·intro h;have:dJ xs=xs:=by have:=lR xs [] (by simpa using h);simpa[dJ]using this
  rw[this]
theorem jB:∀(xs c:List Str),(xs.foldl fM c).length<=c.length+xs.length/\((xs.foldl fM c).length=c.length+xs.length->c.Nodup->(c++xs).Nodup)
 |[],c=>by simp
 |x::xs,c=>by
  rw[W5]
  by_cases h:x∈c
  ·rw[show fM c x=c from if_pos h];have:=(jB xs c).1;exact⟨by simp;lia,λe=>by simp at e;lia⟩
  ·rw[show fM c x=c++[x]from if_neg h];obtain⟨f,g⟩:=jB xs (c++[x]);refine⟨by simp at f ⊢;lia,λe i=>?_⟩;have:=g (by simp at e ⊢;lia) (by
    rw[X4];refine⟨i,by simp,λa l b j=>?_⟩;obtain rfl:=F5.mp j;rintro rfl;exact h l)
   simpa using this
theorem ml:∀(xs a:List Str),(a++xs).Nodup->xs.foldl fM a=a++xs
 |[],a,_=>by simp
 |x::xs,a,h=>by
  have b:x∉a:=λz=>by
   rw[X4]at h;exact h.2.2 x z x (.head _) rfl
  rw[W5,show fM a x=a++[x]from if_neg b,ml xs _ (by simpa using h)];simp
theorem yt{xs:List Str}:(((fB xs).length:Int)==(xs.length:Int))=fR xs:=by
 rw[R6,eX,beq_iff_eq];constructor
 ·intro e;have:=(jB xs []).2 (by simp;exact_mod_cast e) List.nodup_nil;simpa using this
 ·intro h;have:fB xs=xs:=by have:=ml xs [] (by simpa using h);simpa[fB]using this
  rw[this]
def cZ:D->Bool
 |.tup a=>a.all cm&&decide (a.length<=5)
 |_=>false
def jG:D->Bool
 |.tup a=>decide (1<=a.length)&&decide (a.length<=4)&&a.all cZ&&fR a
 |_=>false
theorem nk{d:D}(h:aX d=true):∃x,d=.str x/\av x=true:=by
 cases d with
 |str x=>exact⟨x,rfl,h⟩
 |_=>cases h
theorem yH{d:D}(h:cm d=true):∃k,d=kd (.tup k)/\∀z∈k,dpK 6 z:=by
 match d,h with
 |.tup [a,b],h =>
  simp only[cm,F1]at h;obtain⟨x,rfl,_⟩:=nk h.1;cases b with
  |int t =>
   refine⟨[.str x,.int t],rfl,λz c=>?_⟩;simp only[F8,Z6,or_false]at c;rcases c with rfl|rfl<;>simp[dpK]
  |_=>cases h.2
theorem xD:∀{ds:List D},ds.all cm=true->∃r:List KD,.tup ds=kU r/\∀z∈r,dpK 7 z
 |[],_=>⟨[],rfl,λ_ h=>by cases h⟩
 |d::ds,h=>by
  simp only[U3,F1]at h;obtain⟨k,rfl,b⟩:=yH h.1;obtain⟨r,e,c⟩:=xD h.2;refine⟨.tup k::r,?_,λz a=>?_⟩
  ·simp only[kU,D.tup.injEq]at e ⊢;rw[e];rfl
  ·rcases F8.mp a with rfl|a
   ·exact b
   ·exact c z a
theorem oj:∀{c:List D},c.all cZ=true->∃rs:List (List KD),c=rs.map kU/\∀k∈rs,dpK 8 (.tup k)
 |[],_=>⟨[],rfl,λ_ h=>by cases h⟩
 |d::c,h=>by
  simp only[U3,F1]at h;obtain⟨rs,rfl,a⟩:=oj h.2;cases d with
  |tup i =>
   have f:=h.1;simp only[cZ,F1]at f;obtain⟨r,e,g⟩:=xD f.1;exact⟨r::rs,by rw[K7,<-e],λk b=>by
    rcases F8.mp b with rfl|b
    ·exact g
    ·exact a k b⟩
  |_=>cases h.1
theorem tU:∀x y:Str,D.str x=D.str y->x=y:=λ_ _ h=>by cases h;rfl
abbrev Row:=List (Str×Int)
def cX(r:Row):D:=.tup (r.map bX)
def ik(a:List Row):D:=.tup (a.map cX)
def a7(e:Str×List Row):D:=.tup [.str e.1,ik e.2]
def rj(ord:List (Str×Str))(a:Str)(b:List (Str×List Row)):D:=.tup [.tup (ord.map bA),.str a,.tup (b.map a7)]
def nS(r:Row):Prop:=r.length<=5/\∀x∈r,aM x.1/\-99<=x.2/\x.2<=99
def fG(a:List Row):Prop:=1<=a.length/\a.length<=4/\a.Nodup/\∀r∈a,nS r
def rF(a:List (Str×List Row)):Prop:=1<=a.length/\a.length<=10/\(a.map (·.1)).Nodup/\∀e∈a,aM e.1/\fG e.2
def sS(o:List (Str×Str)):Prop:=o.length<=8/\∀x∈o,aM x.1/\aM x.2
def kin(a:List (Str×List Row))(w:Str):List Row:=(a.lookup w).getD []
theorem xG(x:Row):dLe (cX x) 59=true:=by
 show bI (x.map bX) 58=true;rw[bM];intro d a;obtain⟨y,_,rfl⟩:=J3.mp a;rfl
theorem uA{r:Row}(h:nS r):aq (cX r)=true:=by
 show aL (r.map bX)=true;exact pV λx a=>bN (h.2 x a).1
theorem rT{a:List Row}(h:∀r∈a,nS r):aq (ik a)=true:=by
 show aL (a.map cX)=true;rw[aK];intro d b;obtain⟨r,c,rfl⟩:=J3.mp b;exact uA (h r c)
theorem ju{w:Str}(h:aM w):aq (.str w)=true:=by
 have:=bN h;simp only[aq,decide_eq_true_eq];lia
theorem xO{e:Str×List Row}(h:aM e.1)(a:fG e.2):aq (a7 e)=true:=by
 show aL [.str e.1,ik e.2]=true;simp[aL,ju h,rT a.2.2.2]
def dw:SpD:=λc M R=>(∃a:List D,c=[.tup a]/\a.all cZ=true/\a.length<=4/\R (.bl (fR a)) M)∨∃b:List Str,c=[.lst (b.map .str)]/\b.length<=10/\R (.bl (fR b)) M
theorem kl(F:Fun K "are_unlike" "are_unlike" dF f O)(T:Txt J):aO P w K J base CX0 1 f O ["things"] (spD K 1 dw):=by
 have m:=fL.nd;refine F.okR rfl fL (λi A b s H E c=>⟨_,(ao (aB (jc (cU c.units) (D9 rfl c.units rfl T.b_len rfl T.b_set (af 0)) (aC bE rfl T.b_len (by kernel_rfl) (aa (af 0) ag)) nbh))),λl M R _ g bk=>?_⟩);refine bk ?_;clear bk;rcases g with⟨n,rfl,j,e,k⟩|⟨ws,rfl,e,k⟩
 ·walk_at"";obtain⟨rs,rfl,a⟩:=oj j;refine .inl ⟨rs,rfl,a,by rw[E4]at e;lia,?_⟩;rw[E4,ur,<-dh (λ_ _ h=>qk h)];exact k
 ·walk_at"";refine .inr ⟨ws,rfl,by lia,?_⟩;rw[E4,yt];exact k
def j7:SpD:=iW cZ
theorem pd(F:Fun K "is_kind" "is_kind" gb f O)(T:Txt J)(i:FnD P w K J base "is_row" 4 1 iq):aO P w K J base CX0 5 f O ["thing"] (spD K 1 j7):=by
 have m:=i8.nd;refine F.okR rfl i8 (λl A c s H E j=>⟨_,(ao (aB (bS (qd i j (aa (af 0) ag)) (df (jc kh (aC bE rfl T.b_len (by kernel_rfl) (aa (af 0) ag)) (dn rfl T.g_MOST_SIGNS) nbh))))),λa M R _ h bk=>?_⟩);obtain⟨d,rfl,b,k⟩:=h;refine bk ?_;clear bk;walk_at"";refine bU.mpr ⟨b,?_⟩;cases d with
 |tup a =>
  walk_at"";have e:cZ (.tup a)=(o3 (.tup a)&&decide ((a.length:Int)<=5)):=by
   simp only[cZ,o3];congr 1;rw[R6,decide_eq_true_eq,decide_eq_true_eq];lia
  cases g:o3 (.tup a)with
  |true =>
   rw[e,g,O1]at k;exact k
  |false =>
   rw[e,g,L9]at k;exact k
 |scr _=>simp[aq]at b
 |ref _=>simp[aq]at b
 |box _ _=>simp[aq]at b
 |_=>exact⟨false,rfl,by simp only[E7,if_false];exact k⟩
def ig:SpD:=iW jG
theorem mh(F:Fun K "are_kinds" "are_kinds" cL f O)(T:Txt J)(C:FnD P w K J base "are_unlike" 1 1 dw)(c:FnD P w K J base "is_kind" 5 1 j7):aO P w K J base CX0 6 f O ["thing"] (spD K 1 ig):=by
 have L:=gP.nd;refine F.okR rfl gP (λz A j s H E m=>⟨_,(ao (aB (bS (hV (Tn:="tuple") (by decide) rfl T.b_isinstance rfl T.b_tuple (by kernel_rfl) (af 0)) (bS (jg kh kh ai (aC bE rfl T.b_len (by kernel_rfl) (aa (af 0) ag)) (dn rfl T.g_MOST_KINDS)) (bS (aC (ly rfl) rfl T.b_all (by kernel_rfl) (aa (gj (ms:=[false]) (ar:=["kind"]) (aG (n0:=0) rfl (show aY (ah cL) eD _ _=true from by decide +kernel)) rfl (bG (af 0)) (aS (i:=1) (show(eD++_).Nodup from by decide +kernel) rfl rfl) (λ_ _ _ _=>bH) (λ_ _ _ _=>(qd c m (aa (af 1) ag)))) ag)) (df (qd C m (aa (af 0) ag)))))))),λI M R _ o bk=>?_⟩);obtain⟨d,rfl,b,k⟩:=o;refine bk ?_;clear bk;walk_at"";simp only[cA b];cases d with
 |tup a =>
  refine⟨true,rfl,?_⟩;walk_at"";have g:∀d∈a,aq d=true:=aK.mp (by simpa[aq]using b);have e:jG (.tup a)=(decide (1<=a.length)&&decide (a.length<=4)&&a.all cZ&&fR a):=rfl;refine aV (λp=>aV (λt B=>⟨B,?_⟩) (λt=>?_)) (λp=>?_)
  ·refine oh (f:=cZ) (Δ0:=[none]) (n:=1) (λd l x G q=>?_) ?_
   ·walk_at"";exact bU.mpr ⟨g d l,q⟩
   ·refine⟨_,eJ,_,rfl,?_⟩;have u:(a.map cZ).all id=a.all cZ:=by rw[U1];rfl
    rw[u];rw[e,decide_eq_true (by lia:1<=a.length),decide_eq_true (by lia:a.length<=4),O1,O1]at k;refine aV (λh=>.inl ⟨a,rfl,h,by lia,?_⟩) (λh=>?_)
    ·rw[h,O1]at k;exact k
    ·rw[show a.all cZ=false by simpa using h,L9]at k;exact k
  ·rw[e,decide_eq_false (by lia:¬ a.length<=4),aa9,L9,L9]at k;exact k
  ·rw[e,decide_eq_false (by lia:¬ 1<=a.length),L9,L9,L9]at k;exact k
 |scr _=>simp[aq]at b
 |ref _=>simp[aq]at b
 |box _ _=>simp[aq]at b
 |_=>exact⟨false,rfl,by simp only[E7,if_false];exact k⟩
def iJ:D->Bool
 |.tup [a,b]=>aX a&&jG b
 |_=>false
def yU:D->D
 |.tup (a::_)=>a
 |_=>.non
def tS:D->Bool
 |.tup a=>decide (1<=a.length)&&decide (a.length<=10)&&a.all iJ&&fR (a.map yU)
 |_=>false
theorem wQ{ds:List D}(h:¬ ds.length=2):iJ (.tup ds)=false:=by
 match ds,h with
 |[],_=>rfl
 |[_],_=>rfl
 |[_,_],h=>exact absurd rfl h
 |_::_::_::_,_=>rfl
def eS(p:Str×D):D:=.tup [.str p.1,p.2]
theorem sT:∀{ds:List D},ds.all iJ=true->∃c:List (Str×D),ds=c.map eS
 |[],_=>⟨[],rfl⟩
 |d::ds,h=>by
  simp only[U3,F1]at h;obtain⟨c,rfl⟩:=sT h.2
  match d,h.1 with
  |.tup [a,b],e =>
   simp only[iJ,F1]at e;obtain⟨x,rfl,_⟩:=nk e.1;exact⟨(x,b)::c,rfl⟩
theorem Ai{a:List (Str×D)}:(a.map eS).map yU=(a.map (·.1)).map D.str:=by
 rw[O9,O9];rfl
def jn:SpD:=iW iJ
theorem mz(F:Fun K "is_entry" "is_entry" fE f O)(T:Txt J)(p:FnD P w K J base "is_tuple_of" 1 2 bK)(n:FnD P w K J base "is_short_word" 1 1 br)(q:FnD P w K J base "are_kinds" 6 1 ig):aO P w K J base CX0 7 f O ["thing"] (spD K 1 jn):=by
 have t:=ie.nd;refine F.okR rfl ie (λm A g s H E i=>⟨_,(ao (aB (bS (qd p i (aa (af 0) (aa ai ag))) (bS (qd n i (aa (bj bh (af 0) ai (λ_ _=>rfl)) ag)) (df (qd q i (aa (bj bh (af 0) ai (λ_ _=>rfl)) ag))))))),λj M R _ o bk=>?_⟩);obtain⟨d,rfl,c,k⟩:=o;refine bk ?_;clear bk;walk_at"";refine cv.mpr ⟨c,?_⟩;walk_at"";cases d with
 |tup j =>
  by_cases l:j.length=2
  ·match j,l,c,k with
   |[a,b],_,c,k =>
    have e:aq a=true/\aq b=true:=by simpa[aq,aL]using c
    rw[if_pos (by rfl)];walk_at"";refine b6.mpr ⟨e.1,?_⟩;walk_at"";simp only[iJ]at k;refine aV (λh=>bU.mpr ⟨e.2,?_⟩) (λh=>?_)
    ·rw[h,O1]at k;exact k
    ·rw[show aX a=false by simpa using h,L9]at k;exact k
  ·rw[if_neg (by simp only[jR];simp;lia)];rw[wQ l]at k;exact k
 |scr _=>simp[aq]at c
 |ref _=>simp[aq]at c
 |box _ _=>simp[aq]at c
 |_=>rw[if_neg (by simp[jR])];exact k
def cW:SpD:=iW tS
theorem jF(F:Fun K "are_entries" "are_entries" bL f O)(T:Txt J)(S:FnD P w K J base "are_unlike" 1 1 dw)(N:FnD P w K J base "is_entry" 7 1 jn):aO P w K J base CX0 8 f O ["thing"] (spD K 1 cW):=by
 have X:=eV.nd;refine F.okR rfl eV (λL A j s H E u=>⟨_,(ao (aB (bS (hV (Tn:="tuple") (by decide) rfl T.b_isinstance rfl T.b_tuple (by kernel_rfl) (af 0)) (bS (jg kh kh ai (aC bE rfl T.b_len (by kernel_rfl) (aa (af 0) ag)) (dn rfl T.g_MOST_ENTRIES)) (bS (aC (ly rfl) rfl T.b_all (by kernel_rfl) (aa (gj (ms:=[false]) (ar:=["entry"]) (aG (n0:=0) rfl (show aY (ah bL) bq _ _=true from by decide +kernel)) rfl (bG (af 0)) (aS (i:=1) (show(bq++_).Nodup from by decide +kernel) rfl rfl) (λ_ _ _ _=>bH) (λ_ _ _ _=>(qd N u (aa (af 1) ag)))) ag)) (df (qd S u (aa (gj (ms:=[false]) (ar:=["word","kinds"]) (aG (n0:=0) rfl (show aY (ah bL) bq _ _=true from by decide +kernel)) rfl (bG (af 0)) (rm (n:=2) rfl (g6 (aS (i:=1) (show(bq++_).Nodup from by decide +kernel) rfl rfl) (g6 (aS (i:=2) (show(bq++_).Nodup from by decide +kernel) rfl rfl) sE))) (λ_ _ _ _=>bH) (λ_ _ _ _=>(af 1))) ag)))))))),λa M R _ B bk=>?_⟩);obtain⟨d,rfl,b,k⟩:=B;refine bk ?_;clear bk;walk_at"";simp only[cA b];cases d with
 |tup a =>
  refine⟨true,rfl,?_⟩;walk_at"";have c:∀d∈a,aq d=true:=aK.mp (by simpa[aq]using b);have e:tS (.tup a)=(decide (1<=a.length)&&decide (a.length<=10)&&a.all iJ&&fR (a.map yU)):=rfl;refine aV (λG=>aV (λt Q=>⟨Q,?_⟩) (λt=>?_)) (λG=>?_)
  ·refine oh (f:=iJ) (Δ0:=[none]) (n:=1) (λd m x C q=>?_) ?_
   ·walk_at"";exact bU.mpr ⟨c d m,q⟩
   ·refine⟨_,eJ,_,rfl,?_⟩;have I:(a.map iJ).all id=a.all iJ:=by rw[U1];rfl
    rw[I];rw[e,decide_eq_true (by lia:1<=a.length),decide_eq_true (by lia:a.length<=10),O1,O1]at k;refine aV (λh g=>⟨g,?_⟩) (λh=>?_)
    ·rw[h,O1]at k;obtain⟨z,rfl⟩:=sT h;refine bV eS (λ_=>true) (λp=>D.str p.1) (λo=>∃x y,o=[none,x,y]) z _ _ (λp U o l=>?_) ⟨none,none,rfl⟩ ?_
     ·obtain⟨x,y,rfl⟩:=l;refine⟨_,rfl,⟨_,_,rfl⟩,λY q=>q,λ_ C q=>?_⟩;walk_at"";exact q
     rw[M9,N9.mpr (λ_ _=>rfl)];rw[Ai,dh tU]at k;rw[E4]at t;exact .inr ⟨z.map (·.1),by rw[O9];rfl,by rw[E4];lia,k⟩
    ·rw[show a.all iJ=false by simpa using h,L9]at k;exact k
  ·rw[e,decide_eq_false (by lia:¬ a.length<=10),aa9,L9,L9]at k;exact k
  ·rw[e,decide_eq_false (by lia:¬ 1<=a.length),L9,L9,L9]at k;exact k
 |scr _=>simp[aq]at b
 |ref _=>simp[aq]at b
 |box _ _=>simp[aq]at b
 |_=>exact⟨false,rfl,by simp only[E7,if_false];exact k⟩
theorem tH:(J5 ".":Str)=tx [46]:=by decide +kernel
theorem s_r:(J5 "r":Str)=tx [114]:=by decide +kernel
theorem s_l:(J5 "l":Str)=tx [108]:=by decide +kernel
theorem yX:(J5 " ":Str)=tx [32]:=by decide +kernel
theorem vt:(J5 "1":Str)=tx [49]:=by decide +kernel
def sgn(t:Int):List Nat:=if 0<t then 46::E5 t.toNat 114 else if t<0 then 46::E5 (-t).toNat 108 else[]
def bZ(x:Str×Int):Str:=tx (x.1.cps.toList++sgn x.2)
theorem e9(x:Str):x.length=x.cps.toList.length:=by show x.cps.size=_;simp
theorem oU{c:Nat}{n:Int}(h0:0<=n)(a:n<=1000):sx (.str (tx [c])) (.int n)=some (.str (tx (E5 n.toNat c))):=by
 obtain⟨m,rfl⟩:=V6 h0;have e:sx (.str (tx [c])) (.int (m:Int))=if(tx [c]).length<=16777216/\-(2 ^ 63)<=(m:Int)/\(m:Int)<=16777216/\(tx [c]).length*(m:Int).toNat<=16777216 then some (.str (Txt.mul (tx [c]) (m:Int)))else none:=rfl
 rw[e,if_pos (by rw[aA];simp;lia),rk];simp
theorem AG(x:Str)(l:List Nat):x++tx l=tx (x.cps.toList++l):=by
 rw[<-mi,<-jS]
def dY:SpD:=λb M R=>∃(a:Str) (t:Int),b=[.tup [.str a,.int t]]/\a.length<=1000/\-1000<=t/\t<=1000/\R (.str (bZ (a,t))) M
theorem ki{a:Str}{t:Int}{M:DH}{R:D->DH->Prop}:dY [.tup [.str a,.int t]] M R↔a.length<=1000/\-1000<=t/\t<=1000/\R (.str (bZ (a,t))) M :=
 ⟨λ⟨c,b,e,h⟩=>by simp only[N0,D.tup.injEq,D.str.injEq,D.int.injEq,and_true]at e;rw[e.1,e.2];exact h,λh=>⟨a,t,rfl,h⟩⟩
theorem kX(F:Fun K "show_sign" "show_sign" dX f O)(T:Txt J):aO P w K J base CX0 1 f O ["sign"] (spD K 1 dY):=by
 have g:=gz.nd;refine F.okR rfl gz (λq A b s H E G=>⟨_,(aj (nt (af 0) (jY rfl (bB (a6 (i:=1) g rfl (O8 rfl)) (bB (a6 (i:=2) g rfl (O8 rfl)) jT))))
   (aj (bp (aD pC (af 2) ai nbh) (ao (aB (aJ aI (aJ aI (af 1) am) (aJ eE am (af 2))))) aR)
   (aj (bp (aD xn (af 2) ai nbh) (ao (aB (aJ aI (aJ aI (af 1) am) (aJ eE am (yI yj (af 2)))))) aR)
   (ao (aB (af 1)))))),λI M R _ o bk=>?_⟩)
 obtain⟨a,t,rfl,z,B,C,k⟩:=o;refine bk ?_;clear bk;have j:∀l:List Nat,l.length<=2000->(if a.length+(tx l).length<=F2 then some (D.str (a++tx l))else none)=some (.str (tx (a.cps.toList++l))):=λl u=>by rw[if_pos (by rw[aA];exact szB _ (by lia)),AG]
 have c:∀l m:List Nat,l.length<=3000->m.length<=2000->(if(tx l).length+(tx m).length<=F2 then some (D.str (tx l++tx m))else none)=some (.str (tx (l++m))):=λl m u L=>by rw[if_pos (by rw[aA,aA];exact szB _ (by lia)),mi]
 have x:a.cps.toList.length<=1000:=by rw[<-e9];exact z
 walk_at"";simp only[tH,s_r,s_l];refine⟨_,rfl,?_⟩;walk_at"";refine aV (λh=>?_) (λh=>?_)
 ·refine⟨_,j [46] (by simp),?_⟩;walk_at"";refine⟨_,oU (by lia) (by lia),?_⟩;walk_at"";refine⟨_,c _ _ (by simp only[E8,F4,N1,N6];lia) (by simp only[E8,F4,N1,N6];lia),?_⟩;have:bZ (a,t)=tx (a.cps.toList++[46]++E5 t.toNat 114):=by simp[bZ,sgn,h]
  rw[this]at k;exact k
 ·refine aV (λe=>?_) (λe=>?_)
  ·refine⟨_,j [46] (by simp),?_⟩;walk_at"";refine⟨_,oU (n:=-t) (by lia) (by lia),?_⟩;walk_at"";refine⟨_,c _ _ (by simp only[E8,F4,N1,N6];lia) (by simp only[E8,F4,N1,N6];lia),?_⟩;have:bZ (a,t)=tx (a.cps.toList++[46]++E5 (-t).toNat 108):=by simp[bZ,sgn,h,e]
   rw[this]at k;exact k
  ·have:bZ (a,t)=a:=by
    have p:t=0:=by lia
    subst p;simp only[bZ,sgn];simp;exact(jS a).symm
   rw[this]at k;exact k
def iB(a:List (Str×Int)):Str:=if a=[]then tx [49]else N5 ⟨#[32]⟩ (a.map bZ)
def iV(a:List (Str×Int)):Prop:=a.length<=2000/\∀x∈a,x.1.length<=8/\-99<=x.2/\x.2<=99
theorem nK{x:Str×Int}(h:x.1.length<=8/\-99<=x.2/\x.2<=99):(bZ x).length<=200:=by
 have:=e9 x.1;unfold bZ sgn;rw[aA,E8]
 split
 ·simp only[E8,F4,N1,N6];lia
 ·split
  ·simp only[E8,F4,N1,N6];lia
  ·simp only[E8,F4,N1,N6];lia
theorem z5{ys:List Str}(h:∀y∈ys,y.length<=200):(ys.map (·.length)).sum<=ys.length*200:=by
 induction ys with
 |nil=>simp
 |cons y ys ih =>
  have b:=h y (by simp);have c:=ih λz a=>h z (I0 _ a);simp only[K7,List.sum_cons,F4,Nat.add_mul]
  lia
theorem sy{a:List (Str×Int)}(h:iV a):j5 (tx [32]) (.lst ((a.map bZ).map D.str))=some (.str (N5 ⟨#[32]⟩ (a.map bZ))):=by
 simp only[j5,iD];have:=z5 (ys:=a.map bZ) λy b=>by
  obtain⟨x,c,rfl⟩:=J3.mp b;exact nK (h.2 x c)
 rw[E4]at this;have e:=h.1;rw[if_pos (by rw[aA,E4];simp only[F4,N1];lia)];unfold Txt.join;rw[StrLaws.glued_eq_join];rfl
def fF:SpD:=λb M R=>∃a:List (Str×Int),b=[.tup (a.map bX)]/\iV a/\R (.str (iB a)) M
theorem lr{a:List (Str×Int)}{M:DH}{R:D->DH->Prop}:fF [.tup (a.map bX)] M R↔iV a/\R (.str (iB a)) M :=
 ⟨λ⟨r,e,h⟩=>by simp only[N0,D.tup.injEq,and_true]at e;rw[kB jx e];exact h,λh=>⟨a,rfl,h⟩⟩
theorem mB(F:Fun K "show_row" "show_row" c9 f O)(T:Txt J)(u:FnD P w K J base "show_sign" 1 1 dY):aO P w K J base CX0 2 f O ["row"] (spD K 1 fF):=by
 have N:=g9.nd;refine F.okR rfl g9 (λB A l s H E o=>⟨_,(aj (bp (aD (cU o.units) (aC bE rfl T.b_len (by kernel_rfl) (aa (af 0) ag)) ai nbh) (ao (aB (bT rfl T.g_NO_SIGNS))) aR)
   (ao (aB (jI am (gj (ms:=[false]) (ar:=["sign"]) (aG (n0:=0) rfl (show aY (ah c9) fh _ _=true from by decide +kernel)) rfl (bG (af 0)) (aS (i:=1) (show(fh++_).Nodup from by decide +kernel) rfl rfl) (λ_ _ _ _=>bH) (λ_ _ _ _=>(qd u o (aa (af 1) ag)))))))),λL M R _ p bk=>?_⟩)
 obtain⟨b,rfl,c,k⟩:=p;refine bk ?_;clear bk;walk_at"";simp only[yX,vt];rw[E4];refine aV (λh=>?_) (λh=>?_)
 ·have g:b=[]:=List.length_eq_zero_iff.mp (by simpa using h);simp only[iB,g,if_true]at k;exact k
 ·have g:¬ b=[]:=λe=>h (by rw[e];rfl);simp only[iB,g,if_false]at k;refine λC=>⟨C,?_⟩;refine bR (λ_=>true) (λd=>match d with|.tup [.str a,.int t]=>.str (bZ (a,t))|_=>.non) (λn=>∃x,n=[none,x]) _ _ _ (λd z n m=>?_) ⟨none,rfl⟩ ?_
  ·obtain⟨x,rfl⟩:=m;obtain⟨⟨a,t⟩,G,rfl⟩:=J3.mp z;have j:=c.2 _ G;refine⟨_,rfl,⟨_,rfl⟩,λQ q=>q,λ_ I q=>?_⟩;simp only[bX];walk_at"";exact ki.mpr ⟨L5 j.1 (by decide),by have:=j.2.1;simp at this;lia,by have:=j.2.2;simp at this;lia,q⟩
  ·rw[M9,N9.mpr (λ_ _=>rfl),O9];have e:(b.map ((λd=>match d with|.tup [.str a,.int t]=>D.str (bZ (a,t))|_=>.non)∘bX))=(b.map bZ).map D.str:=by
    rw[O9];rfl
   rw[e];exact⟨_,sy c,k⟩
def e8(x:Str):D:=if 0<x.length/\ae8 x (tx [114])=(x.length:Int)then .int x.length else if 0<x.length/\ae8 x (tx [108])=(x.length:Int)then .int (-(x.length:Int))else .non
def gK:SpD:=λa M R=>∃x:Str,a=[.str x]/\x.length<=1000000/\R (e8 x) M
theorem mF{x:Str}{M:DH}{R:D->DH->Prop}:gK [.str x] M R↔x.length<=1000000/\R (e8 x) M :=
 ⟨λ⟨r,e,h⟩=>by simp only[N0,D.str.injEq,and_true]at e;rw[e];exact h,λh=>⟨x,rfl,h⟩⟩
theorem oi(F:Fun K "turn_in" "turn_in" gx f O)(T:Txt J):aO P w K J base CX0 1 f O ["letters"] (spD K 1 gK):=by
 have l:=je.nd;refine F.okR rfl je (λm A b s H E h=>⟨_,(aj (aU (i:=1) l rfl (O8 rfl) (aC bE rfl T.b_len (by kernel_rfl) (aa (af 0) ag)))
   (aj (bp (ma (fC (aD pC (af 1) ai nbh) (ji (aD (cU h.units) (n6 (af 0) am) (af 1) nbh)))) (ao (aB (af 1))) aR)
   (aj (bp (ma (fC (aD pC (af 1) ai nbh) (ji (aD (cU h.units) (n6 (af 0) am) (af 1) nbh)))) (ao (aB (yI yj (af 1)))) aR)
   (ao (aB cp))))),λn M R _ j bk=>?_⟩)
 obtain⟨x,rfl,o,k⟩:=j;refine bk ?_;clear bk;walk_at"";simp only[s_r,s_l];refine⟨_,if_pos (szB _ (by lia)),?_⟩;walk_at"";unfold e8 at k
 by_cases c:0<x.length
 ·have a:(0:Int)<(x.length:Int):=by lia
  simp only[c,a,true_and,if_true,beq_iff_eq]at k ⊢
  by_cases e:ae8 x (tx [114])=(x.length:Int)
  ·simp only[e,if_true]at k ⊢;exact k
  ·simp only[e,if_false]at k ⊢
   by_cases g:ae8 x (tx [108])=(x.length:Int)
   ·simp only[g,if_true]at k ⊢;exact k
   ·simp only[g,if_false]at k ⊢;exact k
 ·have a:¬ (0:Int)<(x.length:Int):=by lia
  simp only[c,a,false_and,if_false]at k ⊢;exact k
def ck(x:Str):D:=match J1 x (tx [46])with
 |[_]=>.tup [.str x,.int 0]
 |[a,b]=>.tup [.str a,e8 b]
 |_=>.non
def fV:SpD:=λa M R=>∃x:Str,a=[.str x]/\x.length<=1000000/\R (ck x) M
theorem mv{x:Str}{M:DH}{R:D->DH->Prop}:fV [.str x] M R↔x.length<=1000000/\R (ck x) M :=
 ⟨λ⟨r,e,h⟩=>by simp only[N0,D.str.injEq,and_true]at e;rw[e];exact h,λh=>⟨x,rfl,h⟩⟩
theorem bf{x y p:Str}(h:p∈J1 x y):p.length<=x.length:=part_short h
theorem oo(F:Fun K "sign_in" "sign_in" fU f O)(T:Txt J)(h:FnD P w K J base "turn_in" 1 1 gK):aO P w K J base CX0 2 f O ["text"] (spD K 1 fV):=by
 have n:=iY.nd;refine F.okR rfl iY (λq A j s H E g=>⟨_,(aj (aU (i:=1) n rfl (O8 rfl) (cM (af 0) am))
   (aj (bp (aD (cU g.units) (aC bE rfl T.b_len (by kernel_rfl) (aa (af 1) ag)) ai nbh) (ao (aB (bF (aa (af 0) (aa ai ag))))) aR)
   (aj (bp (aD (cU g.units) (aC bE rfl T.b_len (by kernel_rfl) (aa (af 1) ag)) ai nbh) (ao (aB (bF (aa (bj bh (af 1) ai (λ_ _=>rfl)) (aa (qd h g (aa (bj bh (af 1) ai (λ_ _=>rfl)) ag)) ag))))) aR)
   (ao (aB cp))))),λt M R _ m bk=>?_⟩)
 obtain⟨x,rfl,u,k⟩:=m;refine bk ?_;clear bk;walk_at"";simp only[tH];refine⟨by rw[aA];rfl,szB _ (by lia),?_⟩;unfold ck at k;have e:∀p∈J1 x (tx [46]),p.length<=x.length:=λp l=>bf l;rw[E4];generalize J1 x (tx [46])=o at k e
 match o,k,e with
 |[],k,_ =>
  simp only[N1];rw[if_neg (by decide),if_neg (by decide)];exact k
 |[a],k,_ =>
  simp only[F4,N1];rw[if_pos (by decide)];exact⟨sz3 2,k⟩
 |[a,b],k,e =>
  simp only[F4,N1];rw[if_neg (by decide),if_pos (by decide)];walk_at"";have:=e b (by simp);exact mF.mpr ⟨by lia,sz3 2,k⟩
 |a::b::c::r,k,_ =>
  simp only[F4];rw[if_neg (by simp;lia),if_neg (by simp;lia)];exact k
theorem pX{x:Str}:aq (e8 x)=true:=by
 unfold e8
 split
 ·rfl
 ·split<;>rfl
theorem qE{x:Str}(h:x.length<=1000000):aq (ck x)=true:=by
 unfold ck;have e:∀p∈J1 x (tx [46]),p.length<=x.length:=λp g=>bf g;generalize J1 x (tx [46])=f at e
 match f,e with
 |[],_=>rfl
 |[a],_=>simp only[aq,aL,decide_eq_true h,Bool.and_self]
 |[a,b],e =>
  have:=e a (by simp);simp only[aq,aL,decide_eq_true (by lia:a.length<=1000000),pX,Bool.and_self]
 |a::b::c::r,_=>rfl
def bv(x:Str):D:=if x=tx [49]then .tup []else if o3 (.tup ((J1 x (tx [32])).map ck))=true then .tup ((J1 x (tx [32])).map ck)else .non
def iH:SpD:=λa M R=>∃x:Str,a=[.str x]/\x.length<=1000000/\R (bv x) M
theorem o7{x:Str}{M:DH}{R:D->DH->Prop}:iH [.str x] M R↔x.length<=1000000/\R (bv x) M :=
 ⟨λ⟨r,e,h⟩=>by simp only[N0,D.str.injEq,and_true]at e;rw[e];exact h,λh=>⟨x,rfl,h⟩⟩
theorem qw(F:Fun K "row_in" "row_in" fK f O)(T:Txt J)(j:FnD P w K J base "sign_in" 2 1 fV)(C:FnD P w K J base "is_row" 4 1 iq):aO P w K J base CX0 5 f O ["text"] (spD K 1 iH):=by
 have G:=j6.nd;refine F.okR rfl j6 (λI A l s H E c=>⟨_,(aj (bp (aD (cU c.units) (af 0) (bT rfl T.g_NO_SIGNS) nbh) (ao (aB (bF ag))) aR)
   (aj (aU (i:=1) G rfl (O8 rfl) (dD fq rfl T.b_tuple (by kernel_rfl) (aa (gj (ms:=[false,false]) (ar:=["part"]) (aG (n0:=0) rfl (show aY (ah fK) iK _ _=true from by decide +kernel)) rfl (bG (cM (af 0) am)) (aS (i:=2) (show(iK++_).Nodup from by decide +kernel) rfl rfl) (λ_ _ _ _=>bH) (λ_ _ _ _=>(qd j c (aa (af 2) ag)))) ag)))
   (ao (aB (D4 (cJ (qd C c (aa (af 1) ag))) (af 1) cp))))),λQ M R _ B bk=>?_⟩)
 obtain⟨x,rfl,L,k⟩:=B;refine bk ?_;clear bk;walk_at"";simp only[yX,vt];unfold bv at k;refine aV (λh=>?_) (λh=>?_)
 ·rw[if_pos (by simpa using h)]at k;exact⟨sz3 0,k⟩
 ·rw[if_neg (by simpa using h)]at k;refine⟨by rw[aA];rfl,szB _ (by lia),?_⟩;intro t;refine⟨t,?_⟩;have a:∀p∈J1 x (tx [32]),p.length<=1000000:=λp z=>L5 (bf z) L;generalize J1 x (tx [32])=o at k a t;refine bR (λ_=>true) (λd=>match d with|.str y=>ck y|_=>.non) (λn=>∃u,n=[none,none,u]) _ _ _ (λd g n m=>?_) ⟨none,rfl⟩ ?_
  ·obtain⟨u,rfl⟩:=m;obtain⟨y,b,rfl⟩:=J3.mp g;refine⟨_,rfl,⟨_,rfl⟩,λS q=>q,λ_ N q=>?_⟩;walk_at"";exact mv.mpr ⟨a y b,q⟩
  ·rw[M9,N9.mpr (λ_ _=>rfl),O9];have e:o.map ((λd=>match d with|.str y=>ck y|_=>.non)∘D.str)=o.map ck:=rfl;rw[e];refine bU.mpr ⟨?_,_,rfl,?_⟩
   ·rw[aq,aK];intro d g;obtain⟨y,b,rfl⟩:=J3.mp g;exact qE (a y b)
   ·refine aV (λh=>?_) (λh=>?_)
    ·rw[if_pos h]at k;exact k
    ·rw[if_neg h]at k;exact k
def pcs(c:Nat):List Nat->List (List Nat)
 |[]=>[[]]
 |d::l=>if d=c then[]::pcs c l else match pcs c l with
  |[]=>[[d]]
  |p::r=>(d::p)::r
theorem o6(c:Nat):∀l:List Nat,pcs c l≠[]
 |[]=>by simp[pcs]
 |d::l=>by
  unfold pcs
  split
  ·simp
  ·cases pcs c l<;>simp
theorem oS{c:Nat}{l:List Nat}:pcs c (c::l)=[]::pcs c l:=by
 rw[pcs,if_pos rfl]
theorem rK{c d:Nat}{l p:List Nat}{r:List (List Nat)}(h:d≠c)(e:pcs c l=p::r):pcs c (d::l)=(d::p)::r:=by
 rw[pcs,if_neg h,e]
theorem lU(c:Nat)(l:List Nat):∃p r,pcs c l=p::r:=by
 cases e:pcs c l with
 |nil=>exact absurd e (o6 c l)
 |cons p r=>exact⟨p,r,rfl⟩
theorem rh{c:Nat}:∀{l:List Nat},∀p∈pcs c l,c∉p
 |[],p,a=>by simp[pcs]at a;subst a;simp
 |d::l,p,a=>by
  by_cases h:d=c
  ·subst h;rw[oS]at a;rcases F8.mp a with rfl|a
   ·simp
   ·exact rh p a
  ·obtain⟨q,r,e⟩:=lU c l;rw[rK h e]at a;have b:=rh (c:=c) (l:=l);rw[e]at b;rcases F8.mp a with rfl|a
   ·intro f;rcases F8.mp f with z|z
    ·exact h z.symm
    ·exact b q (.head _) z
   ·exact b p (.tail _ a)
theorem kA{c d:Nat}(f:d≠c):∀{l:List Nat},d∈l->∃p∈pcs c l,d∈p
 |e::l,h=>by
  by_cases i:e=c
  ·subst i;rcases F8.mp h with z|z
   ·exact absurd z f
   ·obtain⟨p,a,b⟩:=kA f z;exact⟨p,by rw[oS];exact .tail _ a,b⟩
  ·obtain⟨q,r,g⟩:=lU c l;rw[rK i g];rcases F8.mp h with z|z
   ·subst z;exact⟨_,.head _,.head _⟩
   ·obtain⟨p,a,b⟩:=kA f z;rw[g]at a;rcases F8.mp a with y|y
    ·subst y;exact⟨_,.head _,.tail _ b⟩
    ·exact⟨p,.tail _ y,b⟩
theorem eP{c:Nat}:∀(l:List Nat),(N5 ⟨#[c]⟩ ((pcs c l).map tx)).cps.toList=l
 |[]=>rfl
 |d::l=>by
  have ih:=eP (c:=c) l;obtain⟨p,r,e⟩:=lU c l;rw[e]at ih
  by_cases h:d=c
  ·subst h;rw[oS,e];rw[K7,K7,eN,ax,M9];rw[K7]at ih;rw[ih]
  ·rw[rK h e];cases r with
   |nil =>
    rw[K7,al8]at ih ⊢;have a:(N5 ⟨#[c]⟩ [tx (d::p)])=tx (d::p):=rfl;have b:(N5 ⟨#[c]⟩ [tx p])=tx p:=rfl;rw[b,ax]at ih;rw[a,ax,ih]
   |cons q r =>
    rw[K7,K7,eN,ax]at ih ⊢;rw[List.cons_append,ih]
theorem de{x:Str}{c:Nat}:J1 x (tx [c])=(pcs c x.cps.toList).map tx:=by
 have h:x=N5 ⟨#[c]⟩ ((pcs c x.cps.toList).map tx):=cc (eP _).symm;refine(congrArg (λz=>J1 z (tx [c])) h).trans ?_;refine rb (by simpa using o6 c _) λp b=>?_;obtain⟨q,a,rfl⟩:=J3.mp b;rw[ax];exact rh q a
def sgW(p:List Nat):Option (Str×Int):=match pcs 46 p with
 |[a]=>if av (tx a)=true then some (tx a,0)else none
 | [a,b] => if av (tx a) = true ∧ 1 ≤ b.length ∧ b.length ≤ 99 then
   (if b=E5 b.length 114 then some (tx a,(b.length:Int))else if b=E5 b.length 108 then some (tx a,-(b.length:Int))else none)else none
 |_=>none
def ke(l:List Nat):Bool:=decide (l=[49]) || (pcs 32 l).all λp=>(sgW p).isSome
def eB(l:List Nat):List (Str×Int):=if l=[49]then[]else(pcs 32 l).filterMap sgW
def oSg:Option (Str×Int)->D
 |none=>.non
 |some x=>bX x
theorem wN{c:Nat}:∀{l:List Nat},aj4 c l<=(l.length:Int)
 |[]=>by rw[PyProof.Rows.cnt_nil];simp
 |d::l=>by
  have:=wN (c:=c) (l:=l);rw[PyProof.Rows.cnt_cons,F4]
  split<;>lia
theorem pe{c:Nat}:∀{l:List Nat},aj4 c l=(l.length:Int)↔l=E5 l.length c
 |[]=>by rw[PyProof.Rows.cnt_nil];simp
 |d::l=>by
  have ih:=pe (c:=c) (l:=l);have le:=wN (c:=c) (l:=l);rw[PyProof.Rows.cnt_cons,F4,R5,N0,<-ih]
  by_cases h:d=c
  ·rw[if_pos h];constructor
   ·intro z;exact⟨h,by lia⟩
   ·rintro⟨_,z⟩;lia
  ·rw[if_neg h];constructor
   ·intro z;lia
   ·rintro⟨z,_⟩;exact absurd z h
theorem y9{b:List Nat}:e8 (tx b)=if 1<=b.length/\b=E5 b.length 114 then .int b.length else if 1<=b.length/\b=E5 b.length 108 then .int (-(b.length:Int))else .non:=by
 have e:∀c,ae8 (tx b) (tx [c])=((tx b).length:Int)↔b=E5 b.length c:=λc=>by
  have h:=L2.nP (tx b) c;rw[ax]at h;rw[show ae8 (tx b) (tx [c])=aj4 c b from h,aA];exact pe
 unfold e8;rw[aA]at *
 simp only[e];rfl
theorem zg{p:List Nat}:ck (tx p)=match pcs 46 p with
 |[_]=>.tup [.str (tx p),.int 0]
 |[a,b]=>.tup [.str (tx a),e8 (tx b)]
 |_=>.non:=by
 unfold ck;rw[de,ax]
 match pcs 46 p with
 |[]=>rfl
 |[_]=>rfl
 |[_,_]=>rfl
 |_::_::_::_=>rfl
theorem pY{p:List Nat}:cm (ck (tx p))=(sgW p).isSome/\∀x,sgW p=some x->ck (tx p)=bX x:=by
 rw[zg];unfold sgW;cases e:pcs 46 p with
 |nil=>exact⟨rfl,λ_ h=>by cases h⟩
 |cons a r =>
  cases r with
  |nil =>
   have m:a=p:=by
    have h:=eP (c:=46) p;rw[e]at h;have l:(N5 ⟨#[46]⟩ ([a].map tx))=tx a:=rfl;rw[l,ax]at h;exact h
   subst m;simp only[cm,aX,fP]
   by_cases h:av (tx a)=true
   ·rw[if_pos h,h];exact⟨rfl,λx f=>by cases f;rfl⟩
   ·rw[if_neg h,show av (tx a)=false by simpa using h];exact⟨rfl,λx f=>by cases f⟩
  |cons b r =>
   cases r with
   |nil =>
    simp only[y9]
    by_cases h:av (tx a)=true
    ·by_cases j:1<=b.length/\b=E5 b.length 114
     ·rw[if_pos j]
      by_cases g:b.length<=99
      ·rw[if_pos ⟨h,j.1,g⟩,if_pos j.2];refine⟨?_,λx f=>by cases f;rfl⟩;simp[cm,aX,fP,h];lia
      ·rw[if_neg (λz=>g z.2.2)];refine⟨?_,λx f=>by cases f⟩;simp[cm,aX,fP,h];lia
     ·rw[if_neg j]
      by_cases i:1<=b.length/\b=E5 b.length 108
      ·rw[if_pos i]
       by_cases g:b.length<=99
       ·rw[if_pos ⟨h,i.1,g⟩,if_neg (λz=>j ⟨i.1,z⟩),if_pos i.2];refine⟨?_,λx f=>by cases f;rfl⟩;simp[cm,aX,fP,h];lia
       ·rw[if_neg (λz=>g z.2.2)];refine⟨?_,λx f=>by cases f⟩;simp[cm,aX,fP,h];lia
      ·rw[if_neg i]
       by_cases g:1<=b.length/\b.length<=99
       ·rw[if_pos ⟨h,g⟩,if_neg (λz=>j ⟨g.1,z⟩),if_neg (λz=>i ⟨g.1,z⟩)];exact⟨by simp[cm,aX,fP],λx f=>by cases f⟩
       ·rw[if_neg (λz:av (tx a)=true/\_=>g z.2)];exact⟨by simp[cm,aX,fP],λx f=>by cases f⟩
    ·rw[if_neg (λz:av (tx a)=true/\_=>h z.1)];refine⟨?_,λx f=>by cases f⟩;simp[cm,aX,h]
   |cons c r=>exact⟨rfl,λ_ h=>by cases h⟩
theorem dj{x:Str}:bv x=if ke x.cps.toList=true then .tup ((eB x.cps.toList).map bX)else .non:=by
 have e:x=tx [49]↔x.cps.toList=[49]:=⟨λh=>by rw[h,ax],λh=>cc (by rw[h,ax])⟩;unfold bv ke eB
 by_cases h:x.cps.toList=[49]
 ·rw[if_pos (e.mpr h),decide_eq_true h,Bool.true_or,if_pos rfl,if_pos h];rfl
 ·rw[if_neg (λz=>h (e.mp z)),decide_eq_false h,an2,if_neg h,de];generalize pcs 32 x.cps.toList=b;have c:o3 (.tup ((b.map tx).map ck))=b.all λp=>(sgW p).isSome:=by
   simp only[o3];rw[U1,U1];congr 1;funext p;exact pY.1
  rw[c]
  by_cases a:(b.all λp=>(sgW p).isSome)=true
  ·rw[if_pos a,if_pos a];congr 1;clear c
   induction b with
   |nil=>rfl
   |cons p b ih =>
    rw[U3,F1]at a;obtain⟨x,f⟩:=U7.mp a.1;rw[K7,K7,ih a.2,N8,f,pY.2 x f];rfl
  ·rw[if_neg a,if_neg a]
theorem lE(y p q:Str)(r:List Str):N5 y (p::q::r)=p++y++N5 y (q::r):=rfl
theorem dv(a b:Str):(a++b).cps.toList=a.cps.toList++b.cps.toList:=by
 show(a.cps++b.cps).toList=_;simp
theorem rR{a b c:Str}(h:a++b=a++c):b=c:=by
 apply cc;have:=congrArg (λz:Str=>z.cps.toList) h;simp only[dv]at this;exact List.append_cancel_left this
theorem C2(x:Str):1<=X8 x:=by
 unfold X8
 split
 ·decide
 ·split<;>decide
theorem dQ(x y:Str)(t:X8 y=1):(J1 x y=[x]/\N7 x y=(x,ao9,ao9))∨∃w r rs,J1 x y=w::r::rs/\N7 x y=(w,y,N5 y (r::rs)):=by
 rcases StrLaws.occ_head x y 1 (F3 _)with⟨f,m⟩|⟨i,A,f,a,s⟩
 ·left;have g:W8 x y 0 x.length (x.length+1)=[]:=by
   rcases StrLaws.occ_head x y (x.length+1) (by lia)with⟨h,_⟩|⟨i,r,_,a,_⟩
   ·exact h
   ·exact absurd a (m i)
  refine⟨?_,?_⟩
  ·unfold J1;rw[g]
   split<;>rfl
  ·unfold N7;rw[f]
 ·right;obtain⟨b,g⟩:∃b,W8 x y 0 x.length (x.length+1)=i::b:=by
   rcases StrLaws.occ_head x y (x.length+1) (by lia)with⟨_,m⟩|⟨j,b,h,c,l⟩
   ·exact absurd a (m i)
   ·rcases ai1 i j with z|z|z
    ·exact absurd a (l i z)
    ·subst z;exact⟨b,h⟩
    ·exact absurd c (s j z)
  have u:(decide (x.length<y.length) || decide (X8 x<X8 y))=false:=by
   have:=a.1;have:=C2 x;rw[t,decide_eq_false (by lia),decide_eq_false (by lia)];rfl
  have o:J1 x y=K6.Str.partsBetween x (i::b) y.length:=by
   unfold J1;rw[g,u];rfl
  have n:N7 x y=(ah2 x 0 i,y,ah2 x (i+y.length) x.length):=by
   unfold N7;rw[f]
  obtain⟨r,rs,e⟩:∃r rs,K6.Str.partsBetween x (i::b) y.length=ah2 x 0 i::r::rs:=by
   unfold K6.Str.partsBetween;cases b with
   |nil=>exact⟨_,_,rfl⟩
   |cons _ _=>exact⟨_,_,rfl⟩
  refine⟨_,r,rs,o.trans e,?_⟩;have p:=P2 x y;rw[o,e,lE]at p;have q:=StrLaws.partition_sum x y;rw[n]at q;rw[n];rw[show ah2 x (i+y.length) x.length=N5 y (r::rs)from rR (q.trans p.symm)]
theorem nI{y:Str}{d:Nat}:∀{ps:List Str},d∈(N5 y ps).cps.toList->d∈y.cps.toList∨∃p∈ps,d∈p.cps.toList
 |[],h=>by simp[N5,ao9]at h
 |[p],h=>.inr ⟨p,.head _,h⟩
 |p::q::r,h=>by
  rw[lE,dv,dv]at h;rcases P7.mp h with h|h
  ·rcases P7.mp h with h|h
   ·exact .inr ⟨p,.head _,h⟩
   ·exact .inl h
  ·rcases nI h with h|⟨c,a,b⟩
   ·exact .inl h
   ·exact .inr ⟨c,.tail _ a,b⟩
theorem gY{y:Str}{d:Nat}(a:d∈y.cps.toList){p q:Str}{r:List Str}:d∈(N5 y (p::q::r)).cps.toList:=by
 rw[lE,dv,dv];exact ab0 _ (K9 _ a)
theorem fX(x y:Str)(a:X8 y=1):J1 x y≠[]:=by
 rcases dQ x y a with⟨h,_⟩|⟨w,r,rs,h,_⟩<;>rw[h]<;>simp
theorem cb{w:Str}(h:av w=true):aM w:=by
 unfold av at h;rw[F1,F1,decide_eq_true_eq,decide_eq_true_eq,e9,L4]at h;refine⟨h.1.1,h.1.2,λc a=>?_⟩;have:=h.2 c a;rw[decide_eq_true_eq]at this;unfold fQ at this;rw[List.mem_range'_1]at this;unfold nF
 lia
theorem zk{c:Nat}{p a b:List Nat}(h:pcs c p=[a,b]):p=a++c::b:=by
 have e:=eP (c:=c) p;rw[h]at e;rw[<-e,K7,K7,eN,ax];show a++c::(tx b).cps.toList=_;rw[ax]
theorem ui{c:Nat}{p a:List Nat}(h:pcs c p=[a]):p=a:=by
 have e:=eP (c:=c) p;rw[h]at e;rw[<-e];show(tx a).cps.toList=a;rw[ax]
theorem wj{p:List Nat}{x:Str×Int}(h:sgW p=some x):bZ x=tx p/\aM x.1/\-99<=x.2/\x.2<=99:=by
 unfold sgW at h;cases e:pcs 46 p with
 |nil=>rw[e]at h;cases h
 |cons a r =>
  rw[e]at h;cases r with
  |nil =>
   have c:(if av (tx a)=true then some (tx a,(0:Int))else none)=some x:=h
   by_cases f:av (tx a)=true
   ·rw[if_pos f]at c;cases c;refine⟨?_,cb f,by simp only;lia,by simp only;lia⟩;rw[ui e];simp only[bZ,sgn];simp[ax]
   ·rw[if_neg f]at c;cases c
  |cons b r =>
   cases r with
   |cons _ _=>cases h
   |nil =>
    have c:(if av (tx a)=true/\1<=b.length/\b.length<=99 then(if b=E5 b.length 114 then some (tx a,(b.length:Int))else if b=E5 b.length 108 then some (tx a,-(b.length:Int))else none)else none)=some x:=h
    by_cases f:av (tx a)=true/\1<=b.length/\b.length<=99
    ·rw[if_pos f]at c;have j:=zk e
     by_cases g:b=E5 b.length 114
     ·rw[if_pos g]at c;cases c;refine⟨?_,cb f.1,by simp only;lia,by simp only;lia⟩;rw[j];simp only[bZ,sgn,ax];rw[if_pos (by lia),ab6,<-g]
     ·rw[if_neg g]at c
      by_cases i:b=E5 b.length 108
      ·rw[if_pos i]at c;cases c;refine⟨?_,cb f.1,by simp only;lia,by simp only;lia⟩;rw[j];simp only[bZ,sgn,ax];rw[if_neg (by lia),if_pos (by lia),Int.neg_neg,ab6,<-i]
      ·rw[if_neg i]at c;cases c
    ·rw[if_neg f]at c;cases c
theorem kN{t:Str}{r:List (Str×Int)}(h:bv t=.tup (r.map bX)):t=iB r/\∀x∈r,aM x.1/\-99<=x.2/\x.2<=99:=by
 rw[dj]at h
 by_cases a:ke t.cps.toList=true
 ·rw[if_pos a]at h;have q:eB t.cps.toList=r:=kB jx (D.tup.inj h);subst q;unfold ke at a;unfold eB
  by_cases e:t.cps.toList=[49]
  ·rw[if_pos e];refine⟨?_,λx f=>by cases f⟩;rw[iB,if_pos rfl];exact cc (by rw[e,ax])
  ·rw[if_neg e];rw[decide_eq_false e,an2]at a;have m:=eP (c:=32) t.cps.toList;have n:=o6 32 t.cps.toList;generalize pcs 32 t.cps.toList=b at a m n;have l:∀{b:List (List Nat)},(b.all λp=>(sgW p).isSome)=true->(b.filterMap sgW).map bZ=b.map tx/\∀x∈b.filterMap sgW,aM x.1/\-99<=x.2/\x.2<=99:=by
    intro b a
    induction b with
    |nil=>exact⟨rfl,λ_ h=>nomatch h⟩
    |cons p b ih =>
     rw[U3,F1]at a;obtain⟨x,f⟩:=U7.mp a.1;obtain⟨w,o⟩:=ih a.2;rw[N8,f];obtain⟨u,s⟩:=wj f;refine⟨by simp only[K7,w,u],λy g=>?_⟩;rcases F8.mp g with rfl|g
     ·exact s
     ·exact o y g
   obtain⟨j,A⟩:=l a;refine⟨?_,A⟩;have i:¬ b.filterMap sgW=[]:=λz=>by
    rw[z]at j;exact n (by simpa using j.symm)
   rw[iB,if_neg i,j];exact cc m.symm
 ·rw[if_neg a]at h;cases h
theorem se:(J5 "; ":Str)=tx [59,32]:=by decide +kernel
theorem BP:(J5 " < ":Str)=tx [32,60,32]:=by decide +kernel
theorem wB:(J5 ": ":Str)=tx [58,32]:=by decide +kernel
theorem vM:(J5 " | ":Str)=tx [32,124,32]:=by decide +kernel
theorem wy:(J5 "goal ":Str)=tx [103,111,97,108,32]:=by decide +kernel
theorem zq:(J5 "goal":Str)=tx [103,111,97,108]:=by decide +kernel
def oa(a:List Row):Str:=N5 (tx [32,124,32]) (a.map iB)
def k7(e:Str×List Row):Str:=e.1++tx [58,32]++oa e.2
def jm(x:Str×Str):Str:=x.1++tx [32,60,32]++x.2
def bC(g:Str):Str:=tx [103,111,97,108,32]++g
def iG(ord:List (Str×Str))(g:Str)(a:List (Str×List Row)):List Str:=bC g::(ord.map jm++a.map k7)
def AB(ord:List (Str×Str))(g:Str)(a:List (Str×List Row)):Str:=N5 (tx [59,32]) (iG ord g a)
theorem nu{r:Row}(h:nS r):iV r:=⟨by have:=h.1;lia,λx a=>⟨bN (h.2 x a).1,(h.2 x a).2⟩⟩
theorem aF(a b:Str):(a++b).length=a.length+b.length:=by rw[e9,dv,E8,<-e9,<-e9]
theorem wU{w:Str}(h:aM w){c:Nat}(a:c∈w.cps.toList):97<=c/\c<=122:=by
 have:=h.2.2 c a;unfold nF at this
 lia
theorem tZ{B:Nat}{ys:List Str}(h:∀y∈ys,y.length<=B):(ys.map (·.length)).sum<=ys.length*B:=by
 induction ys with
 |nil=>simp
 |cons y ys ih =>
  have b:=h y (by simp);have c:=ih λz a=>h z (I0 _ a);simp only[K7,List.sum_cons,F4,Nat.add_mul]
  lia
theorem jQ{B n:Nat}{sep:Str}{ys:List Str}(h:∀y∈ys,y.length<=B)(hn:ys.length<=n)(hs:sep.length<=3):(N5 sep ys).length<=n*B+n*3:=by
 have c:=StrLaws.join_length_le sep ys;have e:=tZ h;have a:ys.length*B<=n*B:=Nat.mul_le_mul_right _ hn;have b:ys.length*sep.length<=n*3:=Nat.mul_le_mul hn hs
 lia
theorem oz{B n:Nat}{sep:Str}{ys:List Str}(h:∀y∈ys,y.length<=B)(hn:ys.length<=n)(hs:sep.length<=3)(c:n*B+n*3<=16777216):j5 sep (.lst (ys.map D.str))=some (.str (N5 sep ys)):=by
 simp only[j5,iD];have b:=tZ h;have a:ys.length*B<=n*B:=Nat.mul_le_mul_right _ hn;have e:ys.length*sep.length<=n*3:=Nat.mul_le_mul hn hs;rw[if_pos (by lia)];unfold Txt.join;rw[StrLaws.glued_eq_join]
theorem nc{r:Row}(h:nS r):(iB r).length<=1015:=by
 unfold iB
 split
 ·rw[aA];decide
 ·refine L5 (jQ (B:=200) (n:=5) (λy a=>?_) (by rw[E4];exact h.1) (by decide)) (by decide);obtain⟨x,b,rfl⟩:=J3.mp a;exact nK ((nu h).2 x b)
theorem kO{a:List Row}(h:fG a):(oa a).length<=4072:=by
 refine L5 (jQ (B:=1015) (n:=4) (λy c=>?_) (by rw[E4];exact h.2.1) (by rw[aA];decide)) (by decide);obtain⟨r,b,rfl⟩:=J3.mp c;exact nc (h.2.2.2 r b)
theorem wf{e:Str×List Row}(a:aM e.1)(h:fG e.2):(k7 e).length<=4082:=by
 unfold k7;rw[aF,aF,aA];have:=bN a;have:=kO h;simp only[F4,N1];lia
theorem uW{x:Str×Str}(b:aM x.1)(a:aM x.2):(jm x).length<=4082:=by
 unfold jm;rw[aF,aF,aA];have:=bN b;have:=bN a;simp only[F4,N1];lia
theorem uY{g:Str}(h:aM g):(bC g).length<=4082:=by
 unfold bC;rw[aF,aA];have:=bN h;simp only[F4,N1];lia
section
variable{z:List (Str×Str)}{g:Str}{G:List (Str×List Row)}
theorem m8(b:sS z)(hg:aM g)(he:rF G):(∀y∈iG z g G,y.length<=4082)/\(iG z g G).length<=19:=by
 refine⟨λy a=>?_,?_⟩
 ·rcases F8.mp a with rfl|a
  ·exact uY hg
  ·rcases P7.mp a with a|a
   ·obtain⟨x,c,rfl⟩:=J3.mp a;exact uW (b.2 x c).1 (b.2 x c).2
   ·obtain⟨e,h,rfl⟩:=J3.mp a;exact wf (he.2.2.2 e h).1 (he.2.2.2 e h).2
 ·have:=b.1;have:=he.2.1;simp only[iG,F4,E8,E4];lia
end
theorem sJ{g:Str}(h:aM g):J1 (bC g) (tx [32])=[tx [103,111,97,108],g]:=by
 have e:bC g=N5 (tx [32]) [tx [103,111,97,108],g]:=by
  refine cc ?_;rw[e6,bC,dv,ax,ax,ax];simp[N5]
 rw[e];refine qq (y:=tx [32]) (pre:=[]) (post:=[]) (c:=32) (by rw[ax];rfl) (by simp) (by simp) (by decide +kernel) (by simp) λy b a=>?_;have:y=tx [103,111,97,108]∨y=g:=by simpa using b
 rcases this with rfl|rfl
 ·rw[ax]at a;simp at a
 ·have:=wU h a;lia
theorem cR{a b:Str}(h:a.length+b.length<=1000000):mK (.str a) (.str b)=some (.str (a++b)):=if_pos (szB _ (by lia))
def gp:SpD:=λa M R=>∃e:Str×List Row,a=[a7 e]/\aM e.1/\fG e.2/\R (.str (k7 e)) M
theorem j9(F:Fun K "show_entry" "show_entry" cz f O)(T:Txt J)(z:FnD P w K J base "show_row" 2 1 fF):aO P w K J base CX0 3 f O ["entry"] (spD K 1 gp):=by
 have m:=fN.nd;refine F.okR rfl fN (λC A h s H E a=>⟨_,(aj (nt (af 0) (jY rfl (bB (a6 (i:=1) m rfl (O8 rfl)) (bB (a6 (i:=2) m rfl (O8 rfl)) jT))))
   (ao (aB (aJ aI (aJ aI (af 1) (bT rfl T.g_BEHIND_WORD)) (jI (bT rfl T.g_BETWEEN_KINDS) (gj (ms:=[false,false,false]) (ar:=["kind"]) (aG (n0:=0) rfl (show aY (ah cz) dq _ _=true from by decide +kernel)) rfl (bG (af 2)) (aS (i:=3) (show(dq++_).Nodup from by decide +kernel) rfl rfl) (λ_ _ _ _=>bH) (λ_ _ _ _=>(qd z a (aa (af 3) ag))))))))),λN M R _ u bk=>?_⟩)
 obtain⟨⟨L,g⟩,rfl,p,c,k⟩:=u;refine bk ?_;clear bk;have b:=bN p;have e:=kO c;simp only[a7,ik];walk_at"";rw[wB,vM];have o:(tx [58,32]).length=2:=by rw[aA];rfl
 refine⟨_,rfl,_,rfl,_,cR (by rw[o];simp only at b;lia),_,rfl,_,rfl,λG=>⟨G,bV cX (λ_=>true) (λr=>D.str (iB r)) (λl=>∃x,l=[none,none,none,x]) g _ _ (λr a l j=>?_) ⟨none,rfl⟩ ?_⟩⟩
 ·obtain⟨x,rfl⟩:=j;refine⟨_,rfl,⟨_,rfl⟩,λQ q=>q,λ_ I q=>?_⟩;walk_at"";exact lr.mpr ⟨nu (c.2.2.2 r a),q⟩
 ·rw[M9,N9.mpr (λ_ _=>rfl),show g.map (λr=>D.str (iB r))=(g.map iB).map D.str by rw[O9];rfl];refine⟨_,oz (B:=1015) (n:=4) (λy t=>?_) (by rw[E4];exact c.2.1) (by rw[aA];decide) (by decide),_,cR ?_,k⟩
  ·obtain⟨r,a,rfl⟩:=J3.mp t;exact nc (c.2.2.2 r a)
  ·rw[aF,o];simp only[oa]at e;simp only at b
   lia
def eZ:SpD:=λb M R=>∃(ord:List (Str×Str)) (g:Str) (a:List (Str×List Row)),b=[rj ord g a]/\sS ord/\aM g/\rF a/\R (.str (AB ord g a)) M
theorem iX(F:Fun K "show_lexicon" "show_lexicon" bz f O)(T:Txt J)(L:FnD P w K J base "show_entry" 3 1 gp):aO P w K J base CX0 4 f O ["lexicon"] (spD K 1 eZ):=by
 have m:=dO.nd;refine F.okR rfl dO (λa1 A u s H E Z=>⟨_,(aj (nt (af 0) (jY rfl (bB (a6 (i:=1) m rfl (O8 rfl)) (bB (a6 (i:=2) m rfl (O8 rfl)) (bB (a6 (i:=3) m rfl (O8 rfl)) jT)))))
   (aj (sQ (i:=4) m rfl rfl rfl (ms:=[false,false,false,false,false]) (ar:=["low","high"]) (aG (n0:=0) rfl (show aY (ah bz) ba _ _=true from by decide +kernel)) rfl (bG (af 1)) (rm (n:=2) rfl (g6 (aS (i:=5) (show(ba++_).Nodup from by decide +kernel) rfl rfl) (g6 (aS (i:=6) (show(ba++_).Nodup from by decide +kernel) rfl rfl) sE))) (λ_ _ _ _=>bH) (λ_ _ _ _=>(aJ aI (aJ aI (af 5) (bT rfl T.g_BETWEEN_PAIR)) (af 6))))
   (ao (aB (jI (bT rfl T.g_BETWEEN_PARTS) (aJ aI (aJ aI (cn (aa (aJ aI am (af 2)) ag)) (af 4)) (gj (ms:=[false,false,false,false,false]) (ar:=["entry"]) (aG (n0:=0) rfl (show aY (ah bz) ba _ _=true from by decide +kernel)) rfl (bG (af 3)) (aS (i:=5) (show(ba++_).Nodup from by decide +kernel) rfl rfl) (λ_ _ _ _=>bH) (λ_ _ _ _=>(qd L Z (aa (af 5) ag)))))))))),λds M R _ N bk=>?_⟩)
 obtain⟨ord,g,o,rfl,l,t,j,k⟩:=N;refine bk ?_;clear bk;have a0:=bN t;have Y:=l.1;have C:=j.2.1;simp only[rj];walk_at"";rw[BP,wy,se];have U:(tx [103,111,97,108,32]).length=5:=by rw[aA];rfl
 have z:(tx [32,60,32]).length=3:=by rw[aA];rfl
 refine⟨_,rfl,_,rfl,_,rfl,λhz=>⟨hz,bV bA (λ_=>true) (λx=>D.str (jm x)) (λh=>∃x y,h=[none,none,none,none,none,x,y]) ord _ _ (λx I h c=>?_) ⟨none,none,rfl⟩ ?_⟩⟩
 ·obtain⟨a,b,rfl⟩:=c;obtain⟨x1,x2⟩:=x;have S:=bN (l.2 _ I).1;have X:=bN (l.2 _ I).2;simp only at S X;refine⟨_,rfl,⟨_,_,rfl⟩,λQ1 q=>q,λ_ Q q=>?_⟩;walk_at"";exact⟨_,cR (by rw[z];lia),_,cR (by rw[aF,z];lia),q⟩
 ·rw[M9,N9.mpr (λ_ _=>rfl)];refine⟨_,rfl,_,cR (by rw[U];lia),sz3 1,_,rfl,_,if_pos (sz3 _ (by simp;lia)),_,rfl,_,rfl,λp=>⟨p,bV a7 (λ_=>true) (λe=>D.str (k7 e)) (λh=>∃x,h=[none,none,none,none,none,x]) o _ _ (λe G h c=>?_) ⟨none,rfl⟩ ?_⟩⟩
  ·obtain⟨x,rfl⟩:=c;refine⟨_,rfl,⟨_,rfl⟩,λQ1 q=>q,λ_ Q q=>?_⟩;walk_at"";exact⟨e,rfl,(j.2.2.2 e G).1,(j.2.2.2 e G).2,q⟩
  ·rw[M9,N9.mpr (λ_ _=>rfl)];have el:[D.str (bC g)]++ord.map (λx=>D.str (jm x))++o.map (λe=>D.str (k7 e))=(iG ord g o).map D.str:=by
    simp[iG,Function.comp_def]
   refine⟨_,if_pos (sz3 _ (by simp;lia)),_,(show j5 _ (.lst ([D.str (bC g)]++ord.map (λx=>D.str (jm x))++o.map (λe=>D.str (k7 e))))=_ by rw[el];exact oz (B:=4082) (n:=19) (m8 l t j).1 (m8 l t j).2 (by rw[aA];decide) (by decide)),k⟩
theorem jE{x y a b:Str}(h:J1 x y=[a,b]):x=a++y++b:=by
 have:=P2 x y;rw[h]at this;exact this.symm
def goO(p:Str):Option Str:=match J1 p (tx [32])with
 |[a,b]=>if a=tx [103,111,97,108]/\av b=true then some b else none
 |_=>none
theorem pQ{p g:Str}(h:goO p=some g):p=bC g/\aM g:=by
 unfold goO at h
 split at h
 ·rename_i a b e
  split at h
  ·rename_i c;cases h;have:=jE e;rw[c.1]at this;refine⟨this.trans ?_,cb c.2⟩;unfold bC;rw[mi];rfl
  ·cases h
 ·cases h
theorem wC{g:Str}(h:aM g):goO (bC g)=some g:=by
 unfold goO;rw[sJ h];exact if_pos ⟨rfl,du h⟩
def prO(p:Str):Option (Str×Str):=match J1 p (tx [32,60,32])with
 |[a,b]=>if av a=true/\av b=true then some (a,b)else none
 |_=>none
theorem lX{p:Str}{x:Str×Str}(h:prO p=some x):p=jm x/\aM x.1/\aM x.2/\J1 p (tx [32,60,32])=[x.1,x.2]:=by
 unfold prO at h
 split at h
 ·rename_i a b e
  split at h
  ·rename_i c;cases h;exact⟨jE e,cb c.1,cb c.2,e⟩
  ·cases h
 ·cases h
theorem wk{p:Str}:gm (.tup ((J1 p (tx [32,60,32])).map .str))=(prO p).isSome:=by
 unfold prO
 split
 ·rename_i a b e;rw[e];simp only[K7,al8,gm,aX]
  by_cases c:av a=true/\av b=true
  ·rw[if_pos c,c.1,c.2];rfl
  ·rw[if_neg c];cases g:av a<;>cases f:av b<;>simp_all
 ·rename_i h;refine mS λz=>?_;rw[E4]at z
  match e:J1 p (tx [32,60,32]),z with
  |[a,b],_=>exact h a b e
def enD(p:Str):D:=match J1 p (tx [58,32])with
 |[a,b]=>.tup [.str a,.tup ((J1 b (tx [32,124,32])).map bv)]
 |_=>.non
def enO(p:Str):Option (Str×List Row):=match J1 p (tx [58,32])with
 |[a,b]=>if av a=true/\jG (.tup ((J1 b (tx [32,124,32])).map bv))=true then some (a,(J1 b (tx [32,124,32])).map λt=>eB t.cps.toList)else none
 |_=>none
theorem ub{p:Str}:iJ (enD p)=(enO p).isSome:=by
 unfold enO enD
 split
 ·rename_i a b e;simp only[iJ,aX]
  by_cases c:av a=true/\jG (.tup ((J1 b (tx [32,124,32])).map bv))=true
  ·rw[if_pos c,c.1,c.2];rfl
  ·rw[if_neg c,ah3,Bool.and_eq_false_iff];rcases Classical.not_and_iff_not_or_not.mp c with h|h
   ·exact .inl (by simpa using h)
   ·exact .inr (by simpa using h)
 ·rfl
theorem kH{t:Str}(h:cZ (bv t)=true):bv t=cX (eB t.cps.toList)/\t=iB (eB t.cps.toList)/\nS (eB t.cps.toList):=by
 have e:=dj (x:=t)
 by_cases a:ke t.cps.toList=true
 ·rw[if_pos a]at e;obtain⟨c,b⟩:=kN e;refine⟨e,c,?_,b⟩;rw[e]at h;simp only[cZ,F1,decide_eq_true_eq,E4]at h
  first|exact h.2|exact h.1|lia
 ·rw[if_neg a]at e;rw[e]at h;cases h
theorem jO:∀x y:Row,cX x=cX y->x=y:=λx y h=>kB jx (D.tup.inj h)
theorem fY{p:Str}{e:Str×List Row}(h:enO p=some e):p=k7 e/\aM e.1/\fG e.2/\enD p=a7 e:=by
 unfold enO at h;unfold enD
 split at h
 ·rename_i a b x
  split at h
  ·rename_i o;cases h;have j:=o.2;generalize i:J1 b (tx [32,124,32])=g at j ⊢;have m:=P2 b (tx [32,124,32]);rw[i]at m;simp only[jG,F1,decide_eq_true_eq,E4,U1]at j;obtain⟨⟨⟨q,z⟩,s⟩,l⟩:=j;have f:∀t∈g,cZ (bv t)=true:=λt c=>L4.mp s t c;have n:g.map bv=(g.map λt=>eB t.cps.toList).map cX:=by
    rw[O9];exact W1 λt c=>(kH (f t c)).1
   have u:g=(g.map λt=>eB t.cps.toList).map iB:=by
    rw[O9]
    conv=>lhs;rw[<-List.map_id g]
    exact W1 λt c=>(kH (f t c)).2.1
   refine⟨?_,cb o.1,⟨by rw[E4];exact q,by rw[E4];exact z,?_,λr w=>?_⟩,?_⟩
   ·rw[jE x];unfold k7 oa;rw[<-u,m]
   ·rw[n,dh jO]at l;exact eX.mp l
   ·obtain⟨t,c,rfl⟩:=J3.mp w;exact(kH (f t c)).2.2
   ·simp only[a7,ik];rw[n]
  ·cases h
 ·cases h
theorem vP{p:Str}(l:p.length<=100000):aq (enD p)=true:=by
 unfold enD
 split
 ·rename_i a b e;have n:a.length<=p.length:=bf (by rw[e];simp);have m:b.length<=p.length:=bf (by rw[e];simp);simp only[aq,aL,F1,decide_eq_true_eq,and_true];refine⟨by lia,aK.mpr λd g=>?_⟩;obtain⟨t,h,rfl⟩:=J3.mp g;have j:t.length<=b.length:=bf h;rw[dj]
  split
  ·rename_i c;have f:=dj (x:=t);rw[if_pos c]at f;exact pV λx i=>bN ((kN f).2 x i).1
  ·rfl
 ·rfl
theorem vz{p:Str}(e:p.length<=100000):aq (.tup ((J1 p (tx [32,60,32])).map .str))=true:=by
 show aL _=true;refine aK.mpr λd a=>?_;obtain⟨t,b,rfl⟩:=J3.mp a;have c:t.length<=p.length:=bf b;simp only[aq,decide_eq_true_eq];lia
def yD:Option Str->D
 |some g=>.str g
 |none=>.non
def gy:SpD:=λa M R=>∃p:Str,a=[.str p]/\p.length<=100000/\R (yD (goO p)) M
theorem mI{p:Str}{M:DH}{R:D->DH->Prop}:gy [.str p] M R↔p.length<=100000/\R (yD (goO p)) M :=
 ⟨λ⟨a,e,h⟩=>by simp only[N0,D.str.injEq,and_true]at e;rw[e];exact h,λh=>⟨p,rfl,h⟩⟩
theorem oJ(F:Fun K "goal_in" "goal_in" gL f O)(T:Txt J)(q:FnD P w K J base "is_mark" 2 1 cS):aO P w K J base CX0 3 f O ["part"] (spD K 1 gy):=by
 have o:=iP.nd;refine F.okR rfl iP (λt A l s H E j=>⟨_,(aj (aU (i:=1) o rfl (O8 rfl) (cM (af 0) am))
   (aj (bp (ma (fC (aD (cU j.units) (aC bE rfl T.b_len (by kernel_rfl) (aa (af 1) ag)) ai nbh) (fC (aD (cU j.units) (bj bh (af 1) ai (λ_ _=>rfl)) am nbh) (ji (cJ (qd q j (aa (bj bh (af 1) ai (λ_ _=>rfl)) ag))))))) (ao (aB (bj bh (af 1) ai (λ_ _=>rfl)))) aR)
   (ao (aB cp)))),λx M R _ m bk=>?_⟩)
 obtain⟨p,rfl,u,k⟩:=m;refine bk ?_;clear bk;unfold goO at k;walk_at"";rw[yX,zq];refine⟨by decide +kernel,szB _ (by lia),?_⟩
 match e:J1 p (tx [32])with
 |[]=>rw[e]at k;rw[if_neg (by simp)];exact k
 |[a]=>rw[e]at k;rw[if_neg (by simp)];exact k
 |a::b::c::r =>
  rw[e]at k;rw[if_neg (by simp;lia)];exact k
 |[a,b] =>
  have B:b.length<=p.length:=bf (by rw[e];simp);rw[e]at k;dsimp only at k;rw[if_pos (by rfl)];refine⟨.str a,rfl,.bl (decide (a=tx [103,111,97,108])),?_,_,rfl,?_⟩
  ·rw[iN,lL];congr 2
  ·refine aV (λh=>⟨.str b,rfl,cP.mpr ⟨?_,_,rfl,?_⟩⟩) (λh=>?_)
   ·simp only[aq,decide_eq_true_eq];lia
   ·have n:a=tx [103,111,97,108]:=by simpa using h
    refine aV (λg=>⟨.str b,rfl,?_⟩) (λg=>?_)
    ·rw[if_pos ⟨n,g⟩]at k;exact k
    ·rw[if_neg λz=>g z.2]at k;exact k
   ·rw[if_neg λz=>h (by simpa using z.1)]at k;exact k
def gO:SpD:=λa M R=>∃x:Str,a=[.str x]/\x.length<=100000/\R (.tup ((J1 x (tx [32,60,32])).map .str)) M
theorem mG{p:Str}{M:DH}{R:D->DH->Prop}:gO [.str p] M R↔p.length<=100000/\R (.tup ((J1 p (tx [32,60,32])).map .str)) M :=
 ⟨λ⟨a,e,h⟩=>by simp only[N0,D.str.injEq,and_true]at e;rw[e];exact h,λh=>⟨p,rfl,h⟩⟩
theorem oF(F:Fun K "pair_in" "pair_in" gJ f O)(T:Txt J):aO P w K J base CX0 1 f O ["part"] (spD K 1 gO):=by
 have h:=jj.nd;refine F.okR rfl jj (λc A a s H E e=>⟨_,(ao (aB (dD fq rfl T.b_tuple (by kernel_rfl) (aa (cM (af 0) (bT rfl T.g_BETWEEN_PAIR)) ag)))),λg M R _ b bk=>?_⟩);obtain⟨x,rfl,i,k⟩:=b;refine bk ?_;clear bk;walk_at"";rw[BP];exact⟨by decide +kernel,szB _ (by lia),k⟩
def fk:SpD:=λa M R=>∃p:Str,a=[.str p]/\p.length<=100000/\R (enD p) M
theorem lH{p:Str}{M:DH}{R:D->DH->Prop}:fk [.str p] M R↔p.length<=100000/\R (enD p) M :=
 ⟨λ⟨a,e,h⟩=>by simp only[N0,D.str.injEq,and_true]at e;rw[e];exact h,λh=>⟨p,rfl,h⟩⟩
theorem mQ(F:Fun K "entry_in" "entry_in" c8 f O)(T:Txt J)(g:FnD P w K J base "row_in" 5 1 iH):aO P w K J base CX0 6 f O ["part"] (spD K 1 fk):=by
 have u:=g8.nd;refine F.okR rfl g8 (λz A h s H E m=>⟨_,(aj (aU (i:=1) u rfl (O8 rfl) (cM (af 0) (bT rfl T.g_BEHIND_WORD)))
   (aj (bp (aD (An m.units) (aC bE rfl T.b_len (by kernel_rfl) (aa (af 1) ag)) ai nbh) (ao (aB cp)) aR)
   (ao (aB (bF (aa (bj bh (af 1) ai (λ_ _=>rfl)) (aa (dD fq rfl T.b_tuple (by kernel_rfl) (aa (gj (ms:=[false,false]) (ar:=["text"]) (aG (n0:=0) rfl (show aY (ah c8) e7 _ _=true from by decide +kernel)) rfl (bG (cM (bj bh (af 1) ai (λ_ _=>rfl)) (bT rfl T.g_BETWEEN_KINDS))) (aS (i:=2) (show(e7++_).Nodup from by decide +kernel) rfl rfl) (λ_ _ _ _=>bH) (λ_ _ _ _=>(qd g m (aa (af 2) ag)))) ag)) ag))))))),λI M R _ n bk=>?_⟩)
 obtain⟨p,rfl,C,k⟩:=n;refine bk ?_;clear bk;unfold enD at k;walk_at"";rw[wB,vM];refine⟨by decide +kernel,szB _ (by lia),?_⟩
 match e:J1 p (tx [58,32])with
 |[]=>rw[e]at k;rw[if_pos (by simp)];exact k
 |[a]=>rw[e]at k;rw[if_pos (by simp)];exact k
 |a::b::c::r =>
  rw[e]at k;rw[if_pos (by simp;lia)];exact k
 |[a,b] =>
  have L:b.length<=p.length:=bf (by rw[e];simp);rw[e]at k;dsimp only at k;rw[if_neg (by simp)];refine⟨.str a,rfl,.str b,rfl,_,rfl,by decide +kernel,szB _ (by lia),?_⟩;refine λB=>⟨B,bV (λt=>D.str t) (λ_=>true) bv (λl=>∃x,l=[none,none,x]) (J1 b (tx [32,124,32])) _ _ (λt o l j=>?_) ⟨none,rfl⟩ ?_⟩
  ·obtain⟨x,rfl⟩:=j;have Q:t.length<=b.length:=bf o;refine⟨_,rfl,⟨_,rfl⟩,λN q=>q,λ_ G q=>?_⟩;walk_at"";exact o7.mpr ⟨by lia,q⟩
  ·rw[M9,N9.mpr (λ_ _=>rfl)];exact⟨sz3 2,k⟩
abbrev St:=List (Str×Str)×List (Str×List Row)
def st1(s:St)(p:Str):Option St:=match prO p with
 |some x=>if s.2=[]/\s.1.length<8 then some (s.1++[x],s.2)else none
 |none=>none
def st2(s:St)(p:Str):Option St:=match enO p with
 |some e=>if s.2.length<=9/\e.1∉s.2.map (·.1)then some (s.1,s.2++[e])else none
 |none=>none
def stp(s:St)(p:Str):Option St:=match st1 s p with
 |some r=>some r
 |none=>st2 s p
def dZ:St->Nat->List Str->Nat ⊕ St
 |s,_,[]=>.inr s
 |s,n,p::a=>match stp s p with
  |some r=>dZ r (n+1) a
  |none=>.inl n
def rdL(x:Str):Option Nat ⊕ (List (Str×Str)×Str×List (Str×List Row)):=match J1 x (tx [59,32])with
 |[]=>.inl none
 |p::a=>match goO p with
  |none=>.inl (some 0)
  |some g=>match dZ ([],[]) 1 a with
   |.inl n=>.inl (some n)
   |.inr s=>if s.2=[]then .inl none else .inr (s.1,g,s.2)
def qF(s:St):Prop:=sS s.1/\s.2.length<=10/\(s.2.map (·.1)).Nodup/\∀e∈s.2,(aM e.1/\fG e.2)/\iJ (a7 e)=true
theorem k8{s r:St}{p:Str}(h:st1 s p=some r):∃x,prO p=some x/\s.2=[]/\s.1.length<8/\r=(s.1++[x],s.2):=by
 unfold st1 at h
 split at h
 ·rename_i x e
  split at h
  ·rename_i a;cases h;exact⟨x,e,a.1,a.2,rfl⟩
  ·cases h
 ·cases h
theorem iO{s r:St}{p:Str}(h:st2 s p=some r):∃x,enO p=some x/\s.2.length<=9/\x.1∉s.2.map (·.1)/\r=(s.1,s.2++[x]):=by
 unfold st2 at h
 split at h
 ·rename_i x e
  split at h
  ·rename_i a;cases h;exact⟨x,e,a.1,a.2,rfl⟩
  ·cases h
 ·cases h
theorem qV{s r:St}{p:Str}(h:stp s p=some r):st1 s p=some r∨(st1 s p=none/\st2 s p=some r):=by
 unfold stp at h
 split at h
 ·rename_i e;exact .inl (e.trans h)
 ·rename_i e;exact .inr ⟨e,h⟩
theorem jr{s r:St}{p:Str}(hs:qF s)(h:stp s p=some r):qF r:=by
 obtain⟨⟨t,g⟩,j,f,i⟩:=hs;rcases qV h with h|⟨_,h⟩
 ·obtain⟨x,a,e,l,rfl⟩:=k8 h;obtain⟨_,c,b,_⟩:=lX a;exact⟨⟨by simp;lia,gE g ⟨c,b⟩⟩,j,f,i⟩
 ·obtain⟨x,a,l,n,rfl⟩:=iO h;obtain⟨_,c,b,q⟩:=fY a;refine⟨⟨t,g⟩,by simp;lia,?_,gE i ⟨⟨c,b⟩,by rw[<-q,ub,a];rfl⟩⟩;rw[N4,X4];refine⟨f,by simp,λu m v o=>?_⟩;obtain rfl:v=x.1:=by simpa using o
  rintro rfl;exact n m
theorem yb(x:Str×Int)(n:Nat):dLe (bX x) (n+2)=true:=by simp[bX,dLe,bI]
theorem AK(r:Row)(n:Nat):dLe (cX r) (n+3)=true:=by
 show bI (r.map bX) (n+2)=true;rw[bM];intro d a;obtain⟨x,_,rfl⟩:=J3.mp a;exact yb x n
theorem nV(e:Str×List Row)(n:Nat):dLe (a7 e) (n+5)=true:=by
 have h:dLe (ik e.2) (n+4)=true:=by
  show bI (e.2.map cX) (n+3)=true;rw[bM];intro d a;obtain⟨r,_,rfl⟩:=J3.mp a;exact AK r n
 show bI [.str e.1,ik e.2] (n+4)=true;simp[bI,dLe,h]
theorem uq{b:List (Str×List Row)}:eqF (.tup (b.map a7)) (.tup [])=some (.bl (decide (b=[]))):=by
 have g:dLe (.tup (b.map a7)) 60=true:=by
  show bI (b.map a7) 59=true;rw[bM];intro d f;obtain⟨e,_,rfl⟩:=J3.mp f;exact nV e 54
 have c:dLe (.tup []) 60=true:=rfl;simp only[eqF,g,c,and_self,if_true,eqD];cases b with
 |nil=>rfl
 |cons a r=>simp[dH]
theorem qY{ord:List (Str×Str)}(h:∀x∈ord,aM x.1/\aM x.2):aL (ord.map bA)=true:=by
 rw[aK];intro d b;obtain⟨x,a,rfl⟩:=J3.mp b;show aL [.str x.1,.str x.2]=true;simp[aL,ju (h x a).1,ju (h x a).2]
theorem wV{s:St}{p:Str}(hs:qF s):(decide (s.2=[])&&qB (.tup (s.1.map bA++[.tup ((J1 p (tx [32,60,32])).map .str)])))=(st1 s p).isSome:=by
 have a:(s.1.map bA).all gm=true:=by
  rw[L4];intro d f;obtain⟨x,c,rfl⟩:=J3.mp f;simp only[gm,bA,F1];exact⟨du (hs.1.2 x c).1,du (hs.1.2 x c).2⟩
 simp only[qB,List.all_append,a,U3,List.all_nil,O1,V5,wk,E8,E4,F4,N1];unfold st1;cases e:prO p with
 |none=>simp
 |some x =>
  simp only[Option.isSome_some,V5]
  by_cases b:s.2=[]/\s.1.length<8
  ·rw[if_pos b,decide_eq_true b.1,decide_eq_true (by lia)];rfl
  ·rw[if_neg b,ah3,<-Bool.decide_and,decide_eq_false (λz=>b ⟨z.1,by lia⟩)]
theorem uG{s:St}{p:Str}(hs:qF s):tS (.tup (s.2.map a7++[enD p]))=(st2 s p).isSome:=by
 have a:(s.2.map a7).all iJ=true:=by
  rw[L4];intro d i;obtain⟨x,l,rfl⟩:=J3.mp i;exact(hs.2.2.2 x l).2
 simp only[tS,List.all_append,a,U3,List.all_nil,O1,V5,ub,E8,E4,F4,N1];unfold st2;cases e:enO p with
 |none=>simp
 |some x =>
  rw[(fY e).2.2.2];have g:List.map yU (List.map a7 s.2++[a7 x])=((s.2++[x]).map (·.1)).map D.str:=by
   rw[N4,N4,N4,O9,O9];rfl
  rw[g,dh tU];have f:fR ((s.2++[x]).map (·.1))=decide (x.1∉s.2.map (·.1)):=by
   rw[R6,eX,decide_eq_true_eq,N4,X4];refine⟨λh z=>h.2.2 _ z _ (by simp) rfl,λh=>⟨hs.2.2.1,by simp,λu j v c=>?_⟩⟩;obtain rfl:v=x.1:=by simpa using c
   rintro rfl;exact h j
  rw[f,Option.isSome_some,V5];dsimp only
  by_cases b:s.2.length<=9/\x.1∉s.2.map (·.1)
  ·rw[if_pos b,decide_eq_true b.2,decide_eq_true (by lia),decide_eq_true (by lia)];rfl
  ·rw[if_neg b,ah3,decide_eq_true (by lia:1<=s.2.length+(0+1)),O1,<-Bool.decide_and,decide_eq_false (λz=>b ⟨by lia,z.2⟩)]
def oN:Option Nat->D
 |none=>.non
 |some n=>.int (n:Int)
def rdD:D->Option Nat ⊕ (List (Str×Str)×Str×List (Str×List Row))
 |.str x=>rdL x
 |_=>.inl none
def eI:SpD:=λc M R=>∃d:D,c=[d]/\aq d=true/\(∀x,d=.str x->x.length<=100000)/\(∀o,rdD d=.inl o->∀a,M a=none->R (xA 0 (some a)) (ay M a (qL "part" a (oN o))))/\∀o g b,rdD d=.inr (o,g,b)->R (rj o g b) M
theorem ja(F:Fun K "read_lexicon" "read_lexicon" cF f O)(T:Txt J){C0 W a3:E9}(Y:AQ K J C0 W a3){a1:J7}(a0:aO P w K J base CX0 1 a3 a1 ["self","part"] (spF "part" C0))(z:cY K a1 ["self","part"] [])(o:∃oI,K.lookup a3=some oI/\oI.cls=M7 "function")(b3:FnD P w K J base "goal_in" 3 1 gy)(b4:FnD P w K J base "is_order" 4 1 fc)(Y1:FnD P w K J base "are_entries" 8 1 cW)(b2:FnD P w K J base "pair_in" 1 1 gO)(Y7:FnD P w K J base "entry_in" 6 1 fk):aO P w K J base (CX2 P w [C0]) 9 f O ["text"] (spY K 1 eI [C0]):=by
 have N:=dP.nd;refine F.okY rfl dP (λc1 A b5 s H E l=>⟨_,(cO (xy (kS (cJ (hV (Tn:="str") (by decide) rfl T.b_isinstance rfl T.b_str (by kernel_rfl) (af 0)))) (fv (yC 0 rfl Y.p0 a0 z o (l.mono (by decide)) rfl rfl cp λae σ H s a x I q U Z h3=>oP (i:=0) I rfl q U Z h3)) rQ)
   (cO (oK (aU (i:=1) N rfl (O8 rfl) (cM (af 0) (bT rfl T.g_BETWEEN_PARTS))))
   (cO (oK (aU (i:=2) N rfl (O8 rfl) (qd b3 l (aa (bj bh (af 1) ai (λ_ _=>rfl)) ag))))
   (cO (xy (aD DY (af 2) cp nbh) (fv (yC 0 rfl Y.p0 a0 z o (l.mono (by decide)) rfl rfl ai λae σ H s a x I q U Z h3=>oP (i:=0) I rfl q U Z h3)) rQ)
   (cO (oK (aU (i:=3) N rfl (O8 rfl) (bF ag)))
   (cO (oK (aU (i:=4) N rfl (O8 rfl) (bF ag)))
   (cO (DA ai6.leaving rfl (xk rfl T.b_enumerate (aa (bb (af 1) (bw ai) bO) ag)) (jY rfl (bB (a6 (i:=5) N rfl (O8 rfl)) (bB (a6 (i:=6) N rfl (O8 rfl)) jT))) (cO (oK (aU (i:=7) N rfl (O8 rfl) (aJ aI (af 3) (bF (aa (qd b2 l (aa (af 6) ag)) ag)))))
   (cO (oK (aU (i:=8) N rfl (O8 rfl) (aJ aI (af 4) (bF (aa (qd Y7 l (aa (af 6) ag)) ag)))))
   (fv (xy (ma (fC (aD (cU l.units) (af 4) (bF ag) nbh) (ji (cJ (qd b4 l (aa (af 7) ag)))))) (fv (oK (aU (i:=3) N rfl (O8 rfl) (af 7)))) (fv (xy (cJ (qd Y1 l (aa (af 8) ag))) (fv (oK (aU (i:=4) N rfl (O8 rfl) (af 8)))) (fv (yC 0 rfl Y.p0 a0 z o (l.mono (by decide)) rfl rfl (af 5) λae σ H s a x I q U Z h3=>oP (i:=0) I rfl q U Z h3)))))))))
   (cO (xy (aD (cU l.units) (af 4) (bF ag) nbh) (fv (yC 0 rfl Y.p0 a0 z o (l.mono (by decide)) rfl rfl cp λae σ H s a x I q U Z h3=>oP (i:=0) I rfl q U Z h3)) rQ)
   (fv (oK (aB (bF (aa (af 3) (aa (af 2) (aa (af 4) ag))))))))))))))),λds M R hl hS=>?_⟩)
 obtain⟨d,rfl,hd,hl,G,b9⟩:=hS;walk_at"";simp only[cA hd];cases d with
 |str x =>
  have hx:x.length<=100000:=hl x rfl;refine⟨true,rfl,?_⟩;rw[if_neg (by decide),se];refine⟨x,rfl,by decide +kernel,szB _ (by lia),?_⟩;obtain⟨B,t,a2⟩:∃B t,J1 x (tx [59,32])=B::t:=by
   cases e:J1 x (tx [59,32])with
   |nil=>exact absurd e (fX x _ (by decide +kernel))
   |cons a b=>exact⟨a,b,rfl⟩
  have a5:∀p∈B::t,p.length<=100000:=λp hp=>by
   have:=bf (show p∈J1 x (tx [59,32])by rw[a2];exact hp)
   lia
  have l:rdD (.str x)=match goO B with
   |none=>.inl (some 0)
   |some g=>match dZ ([],[]) 1 t with
    |.inl n=>.inl (some n)
    |.inr s=>if s.2=[]then .inl none else .inr (s.1,g,s.2):=by
   show rdL x=_;unfold rdL;rw[a2]
  rw[a2];refine⟨.str B,(show atI ((B::t).map D.str) ((0:Nat):Int)=some (D.str B)from cQ rfl),mI.mpr ⟨a5 B (by simp),?_⟩⟩;cases eg:goO B with
  |none =>
   rw[eg]at l;rw[if_pos (by rfl)];exact λS m=>⟨_,λ_ _ e=>e,G (some 0) l S m⟩
  |some g =>
   rw[eg]at l;dsimp only at l;rw[if_neg (by simp[lO,rdM,yD])];simp only[td];walk_at"";have ec:L2.dI (D.str B::t.map D.str) (some 1) none=t.map D.str:=by
    rw[show(1:Int)=((1:Nat):Int)from rfl,wR];rfl
   rw[ec];refine⟨O2 _,O2 _,λhz=>?_⟩;refine eL (λi Δ M'=>∃(s:St) (x5 x6 x7 x8:Option D),Δ=[some (D.str x),some (D.lst (D.str B::t.map D.str)),some (yD (some g)),some (D.tup (s.1.map bA)),some (D.tup (s.2.map a7)),x5,x6,x7,x8]/\M'=M/\qF s/\dZ ([],[]) 1 t=dZ s (1+i) (t.drop i))
    ⟨([],[]),none,none,none,none,rfl,rfl,⟨⟨by simp,λ_ h=>nomatch h⟩,by simp,by simp,λ_ h=>nomatch h⟩,rfl⟩ ?_ ?_
   ·intro i d Δ M' X b0 hI k';refine shr λ_ bk=>?_;obtain⟨s,x5,x6,x7,x8,rfl,rfl,L,c⟩:=hI;refine bk ?_;clear bk;rw[kP]at b0;obtain⟨d0,a9,rfl⟩:=Option.map_eq_some_iff.mp b0;rw[K8]at a9;obtain⟨pt,a4,rfl⟩:=Option.map_eq_some_iff.mp a9;have u:pt.length<=100000:=a5 pt (I0 _ (O4 a4));have b8:t.drop i=pt::t.drop (i+1):=by
     obtain⟨U,Z⟩:=J8.mp a4;rw[S0 U,Z]
    rw[b8]at c;have h8:=L.1.1;have c0:=L.2.1;simp only[ib,eA,cH,j0,ad0];refine⟨_,rfl,?_⟩;walk_at"";refine mG.mpr ⟨u,sz3 1,_,if_pos (sz3 _ (by rw[E4];lia)),lH.mpr ⟨u,sz3 1,_,if_pos (sz3 _ (by rw[E4];lia)),O2 _,_,uq,_,rfl,?_⟩⟩;have a':aq (D.tup (s.1.map bA++[D.tup ((J1 pt (tx [32,60,32])).map D.str)]))=true:=by
     show aL _=true;rw[lA,qY L.1.2,O1];simp only[aL,vz u,V5]
    have b':aq (D.tup (s.2.map a7++[enD pt]))=true:=by
     show aL _=true;rw[lA];simp only[aL,vP u,V5];refine aK.mpr λd hd=>?_;obtain⟨e,he,rfl⟩:=J3.mp hd;exact xO (L.2.2.2 e he).1.1 (L.2.2.2 e he).1.2
    have ho:=wV L (p:=pt);cases e1:st1 s pt with
    |some r =>
     have j:stp s pt=some r:=by unfold stp;rw[e1]
     have C:=jr L j;obtain⟨y,hy,he,hl,rfl⟩:=k8 e1;rw[e1,decide_eq_true he,O1,Option.isSome_some]at ho;rw[if_pos (decide_eq_true he)];refine gI.mpr ⟨a',_,rfl,?_⟩;rw[ho,if_pos rfl];have ep:s.1.map bA++[D.tup ((J1 pt (tx [32,60,32])).map D.str)]=(s.1++[y]).map bA:=by rw[(lX hy).2.2.2,N4];rfl
     refine k' _ _ ?_;rw[ep];refine⟨(s.1++[y],s.2),_,_,_,_,rfl,rfl,C,?_⟩;rw[c];simp only[dZ,j];rw[aa3]
    |none =>
     rw[e1,ah3]at ho;have a8:∀Q:D->DH->Prop,Q (.bl (st2 s pt).isSome) M'->cW [.tup (s.2.map a7++[enD pt])] M' Q:=λQ q=>bU.mpr ⟨b',by rw[uG L];exact q⟩;have j:stp s pt=st2 s pt:=by unfold stp;rw[e1]
     refine aV (λh=>gI.mpr ⟨a',_,rfl,?_⟩) (λh=>?_)
     ·rw[h,O1]at ho;rw[ho,if_neg (by decide)];refine a8 _ ⟨_,rfl,?_⟩;cases e2:st2 s pt with
      |some r =>
       rw[e2]at j;have C:=jr L j;obtain⟨y,hy,hl,b1,rfl⟩:=iO e2;have ep:s.2.map a7++[enD pt]=(s.2++[y]).map a7:=by rw[(fY hy).2.2.2,N4];rfl
       rw[if_pos (by rfl)];refine k' _ _ ?_;rw[ep];refine⟨(s.1,s.2++[y]),_,_,_,_,rfl,rfl,C,?_⟩;rw[c];simp only[dZ,j];rw[aa3]
      |none =>
       rw[e2]at j;rw[if_neg (by decide)];refine λS m=>⟨_,λ_ _ e=>e,G (some (1+i)) ?_ S m⟩;rw[l,c];simp only[dZ,j]
     ·refine a8 _ ⟨_,rfl,?_⟩;cases e2:st2 s pt with
      |some r =>
       rw[e2]at j;have C:=jr L j;obtain⟨y,hy,hl,b1,rfl⟩:=iO e2;have ep:s.2.map a7++[enD pt]=(s.2++[y]).map a7:=by rw[(fY hy).2.2.2,N4];rfl
       rw[if_pos (by rfl)];refine k' _ _ ?_;rw[ep];refine⟨(s.1,s.2++[y]),_,_,_,_,rfl,rfl,C,?_⟩;rw[c];simp only[dZ,j];rw[aa3]
      |none =>
       rw[e2]at j;rw[if_neg (by decide)];refine λS m=>⟨_,λ_ _ e=>e,G (some (1+i)) ?_ S m⟩;rw[l,c];simp only[dZ,j]
   ·intro Δ M' hI;refine shr λ_ bk=>?_;obtain⟨s,x5,x6,x7,x8,rfl,rfl,L,c⟩:=hI;refine bk ?_;clear bk;have hn:(my 1 (t.map D.str)).length=t.length:=by rw[k6,E4]
    rw[hn,List.drop_length]at c;rw[c]at l;simp only[dZ]at l;walk_at"";refine⟨O2 _,_,uq,_,rfl,aV (λh S m=>⟨_,λ_ _ e=>e,G none ?_ S m⟩) (λh=>?_)⟩
    ·rw[l,if_pos (by simpa using h)]
    ·rw[if_neg (by simpa using h)]at l;exact⟨sz3 3,b9 _ _ _ l⟩
 |scr _=>simp[aq]at hd
 |ref _=>simp[aq]at hd
 |box _ _=>simp[aq]at hd
 |_ =>
  refine⟨false,rfl,?_⟩;rw[if_pos (by decide)];exact λS m=>⟨_,λ_ _ e=>e,G none rfl S m⟩
def bc(c:Nat):Bool:=!(decide (97<=c)&&decide (c<=122))&&decide (c≠46)&&decide (c≠32)
theorem nA{a:List Nat}(h:av (tx a)=true):a≠[]/\∀c∈a,97<=c/\c<=122:=by
 unfold av at h;rw[F1,F1,aA,decide_eq_true_eq,ax,L4]at h;refine⟨by rintro rfl;simp at h,λc b=>?_⟩;have:=h.2 c b;rw[decide_eq_true_eq]at this;unfold fQ at this;rw[List.mem_range'_1]at this
 lia
theorem zv{p:List Nat}{c:Nat}(h:c∈p)(i:bc c=true):sgW p=none:=by
 simp only[bc,F1,Bool.not_eq_true',Bool.and_eq_false_iff,decide_eq_false_iff_not,decide_eq_true_eq]at i;obtain⟨⟨l,j⟩,_⟩:=i;obtain⟨q,g,f⟩:=kA j h;unfold sgW;cases e:pcs 46 p with
 |nil=>rfl
 |cons a r =>
  rw[e]at g;cases r with
  |nil =>
   rw[F5.mp g]at f;show(if av (tx a)=true then _ else _)=_;refine if_neg λz=>?_;have:=(nA z).2 c f
   lia
  |cons b r =>
   cases r with
   |nil =>
    show(if av (tx a)=true/\1<=b.length/\b.length<=99 then _ else _)=_
    by_cases z:av (tx a)=true/\1<=b.length/\b.length<=99
    ·rw[if_pos z];rcases F8.mp g with y|y
     ·subst y;have:=(nA z.1).2 c f
      lia
     ·rw[F5.mp y]at f;rw[if_neg (λw=>by rw[w]at f;have:=List.eq_of_mem_replicate f;lia),if_neg (λw=>by rw[w]at f;have:=List.eq_of_mem_replicate f;lia)]
    ·rw[if_neg z]
   |cons _ _=>rfl
theorem uz{l p:List Nat}(b:l≠[49])(a:p∈pcs 32 l)(hs:sgW p=none):ke l=false:=by
 unfold ke;rw[decide_eq_false b,an2];cases e:(pcs 32 l).all λp=>(sgW p).isSome with
 |false=>rfl
 |true =>
  have:=L4.mp e p a;rw[hs]at this;cases this
theorem ye{l:List Nat}{c:Nat}(h:c∈l)(a:c≠49):l≠[49]:=by
 rintro rfl;exact a (F5.mp h)
theorem w6{l:List Nat}{c:Nat}(h:c∈l)(a:bc c=true)(g:l≠[49]):ke l=false:=by
 have b:c≠32:=by
  simp only[bc,F1,decide_eq_true_eq]at a;exact a.2
 obtain⟨p,e,f⟩:=kA b h;exact uz g e (zv f a)
theorem wm{m:Str}:(m.cps.toList.map λc=>decide (c∈fQ)).all id=m.cps.toList.all λc=>decide (c∈fQ):=by rw[U1];rfl
def eG:SpD:=λa M R=>∃x:Str,a=[.str x]/\x.length<=200000/\R (.bl (av x)) M
theorem bQ{x:Str}{M:DH}{R:D->DH->Prop}:eG [.str x] M R↔x.length<=200000/\R (.bl (av x)) M :=
 ⟨λ⟨a,e,h⟩=>by simp only[N0,D.str.injEq,and_true]at e;rw[e];exact h,λh=>⟨x,rfl,h⟩⟩
theorem rg(F:Fun K "_law_small" "_law_small" gV f O)(T:Txt J):aO P w K J base CX0 1 f O ["_law_word"] (spD K 1 eG):=by
 have G:=kZ.nd;refine F.okR rfl kZ (λo A a s H E B=>⟨_,(ao (aB (bS (jg kh kh ai (aC bE rfl T.b_len (by kernel_rfl) (aa (af 0) ag)) ai) (df (aC (ly rfl) rfl T.b_all (by kernel_rfl) (aa (gj (ms:=[false]) (ar:=["_law_sign_here"]) (aG (n0:=0) rfl (show aY (ah gV) jH _ _=true from by decide +kernel)) rfl (bG (af 0)) (aS (i:=1) (show(jH++_).Nodup from by decide +kernel) rfl rfl) (λ_ _ _ _=>bH) (λ_ _ _ _=>(jc vJ (af 1) am rfl))) ag)))))),λC M R _ g bk=>?_⟩);obtain⟨x,rfl,N,k⟩:=g;refine bk ?_;clear bk;walk_at"";refine⟨_,if_pos (szB _ (by lia)),?_⟩;walk_at"";have no:av x=false->R (.bl false) M:=λh=>by rw[h]at k;exact k
 refine aV (λj=>aV (λl=>?_) (λl=>no ?_)) (λj=>no ?_)
 ·refine⟨_,if_pos (szB _ (by lia)),λp=>⟨p,?_⟩⟩;refine bR (λ_=>true) (λd=>match d with|.str y=>.bl (y.cps.toList.all λc=>decide (c∈fQ))|_=>.non) (λe=>∃t,e=[none,t]) _ _ _ (λd n e b=>?_) ⟨none,rfl⟩ ?_
  ·obtain⟨L,rfl⟩:=b;obtain⟨c,_,rfl⟩:=J3.mp (show d∈x.cps.toList.map λc=>D.str (tx [c])from n);refine⟨_,rfl,⟨_,rfl⟩,λI q=>q,λ_ z q=>?_⟩;walk_at"";simp only[wZ,ab9,exists_eq_left',Bool.false_xor];rw[show(J5 "abcdefghijklmnopqrstuvwxyz").cps.toList=fQ from tv];simpa[ax]using q
  rw[M9,N9.mpr (λ_ _=>rfl)];have u:(L2.eK x).map (λd=>match d with|.str y=>D.bl (y.cps.toList.all λc=>decide (c∈fQ))|_=>.non)=(x.cps.toList.map λc=>decide (c∈fQ)).map D.bl:=by
   unfold L2.eK;rw[O9,O9];apply W1;intro c _;simp
  rw[u];refine⟨_,eJ,?_⟩;have m:(x.cps.toList.map λc=>decide (c∈fQ)).all id=av x:=by
   unfold av;rw[wm,decide_eq_true (by lia:1<=x.length),decide_eq_true (by lia:x.length<=8)];rfl
  rw[m];exact k
 ·unfold av;rw[decide_eq_false (by lia:¬ x.length<=8),aa9,L9]
 ·unfold av;rw[decide_eq_false (by lia:¬ 1<=x.length),L9,L9]
def jX:SpD:=λa M R=>∃x:Str,a=[.str x]/\x.length<=200000/\R (oSg (sgW x.cps.toList)) M
theorem oM(F:Fun K "_law_sign_in" "_law_sign_in" gD f O)(T:Txt J)(G4:FnD P w K J base "_law_small" 1 1 eG):aO P w K J base CX0 2 f O ["_law_word"] (spD K 1 jX):=by
 have G:=iR.nd;refine F.okR rfl iR (λa3 A a1 s H E I=>⟨_,(aj (bp (cJ (qd G4 I (aa (af 0) ag))) (ao (aB (bF (aa (af 0) (aa ai ag))))) aR)
   (aj (nt (gn (af 0) am) (jY rfl (bB (a6 (i:=1) G rfl (O8 rfl)) (bB (a6 (i:=2) G rfl (O8 rfl)) (bB (a6 (i:=3) G rfl (O8 rfl)) jT)))))
   (aj (bp (ma (ic (kS (cJ (qd G4 I (aa (af 1) ag)))) (ic (aD (cU I.units) (af 3) am nbh) (jz (aD pC (aC bE rfl T.b_len (by kernel_rfl) (aa (af 3) ag)) ai nbh))))) (ao (aB cp)) aR)
   (aj (qI ah4 rfl (bG (cn (aa (bF (aa ai (aa am ag))) (aa (bF (aa (yI yj ai) (aa am ag))) ag)))) (jY rfl (bB (a6 (i:=4) G rfl (O8 rfl)) (bB (a6 (i:=5) G rfl (O8 rfl)) jT))) (ao (bp (aD (cU I.units) (n6 (af 3) (af 5)) (aC bE rfl T.b_len (by kernel_rfl) (aa (af 3) ag)) nbh) (ao (aB (bF (aa (af 1) (aa (aJ eE (af 4) (aC bE rfl T.b_len (by kernel_rfl) (aa (af 3) ag))) ag))))) aR)))
   (ao (aB cp)))))),λds M R _ hS bk=>?_⟩)
 obtain⟨x,rfl,hx,k⟩:=hS;refine bk ?_;clear bk;walk_at"";simp only[tH,s_r,s_l];refine bQ.mpr ⟨hx,_,rfl,?_⟩;have g:=de (x:=x) (c:=46);have a0:∀p∈pcs 46 x.cps.toList,p.length<=x.length:=λp hp=>by
  have:=bf (x:=x) (y:=tx [46]) (p:=tx p) (by rw[de];exact J3.mpr ⟨p,hp,rfl⟩)
  rwa [aA]at this
 unfold sgW at k;rcases dQ x (tx [46]) (by decide +kernel)with⟨u,Y⟩|⟨wd,r,rs,u,Y⟩
 ·have e:pcs 46 x.cps.toList=[x.cps.toList]:=by
   rw[u]at g
   match m:pcs 46 x.cps.toList with
   |[]=>exact absurd m (o6 _ _)
   |[a]=>rw[ui m]
   |_::_::_=>rw[m]at g;simp at g
  rw[e]at k;dsimp only at k;rw[<-jS x]at k;refine aV (λh=>⟨sz3 2,?_⟩) (λh=>⟨by decide +kernel,szB _ (by lia),?_⟩)
  ·rw[if_pos h]at k;exact k
  ·rw[if_neg h]at k;rw[Y];simp only[ib,eA,cH,j0,ad0];refine⟨_,rfl,_,rfl,bQ.mpr ⟨hx,_,rfl,?_⟩⟩;rw[if_pos (by simpa using h)];exact k
 ·have U:av x=false:=by
   cases hh:av x with
   |false=>rfl
   |true =>
    exfalso;have L:46∈x.cps.toList:=by
     have:=P2 x (tx [46]);rw[u]at this;rw[<-this];exact gY (by rw[ax];simp)
    have:=(cb hh).2.2 46 L;unfold nF at this
    lia
  rw[if_neg (by rw[U];decide)];refine⟨by decide +kernel,szB _ (by lia),?_⟩;rw[Y];simp only[ib,eA,cH,j0,ad0];refine⟨_,rfl,_,rfl,?_⟩;simp only[List.set_cons_zero,List.set_cons_succ,V4,P9,ab9,exists_eq_left'];obtain⟨a,b,B,m⟩:∃a b B,pcs 46 x.cps.toList=a::b::B:=by
   match m:pcs 46 x.cps.toList with
   |[]=>rw[u,m]at g;simp at g
   |[a]=>rw[u,m]at g;simp at g
   |a::b::B=>exact⟨a,b,B,rfl⟩
  rw[u,m]at g;simp only[K7,N0]at g;obtain⟨rfl,rfl,rfl⟩:=g;have C:=P2 x (tx [46]);rw[u,lE]at C;generalize hT:N5 (tx [46]) (tx b::B.map tx)=T at C ⊢;have N:T.length<=x.length:=by
   have:=congrArg ah6 C;rw[aF]at this
   lia
  obtain⟨t,rfl⟩:∃t,T=tx t:=⟨T.cps.toList,jS T⟩;rw[aA]at N;have q:sgW x.cps.toList=if av (tx a)=true/\1<=t.length/\t.length<=99 then(if t=E5 t.length 114 then some (tx a,(t.length:Int))else if t=E5 t.length 108 then some (tx a,-(t.length:Int))else none)else none:=by
   unfold sgW;rw[m];cases B with
   |nil =>
    have:b=t:=sv.mp hT;subst this;rfl
   |cons c B =>
    have L:46∈t:=by
     rw[<-ax t,<-hT];exact gY (by rw[ax];simp)
    have o:∀c n,c≠46->t≠E5 n c:=λc n hc z=>by
     rw[z]at L;exact hc (List.eq_of_mem_replicate L).symm
    rw[if_neg (o _ _ (by decide)),if_neg (o _ _ (by decide)),ite_self]
  have l:R (oSg (sgW x.cps.toList)) M:=by unfold sgW;exact k
  rw[q]at l;clear k q;have a2:(tx a).length<=x.length:=by rw[aA];exact a0 a (by rw[m];simp)
  refine bQ.mpr ⟨by lia,_,rfl,?_⟩;have no:¬ (av (tx a)=true/\1<=t.length/\t.length<=99)->R .non M:=λh=>by rw[if_neg h]at l;exact l
  refine aV (λh=>no λz=>by rw[z.1]at h;cases h) (λh=>?_);have S:av (tx a)=true:=by simpa using h
  have e0:eqF (rdM M (D.str (tx t))) (D.str (J5 ""))=some (.bl (decide (t=[]))):=by
   rw[iN,lL];congr 2;rw[R6,beq_iff_eq,decide_eq_true_eq,show(J5 "":Str)=tx []by decide +kernel];exact sv
  refine⟨_,e0,_,rfl,?_⟩;refine aV (λh=>no λz=>?_) (λh=>?_)
  ·have:t=[]:=by simpa using h
   rw[this]at z;simp at z
  have X:1<=t.length:=af7.mpr (by simpa using h);simp only[iN,xr,aA];refine⟨_,if_pos (szB _ (by lia)),?_⟩;walk_at"";refine aV (λh=>no λz=>by lia) (λa4=>⟨sz3 2,sz3 2,sz3 2,λ_=>?_⟩);rw[if_pos ⟨S,X,by lia⟩]at l;have j:∀c,ae8 (tx t) (tx [c])=((t.length:Nat):Int)↔t=E5 t.length c:=λc=>by
   have h:=L2.nP (tx t) c;rw[ax]at h;rw[show ae8 (tx t) (tx [c])=aj4 c t from h];exact pe
  simp only[cx,ib,eA,cH,j0,ad0];refine⟨_,rfl,?_⟩;walk_at"";rw[aA];refine⟨_,if_pos (szB _ (by lia)),?_⟩;walk_at"";refine aV (λZ=>⟨_,if_pos (szB _ (by lia)),?_⟩) (λZ=>?_)
  ·walk_at"";rw[if_pos ((j 114).mp (by simpa using Z))]at l;rw[Int.one_mul];exact⟨sz3 2,l⟩
  rw[if_neg (λz=>Z (by simpa using(j 114).mpr z))]at l;refine⟨_,rfl,?_⟩;walk_at"";rw[aA];refine⟨_,if_pos (szB _ (by lia)),?_⟩;walk_at"";refine aV (λQ=>⟨_,if_pos (szB _ (by lia)),?_⟩) (λQ=>?_)
  ·walk_at"";rw[if_pos ((j 108).mp (by simpa using Q))]at l;rw[show(-1:Int)*(t.length:Int)=-(t.length:Int)by lia];exact⟨sz3 2,l⟩
  rw[if_neg (λz=>Q (by simpa using(j 108).mpr z))]at l;exact l
def lrw(x:Str):D:=if ke x.cps.toList=true/\(eB x.cps.toList).length<=5 then cX (eB x.cps.toList)else .non
def lx:SpD:=λa M R=>∃x:Str,a=[.str x]/\x.length<=200000/\R (lrw x) M
theorem qM(F:Fun K "_law_row_in" "_law_row_in" fj f O)(T:Txt J)(m:FnD P w K J base "_law_sign_in" 2 1 jX):aO P w K J base CX0 3 f O ["_law_text_here"] (spD K 1 lx):=by
 have Q:=jU.nd;refine F.okR rfl jU (λX A l s H E j=>⟨_,(aj (bp (aD (cU j.units) (af 0) am nbh) (ao (aB (bF ag))) aR)
   (aj (aU (i:=1) Q rfl (O8 rfl) (dD fq rfl T.b_tuple (by kernel_rfl) (aa (gj (ms:=[false,false]) (ar:=["_law_word"]) (aG (n0:=0) rfl (show aY (ah fj) iu _ _=true from by decide +kernel)) rfl (bG (cM (af 0) am)) (aS (i:=2) (show(iu++_).Nodup from by decide +kernel) rfl rfl) (λ_ _ _ _=>bH) (λ_ _ _ _=>(qd m j (aa (af 2) ag)))) ag)))
   (aj (bp (ma (ic (aD (Bt j.units) cp (af 1) rfl) (jz (aD pC (aC bE rfl T.b_len (by kernel_rfl) (aa (af 1) ag)) ai nbh)))) (ao (aB cp)) aR)
   (ao (aB (af 1)))))),λZ M R _ L bk=>?_⟩)
 obtain⟨x,rfl,I,k⟩:=L;refine bk ?_;clear bk;walk_at"";simp only[yX,vt];have G:x=tx [49]↔x.cps.toList=[49]:=⟨λh=>by rw[h,ax],λh=>cc (by rw[h,ax])⟩;unfold lrw ke eB at k;refine aV (λh=>⟨sz3 0,?_⟩) (λh=>⟨by rw[aA];rfl,szB _ (by lia),?_⟩)
 ·have e:x.cps.toList=[49]:=G.mp (by simpa using h);rw[decide_eq_true e,Bool.true_or,if_pos e,if_pos ⟨rfl,by simp⟩]at k;exact k
 ·have e:¬ x.cps.toList=[49]:=λz=>h (by simpa using G.mpr z);rw[decide_eq_false e,an2,if_neg e]at k;have c:∀p∈pcs 32 x.cps.toList,p.length<=200000:=λp g=>by
   have:=bf (x:=x) (y:=tx [32]) (p:=tx p) (by rw[de];exact J3.mpr ⟨p,g,rfl⟩);rw[aA]at this
   lia
  rw[de];generalize pcs 32 x.cps.toList=a at k c;refine λC=>⟨C,?_⟩;have u:(a.map tx).map D.str=a.map λp=>D.str (tx p):=by rw[O9];rfl
  rw[u];refine bV (λp=>D.str (tx p)) (λ_=>true) (λp=>oSg (sgW p)) (λo=>∃z,o=[none,none,z]) a _ _ (λp g o n=>?_) ⟨none,rfl⟩ ?_
  ·obtain⟨z,rfl⟩:=n;refine⟨_,rfl,⟨_,rfl⟩,λQ1 q=>q,λ_ Y q=>?_⟩;walk_at"";refine⟨tx p,rfl,by rw[aA];exact c p g,?_⟩;rw[ax];exact q
  ·rw[M9,N9.mpr (λ_ _=>rfl)];have t:bI (a.map λp=>oSg (sgW p)) 59=true:=by
    rw[bM];intro d U;obtain⟨p,_,rfl⟩:=J3.mp U;cases sgW p<;>rfl
   refine⟨_,if_pos ⟨rfl,t⟩,_,rfl,?_⟩;have B:((a.map λp=>oSg (sgW p)).any λd=>eqD d .non)=!(a.all λp=>(sgW p).isSome):=by
    rw[List.any_map,List.not_all_eq_any_not];congr 1;funext p;show eqD (oSg (sgW p)) .non=_;cases sgW p<;>rfl
   rw[B]
   by_cases b:(a.all λp=>(sgW p).isSome)=true
   ·rw[b];refine aV (λh=>by cases h) (λ_=>?_);have S:(a.map λp=>oSg (sgW p))=(a.filterMap sgW).map bX:=by
     clear k B t u C c
     induction a with
     |nil=>rfl
     |cons p a ih =>
      rw[U3,F1]at b;obtain⟨x,I⟩:=U7.mp b.1;rw[K7,ih b.2,N8,I];rfl
    rw[S,E4];refine aV (λN=>?_) (λN=>?_)
    ·rw[if_neg λz=>by lia]at k;exact k
    ·rw[if_pos ⟨b,by lia⟩]at k;exact k
   ·rw[if_neg λz=>b z.1]at k;rw[show(a.all λp=>(sgW p).isSome)=false by simpa using b];exact aV (λ_=>k) (λh=>absurd rfl h)
def oE:Option (Str×List Row)->D
 |some e=>a7 e
 |none=>.non
def kr(a:List (Str×List Row))(p:Str):Option (Str×List Row):=match enO p with
 |some e=>if a.length<=9/\e.1∉a.map (·.1)then some e else none
 |none=>none
theorem n5{t:Str}:lrw t=if cZ (bv t)=true then cX (eB t.cps.toList)else .non:=by
 unfold lrw;rw[dj]
 by_cases a:ke t.cps.toList=true
 ·have b:=dj (x:=t);rw[if_pos a]at b;have f:=(kN b).2;have c:((eB t.cps.toList).map bX).all cm=true:=by
   rw[L4];intro d e;obtain⟨x,g,rfl⟩:=J3.mp e;have:=f x g;show(aX (.str x.1)&&fP (.int x.2))=true;rw[show aX (.str x.1)=true from du this.1,O1];simp only[fP,F1,decide_eq_true_eq]
   lia
  have h:cZ (.tup ((eB t.cps.toList).map bX))=decide ((eB t.cps.toList).length<=5):=by
   simp only[cZ,c,E4,O1,V5]
  rw[if_pos a,h];simp only[a,true_and,decide_eq_true_eq]
 ·rw[if_neg a,if_neg λz=>a z.1];rfl
theorem uT{T:Str}(h:58∈T.cps.toList):jG (.tup ((J1 T (tx [32,124,32])).map bv))=false:=by
 have a:=P2 T (tx [32,124,32]);rw[<-a]at h;rcases nI h with h|⟨p,b,h⟩
 ·rw[ax]at h;simp at h
 ·have e:ke p.cps.toList=false:=w6 h (by decide) (ye h (by decide));have c:bv p=.non:=by rw[dj,e];rfl
  rw[Bool.eq_false_iff];intro z;simp only[jG,F1]at z;have:=L4.mp z.1.2 _ (List.mem_map_of_mem b);rw[c]at this;cases this
theorem vB(x:Str):∃w s T,N7 x (tx [58,32])=(w,s,T)/\w.length<=x.length/\T.length<=x.length/\((s=ao9/\enO x=none)∨(s=tx [58,32]/\enO x=if av w=true/\jG (.tup ((J1 T (tx [32,124,32])).map bv))=true then some (w,(J1 T (tx [32,124,32])).map λt=>eB t.cps.toList)else none)):=by
 have e:=P2 x (tx [58,32]);rcases dQ x (tx [58,32]) (by decide +kernel)with⟨a,b⟩|⟨h,r,rs,a,b⟩
 ·refine⟨_,_,_,b,F3 _,O2 _,.inl ⟨rfl,?_⟩⟩;unfold enO;rw[a]
 ·rw[a,lE]at e;have f:=congrArg ah6 e;rw[aF,aF]at f;refine⟨_,_,_,b,by lia,by lia,.inr ⟨rfl,?_⟩⟩;unfold enO;rw[a];cases rs with
  |nil=>rfl
  |cons c g =>
   rw[uT (gY (by rw[ax];simp)),if_neg λz=>nomatch z.2]
def jh:SpD:=λc M R=>∃(x:Str) (a:E9) (b:List (Str×List Row)),c=[.str x,.ref a]/\x.length<=200000/\M a=some (.lst (b.map a7))/\b.length<=100/\R (oE (kr b x)) M
theorem mH(F:Fun K "_law_entry_in" "_law_entry_in" cC f O)(T:Txt J)(a2:FnD P w K J base "_law_row_in" 3 1 lx)(G4:FnD P w K J base "_law_small" 1 1 eG):aO P w K J base CX0 4 f O ["_law_part","_law_entries"] (spD K 2 jh):=by
 have Y:=ia.nd;refine F.okR rfl ia (λc0 A a8 s H E U=>⟨_,(aj (nt (gn (af 0) am) (jY rfl (bB (a6 (i:=2) Y rfl (O8 rfl)) (bB (a6 (i:=3) Y rfl (O8 rfl)) (bB (a6 (i:=4) Y rfl (O8 rfl)) jT)))))
   (aj (sQ (i:=5) Y rfl rfl rfl (ms:=[false,false,false,false,false,false]) (ar:=["_law_text_here"]) (aG (n0:=0) rfl (show aY (ah cC) bW _ _=true from by decide +kernel)) rfl (bG (cM (af 4) am)) (aS (i:=6) (show(bW++_).Nodup from by decide +kernel) rfl rfl) (λ_ _ _ _=>bH) (λ_ _ _ _=>(qd a2 U (aa (af 6) ag))))
   (aj (bp (ma (ic (aD (cU U.units) (af 3) am nbh) (ic (kS (cJ (qd G4 U (aa (af 2) ag)))) (ic (aD (Cq U.units) cp (af 5) rfl) (ic (aD pC (aC bE rfl T.b_len (by kernel_rfl) (aa (af 5) ag)) ai nbh) (jz (aD xn (CJ rfl U.units rfl T.b_len rfl T.b_set (af 5)) (aC bE rfl T.b_len (by kernel_rfl) (aa (af 5) ag)) nbh))))))) (ao (aB cp)) aR)
   (aj (bp (ma (ic (aD pC (aC bE rfl T.b_len (by kernel_rfl) (aa (af 1) ag)) ai nbh) (jz (Bk (aD vJ (af 2) (gj (ms:=[false,false,false,false,false,false]) (ar:=["_law_one","_law_kinds"]) (aG (n0:=0) rfl (show aY (ah cC) bW _ _=true from by decide +kernel)) rfl (bG (af 1)) (rm (n:=2) rfl (g6 (aS (i:=6) (show(bW++_).Nodup from by decide +kernel) rfl rfl) (g6 (aS (i:=7) (show(bW++_).Nodup from by decide +kernel) rfl rfl) sE))) (λ_ _ _ _=>bH) (λ_ _ _ _=>(af 6))) rfl))))) (ao (aB cp)) aR)
   (ao (aB (bF (aa (af 2) (aa (dD fq rfl T.b_tuple (by kernel_rfl) (aa (af 5) ag)) ag))))))))),λds M R _ hS bk=>?_⟩)
 obtain⟨x,a,j,rfl,hx,hM,c1,k⟩:=hS;refine bk ?_;clear bk;walk_at"";simp only[wB,vM];refine⟨by decide +kernel,szB _ (by lia),?_⟩;obtain⟨B,s,T,h2,b4,b',c⟩:=vB x;rw[h2];simp only[ib,eA,cH,j0,ad0];refine⟨_,rfl,_,rfl,T,rfl,by decide +kernel,szB _ (by lia),?_⟩;generalize S:J1 T (tx [32,124,32])=b at c ⊢;have a0:∀t∈b,t.length<=200000:=λt u=>by
  have:=bf (show t∈J1 T (tx [32,124,32])by rw[S];exact u)
  lia
 have b2:b≠[]:=by rw[<-S];exact fX _ _ (by decide +kernel)
 refine λhz=>⟨hz,bV (λt=>D.str t) (λ_=>true) lrw (λI=>∃z,I=[none,none,none,none,none,none,z]) b _ _ (λt u I C=>?_) ⟨none,rfl⟩ ?_⟩
 ·obtain⟨z,rfl⟩:=C;refine⟨_,rfl,⟨_,rfl⟩,λQ1 q=>q,λ_ Q2 q=>?_⟩;walk_at"";exact⟨t,rfl,a0 t u,q⟩
 ·rw[M9,N9.mpr (λ_ _=>rfl)];simp only[List.set_cons_zero,List.set_cons_succ,V4,P9,ab9,exists_eq_left'];walk_at"";have no:kr j x=none->R .non M:=λh=>by rw[h]at k;exact k
  rcases c with⟨rfl,c⟩|⟨rfl,c⟩
  ·rw[if_pos (by decide +kernel)];exact no (by unfold kr;rw[c])
  rw[if_neg (by decide +kernel)];have l:¬ (av B=true/\jG (.tup (b.map bv))=true)->R .non M:=λh=>no (by unfold kr;rw[c,if_neg h]);refine bQ.mpr ⟨by lia,_,rfl,?_⟩;refine aV (λh=>l λz=>by rw[z.1]at h;cases h) (λh=>?_);have a4:av B=true:=by simpa using h
  have b3:bI (b.map lrw) 59=true:=by
   rw[bM];intro d hd;obtain⟨t,_,rfl⟩:=J3.mp hd;rw[n5]
   split
   ·exact xG _
   ·rfl
  refine⟨_,if_pos ⟨rfl,b3⟩,_,rfl,?_⟩;have e4:((b.map lrw).any λd=>eqD d .non)=!(b.all λt=>cZ (bv t)):=by
   rw[List.any_map,List.not_all_eq_any_not];congr 1;funext t;show eqD (lrw t) .non=_;rw[n5];cases cZ (bv t)<;>rfl
  rw[e4];have g:jG (.tup (b.map bv))=(decide (1<=b.length)&&decide (b.length<=4)&&(b.all λt=>cZ (bv t))&&fR (b.map bv)):=by
   simp only[jG,E4,U1];rfl
  refine aV (λh=>l λz=>?_) (λh=>?_)
  ·have p:=z.2;rw[g]at p;simp only[F1]at p;rw[p.1.2]at h;cases h
  have o:(b.all λt=>cZ (bv t))=true:=by simpa using h
  have m:∀t∈b,cZ (bv t)=true:=λt u=>L4.mp o t u;have er:b.map bv=(b.map λt=>eB t.cps.toList).map cX:=by
   rw[O9];exact W1 λt u=>(kH (m t u)).1
  have el:b.map lrw=(b.map λt=>eB t.cps.toList).map cX:=by
   rw[O9];exact W1 λt u=>by rw[n5,if_pos (m t u)];rfl
  rw[o,V5,er,dh jO]at g;rw[<-er]at g;rw[el];rw[E4,E4];generalize a5:(b.map λt=>eB t.cps.toList)=rs at *
  have b9:rs.length=b.length:=by rw[<-a5,E4]
  refine aV (λh=>l λz=>?_) (λh4=>?_)
  ·have p:=z.2;rw[g]at p;simp only[F1,decide_eq_true_eq]at p
   lia
  have b0:(rs.map cX).all cZ=true:=by
   rw[<-er,U1];exact o
  obtain⟨G,ek,a3⟩:=oj b0;have b5:G.length=b.length:=by
   have:=congrArg ak5 ek;simp only[E4]at this
   lia
  refine⟨G,ek,a3,by lia,?_⟩;have X:fR G=fR rs:=by
   rw[<-dh (f:=kU) (λ_ _ h=>qk h),<-ek,dh jO]
  have Q:(((dJ G).length:Int)==(G.length:Int))=fR rs:=by rw[ur,X]
  have b8:=iZ G;refine aV (λh=>l λz=>?_) (λc2=>?_)
  ·have p:=z.2;rw[g]at p;simp only[F1]at p;rw[p.2,beq_iff_eq]at Q
   lia
  have a9:fR rs=true:=by
   rw[<-Q,beq_iff_eq]
   lia
  have L:1<=b.length:=af7.mpr b2;have a1:jG (.tup (b.map bv))=true:=by
   rw[g,a9,decide_eq_true L,decide_eq_true (by lia)];rfl
  rw[if_pos ⟨a4,a1⟩]at c;have b1:kr j x=if j.length<=9/\B∉j.map (·.1)then some (B,rs)else none:=by unfold kr;rw[c]
  rw[b1]at k;clear no l;have N:rdM M (.ref a)=.lst (j.map a7):=fA hM;rw[N];refine⟨_,(show ql (.lst (j.map a7))=some (.int (j.length:Int))by rw[rY,E4]),?_⟩;walk_at"";refine aV (λh=>?_) (λh9=>?_)
  ·rw[if_neg λz=>by lia]at k;exact k
  refine⟨_,rfl,.lst (j.map a7),by rw[ak8,N],_,rfl,λa'=>⟨a',?_⟩⟩;refine bV a7 (λ_=>true) (λe=>D.str e.1) (λI=>∃y z,I=[none,none,none,none,none,none,y,z]) j _ _ (λe Z I C=>?_) ⟨none,none,rfl⟩ ?_
  ·obtain⟨y,z,rfl⟩:=C;refine⟨_,rfl,⟨_,_,rfl⟩,λQ1 q=>q,λ_ Q2 q=>?_⟩;walk_at"";exact q
  ·rw[M9,N9.mpr (λ_ _=>rfl)];have h1:(j.map λe=>D.str e.1).all bu=true:=by rw[U1];exact L4.mpr λ_ _=>rfl
   refine⟨_,if_pos ⟨rfl,h1⟩,_,rfl,?_⟩;have e5:(false ^^ (j.map λe=>D.str e.1).any λd2=>eqD d2 (rdM noM (rdM M (.str B))))=decide (B∈j.map (·.1)):=by
    rw[Bool.false_xor,R6,decide_eq_true_eq,af0];constructor
    ·rintro⟨d,hd,h⟩;obtain⟨e,Z,rfl⟩:=J3.mp hd;have:e.1=B:=by simpa[eqD,rdM]using h
     exact this▸List.mem_map_of_mem Z
    ·intro h;obtain⟨e,Z,rfl⟩:=J3.mp h;exact⟨_,List.mem_map_of_mem Z,by simp[eqD,rdM]⟩
   rw[e5];refine aV (λh=>?_) (λh=>⟨sz3 2,?_⟩)
   ·rw[if_neg λz=>z.2 (by simpa using h)]at k;exact k
   ·rw[if_pos ⟨by lia,by simpa using h⟩]at k;exact k
theorem fS{g:Str}:aa0 (bC g) none (some 5)=tx [103,111,97,108,32]/\aa0 (bC g) (some 5) none=g:=by
 have e:bC g=tx ([103,111,97,108,32]++g.cps.toList):=by
  unfold bC;rw[<-mi,<-jS]
 have a:(bC g).length=5+g.cps.toList.length:=by rw[e,aA,E8];rfl
 refine⟨?_,?_⟩
 ·rw[e];have:=iE ([103,111,97,108,32]++g.cps.toList) 5;rw[show((5:Nat):Int)=5 from rfl]at this;rw[this];rfl
 ·rw[PyProof.Rows.slice_from_eq (i:=5) (b:=((bC g).length:Int)) (by decide) (by rw[a];lia) rfl];refine cc ?_;rw[e,ax,aA];show List.take _ (List.drop 5 _)=_;rw[show List.drop 5 ([103,111,97,108,32]++g.cps.toList)=g.cps.toList from rfl];exact Z0 (by rw[E8,F4,F4,F4,F4,F4,N1];lia)
theorem xv{p:Str}(h:aa0 p none (some 5)=tx [103,111,97,108,32]):∃g,p=bC g:=by
 have e:=iE p.cps.toList 5;rw[<-jS p,show((5:Nat):Int)=5 from rfl,h]at e;have a:=sv.mp e;refine⟨tx (p.cps.toList.drop 5),?_⟩;unfold bC;rw[mi,a,List.take_append_drop,<-jS]
theorem tP{y:Str}:∀{ps:List Str},(ps.length-1)*y.length<=(N5 y ps).length
 |[]=>by simp
 |[p]=>by simp
 |p::q::r=>by
  have ih:=tP (y:=y) (ps:=q::r);rw[lE,aF,aF];simp only[F4,Nat.add_sub_cancel]at ih ⊢;rw[Nat.add_mul,Nat.one_mul]
  lia
theorem wJ{p:Str}(h:∀g,p=bC g->av g=false):goO p=none:=by
 cases e:goO p with
 |none=>rfl
 |some g =>
  obtain⟨b,a⟩:=pQ e;have:=h g b;rw[du a]at this;cases this
theorem yM(x:Str):∃w s T,N7 x (tx [32,60,32])=(w,s,T)/\w.length<=x.length/\T.length<=x.length/\((s=ao9/\prO x=none)∨(s=tx [32,60,32]/\prO x=if av w=true/\av T=true then some (w,T)else none)):=by
 have e:=P2 x (tx [32,60,32]);rcases dQ x (tx [32,60,32]) (by decide +kernel)with⟨a,b⟩|⟨h,r,rs,a,b⟩
 ·refine⟨_,_,_,b,F3 _,O2 _,.inl ⟨rfl,?_⟩⟩;unfold prO;rw[a]
 ·rw[a,lE]at e;have f:=congrArg ah6 e;rw[aF,aF]at f;refine⟨_,_,_,b,by lia,by lia,.inr ⟨rfl,?_⟩⟩;unfold prO;rw[a];cases rs with
  |nil=>rfl
  |cons c g =>
   refine(if_neg λz=>?_).symm;have:=(cb z.2).2.2 60 (gY (by rw[ax];simp));unfold nF at this
   lia
theorem vw{s:St}{p:Str}:st2 s p=(kr s.2 p).map λe=>(s.1,s.2++[e]):=by
 unfold st2 kr;cases enO p with
 |none=>rfl
 |some e =>
  dsimp only
  split<;>rfl
theorem p6{b:List (Str×List Row)}:eqF (.lst (b.map a7)) (.lst [])=some (.bl (decide (b=[]))):=by
 have g:dLe (.lst (b.map a7)) 60=true:=by
  show bI (b.map a7) 59=true;rw[bM];intro d f;obtain⟨e,_,rfl⟩:=J3.mp f;exact nV e 54
 have c:dLe (.lst []) 60=true:=rfl;simp only[eqF,g,c,and_self,if_true,eqD];cases b with
 |nil=>rfl
 |cons a r=>simp[dH]
def AV:Option Nat ⊕ (List (Str×Str)×Str×List (Str×List Row))->D
 |.inl o=>.tup [.str "none",oN o]
 |.inr (o,g,a)=>.tup [.str "read",rj o g a]
def tD:SpD:=λa M R=>∃x:Str,a=[.str x]/\x.length<=100000/\R (AV (rdL x)) M
theorem vU(F:Fun K "_law_due" "_law_due" ot f O)(T:Txt J)(G4:FnD P w K J base "_law_small" 1 1 eG)(Y8:FnD P w K J base "_law_entry_in" 4 2 jh):aO P w K J base CX0 5 f O ["_law_text_here"] (spD K 1 tD):=by
 have Z:=pT.nd;refine F.okR rfl pT (λc3 A b1 s H E u=>⟨_,(aj (aU (i:=1) Z rfl (O8 rfl) (cM (af 0) am))
   (aj (bp (ma (ic (aD (An u.units) (bb (bj bh (af 1) ai (λ_ _=>rfl)) bO (bw ai)) am nbh) (jz (kS (cJ (qd G4 u (aa (bb (bj bh (af 1) ai (λ_ _=>rfl)) (bw ai) bO) ag))))))) (ao (aB (bF (aa am (aa ai ag))))) aR)
   (aj (aU (i:=2) Z rfl (O8 rfl) (lJ ag))
   (aj (aU (i:=3) Z rfl (O8 rfl) (lJ ag))
   (aj (qI ah4 rfl (yY rfl T.b_range (aa ai (aa (aC bE rfl T.b_len (by kernel_rfl) (aa (af 1) ag)) ag))) (a6 (i:=4) Z rfl (O8 rfl)) (aj (nt (gn (bj bh (af 1) (af 4) (λ_ _=>rfl)) am) (jY rfl (bB (a6 (i:=5) Z rfl (O8 rfl)) (bB (a6 (i:=6) Z rfl (O8 rfl)) (bB (a6 (i:=7) Z rfl (O8 rfl)) jT)))))
   (aj (aU (i:=8) Z rfl (O8 rfl) (qd Y8 u (aa (bj bh (af 1) (af 4) (λ_ _=>rfl)) (aa (af 3) ag))))
   (ao (bp (ma (fC (aD (An u.units) (af 6) am nbh) (fC (cJ (qd G4 u (aa (af 5) ag))) (fC (cJ (qd G4 u (aa (af 7) ag))) (fC (aD (cU u.units) (af 3) (cn ag) nbh) (ji (aD xn (aC bE rfl T.b_len (by kernel_rfl) (aa (af 2) ag)) ai nbh))))))) (ao (jN (nq (af 2) (bF (aa (af 5) (aa (af 7) ag)))))) (ao (bp (aD xR (af 8) cp nbh) (ao (jN (nq (af 3) (af 8)))) (ao (ou (bF (aa am (aa (af 4) ag))))))))))))
   (aj (bp (aD (cU u.units) (af 3) (cn ag) nbh) (ao (ou (bF (aa am (aa cp ag))))) aR)
   (ao (ou (bF (aa am (aa (bF (aa (dD fq rfl T.b_tuple (by kernel_rfl) (aa (af 2) ag)) (aa (bb (bj bh (af 1) ai (λ_ _=>rfl)) (bw ai) bO) (aa (dD fq rfl T.b_tuple (by kernel_rfl) (aa (af 3) ag)) ag)))) ag))))))))))),λds M R _ hS bk=>?_⟩)
 obtain⟨x,rfl,hx,k⟩:=hS;refine bk ?_;clear bk;walk_at"";simp only[se,BP,wy];obtain⟨I,c,S⟩:∃I c,J1 x (tx [59,32])=I::c:=by
  cases e:J1 x (tx [59,32])with
  |nil=>exact absurd e (fX x _ (by decide +kernel))
  |cons a b=>exact⟨a,b,rfl⟩
 have a3:∀p∈I::c,p.length<=100000:=λp hp=>by
  have:=bf (show p∈J1 x (tx [59,32])by rw[S];exact hp)
  lia
 have u:rdL x=match goO I with
  |none=>.inl (some 0)
  |some g=>match dZ ([],[]) 1 c with
   |.inl n=>.inl (some n)
   |.inr s=>if s.2=[]then .inl none else .inr (s.1,g,s.2):=by
  unfold rdL;rw[S]
 rw[S];have h0:atI ((I::c).map D.str) 0=some (D.str I):=(show atI ((I::c).map D.str) ((0:Nat):Int)=some (D.str I)from cQ rfl);have a2:=a3 I (by simp);refine⟨by decide +kernel,szB _ (by lia),_,h0,?_⟩;simp only[iN,zD];refine⟨_,if_pos (szB _ (by lia)),?_⟩;walk_at"";refine aV (λh=>⟨sz3 2,?_⟩) (λh=>⟨_,if_pos (szB _ (by lia)),?_⟩)
 ·have hg:goO I=none:=wJ λg e=>by
   rw[e,fS.1]at h;simp at h
  rw[u,hg]at k;exact k
 obtain⟨g,rfl⟩:=xv (p:=I) (by simpa using h);have c2:g.length<=100000:=by
  unfold bC at a2;rw[aF]at a2
  lia
 rw[fS.2];refine bQ.mpr ⟨by lia,_,rfl,?_⟩;refine aV (λl=>⟨sz3 2,?_⟩) (λl=>⟨O2 _,λp hp=>⟨O2 _,λq hq=>?_⟩⟩)
 ·have hg:goO (bC g)=none:=wJ λg' e=>by
   have e1:g=g':=by rw[<-fS (g:=g).2,e,fS.2]
   rw[<-e1];simpa using l
  rw[u,hg]at k;exact k
 have b2:av g=true:=by simpa using l
 rw[wC (cb b2)]at u;dsimp only at u;have b8:c.length<=200000:=by
  have G:=tP (y:=tx [59,32]) (ps:=bC g::c);have l:=P2 x (tx [59,32]);rw[S]at l;rw[l,aA]at G;simp only[F4,N1]at G
  lia
 have Y:q≠p:=by rintro rfl;rw[aw]at hq;cases hq
 have a5:M q=none:=by rw[aP Y]at hq;exact hq
 refine⟨_,_,⟨rfl,rfl⟩,by rw[E4];lia,?_⟩;rw[show((((c.map D.str).length+1:Nat):Int)-1).toNat=c.length by rw[E4];lia];refine eL (λi Δ M'=>∃(s:St) (x4 x5 x6 x7 x8:Option D),Δ=[some (D.str x),some (D.lst (D.str (bC g)::c.map D.str)),some (D.ref p),some (D.ref q),x4,x5,x6,x7,x8]/\M'=ay (ay M p (.lst (s.1.map bA))) q (.lst (s.2.map a7))/\qF s/\dZ ([],[]) 1 c=dZ s (1+i) (c.drop i))
  ⟨([],[]),none,none,none,none,none,rfl,rfl,⟨⟨by simp,λ_ h=>nomatch h⟩,by simp,by simp,λ_ h=>nomatch h⟩,rfl⟩ ?_ ?_
 ·intro i d Δ M' X b4 hI k';refine shr λ_ bk=>?_;obtain⟨s,x4,x5,x6,x7,x8,rfl,rfl,hs,j⟩:=hI;refine bk ?_;clear bk;obtain⟨hi,rfl⟩:=eF b4;have a0:c[i]?=some c[i]:=E6 hi;generalize a1:c[i]=pt at a0;have b5:pt.length<=100000:=a3 pt (I0 _ (O4 a0));have b3:c.drop i=pt::c.drop (i+1):=by rw[S0 hi,a1]
  rw[b3]at j;have h8:=hs.1.1;have b':=hs.2.1;have a4:atI (D.str (bC g)::c.map D.str) (1+(i:Int))=some (D.str pt):=by
   rw[show(1+(i:Int))=((i+1:Nat):Int)by lia];exact cQ (by rw[P9,K8,a0];rfl)
  simp only[cH];refine⟨_,rfl,?_⟩;obtain⟨lo,sg,t,a',b9,c0,Q⟩:=yM pt;walk_at"";refine⟨_,a4,pt,rfl,by decide +kernel,szB _ (by lia),?_⟩;rw[a'];simp only[ib,eA,cH,j0,ad0];refine⟨_,rfl,_,rfl,_,rfl,_,a4,_,rfl,pt,q,s.2,rfl,by lia,aw,by lia,?_⟩;have U:(ay (ay M p (.lst (s.1.map bA))) q (.lst (s.2.map a7))) q=some (.lst (s.2.map a7)):=aw;have C:(ay (ay M p (.lst (s.1.map bA))) q (.lst (s.2.map a7))) p=some (.lst (s.1.map bA)):=by rw[aP (T9 Y),aw]
  have a8:∀ys,ay (ay (ay M p (.lst (s.1.map bA))) q (.lst (s.2.map a7))) q (.lst ys)=ay (ay M p (.lst (s.1.map bA))) q (.lst ys):=λys=>aQ;have a9:∀ys,ay (ay (ay M p (.lst (s.1.map bA))) q (.lst (s.2.map a7))) p (.lst ys)=ay (ay M p (.lst ys)) q (.lst (s.2.map a7)):=λys=>by rw[<-nO (T9 Y),aQ]
  have L:LeM M (ay (ay M p (.lst (s.1.map bA))) q (.lst (s.2.map a7))):=λb o e=>by
   have G:b≠p:=λz=>by rw[z,hp]at e;cases e
   have l:b≠q:=λz=>by rw[z,a5]at e;cases e
   rw[aP l,aP G];exact e
  generalize ay (ay M p (.lst (s.1.map bA))) q (.lst (s.2.map a7))=M3 at U C a8 a9 L ⊢;refine shr λ_ bk=>?_;have N:st1 s pt=none->(if(true ^^ lO (rdM M3 (oE (kr s.2 pt))))=true then ∃x3,M3 q=some (HD.lst x3)/\∃ds,M3 q=some (HD.lst ds)/\ds.length<F2/\X [some (D.str x),some (D.lst (D.str (bC g)::c.map D.str)),some (D.ref p),some (D.ref q),some (D.int (1+(i:Int))),some (D.str lo),some (D.str sg),some (D.str t),some (oE (kr s.2 pt))] (ay M3 q (HD.lst (ds++[oE (kr s.2 pt)])))else 2<=F2/\∃M2,LeM M2 M3/\R (D.tup [D.str (J5 "none"),D.int (1+(i:Int))]) M2):=by
   intro G;have m:stp s pt=st2 s pt:=by unfold stp;rw[G]
   have l:=vw (s:=s) (p:=pt);cases e:kr s.2 pt with
   |none =>
    rw[e]at l;rw[l]at m;rw[if_neg (by simp[oE,lO,rdM])];refine⟨sz3 2,M,L,?_⟩;rw[u,j]at k;simp only[dZ,m,Option.map_none]at k;rw[show(1+(i:Int))=((1+i:Nat):Int)by lia];exact k
   |some e1 =>
    rw[e]at l;rw[l]at m;rw[if_pos (by simp[oE,lO,rdM,a7])];refine⟨_,U,_,U,by rw[E4];exact J0 (by lia:_<1000) (sz3 1000),k' _ _ ?_⟩;rw[a8,show s.2.map a7++[oE (some e1)]=(s.2++[e1]).map a7 by rw[N4];rfl];refine⟨(s.1,s.2++[e1]),_,_,_,_,_,rfl,rfl,jr hs m,?_⟩;rw[j];simp only[dZ,m,ak8];rw[aa3]
  refine bk ?_;clear bk;walk_at"";rcases Q with⟨rfl,Q⟩|⟨rfl,Q⟩
  ·rw[if_neg (by decide +kernel)];exact N (by unfold st1;rw[Q])
  rw[if_pos (by decide +kernel)];have B:st1 s pt=if(av lo=true/\av t=true)/\s.2=[]/\s.1.length<8 then some (s.1++[(lo,t)],s.2)else none:=by
   unfold st1;rw[Q]
   by_cases c1:av lo=true/\av t=true
   ·rw[if_pos c1];simp only[c1,and_self,true_and]
   ·rw[if_neg c1,if_neg λz=>c1 z.1]
  refine bQ.mpr ⟨by lia,_,rfl,aV (λG=>bQ.mpr ⟨by lia,_,rfl,aV (λl=>⟨O2 _,?_⟩) (λl=>N ?_)⟩) (λG=>N ?_)⟩
  ·rw[fA U];refine⟨_,p6,_,rfl,aV (λh3=>?_) (λh3=>N ?_)⟩
   ·rw[fA C];refine⟨_,(show ql (.lst (s.1.map bA))=some (.int (s.1.length:Int))by rw[rY,E4]),?_⟩;walk_at"";refine aV (λh4=>?_) (λh4=>N ?_)
    ·have b0:s.2=[]:=by simpa using h3
     rw[if_pos ⟨⟨G,l⟩,b0,by lia⟩]at B;have m:stp s pt=some (s.1++[(lo,t)],s.2):=by unfold stp;rw[B]
     refine⟨_,C,sz3 2,_,C,by rw[E4];exact J0 (by lia:_<1000) (sz3 1000),k' _ _ ?_⟩;rw[a9,show s.1.map bA++[D.tup [D.str lo,D.str t]]=(s.1++[(lo,t)]).map bA by rw[N4];rfl];refine⟨(s.1++[(lo,t)],s.2),_,_,_,_,_,rfl,rfl,jr hs m,?_⟩;rw[j];simp only[dZ,m];rw[aa3]
    ·rw[B,if_neg λz=>by lia]
   ·rw[B,if_neg λz=>h3 (by simpa using z.2.1)]
  ·rw[B,if_neg λz=>l z.1.2]
  ·rw[B,if_neg λz=>G z.1.1]
 ·intro Δ M' hI;refine shr λ_ bk=>?_;obtain⟨s,x4,x5,x6,x7,x8,rfl,rfl,hs,j⟩:=hI;refine bk ?_;clear bk;rw[show(pf 1 c.length).length=c.length by rw[dB],List.drop_length]at j;rw[j]at u;simp only[dZ]at u;have L:LeM M (ay (ay M p (.lst (s.1.map bA))) q (.lst (s.2.map a7))):=λb o e=>by
   have G:b≠p:=λz=>by rw[z,hp]at e;cases e
   have l:b≠q:=λz=>by rw[z,a5]at e;cases e
   rw[aP l,aP G];exact e
  have C:rdM (ay (ay M p (.lst (s.1.map bA))) q (.lst (s.2.map a7))) (.ref p)=.lst (s.1.map bA):=fA (by rw[aP (T9 Y),aw]);rw[u]at k;walk_at"";refine⟨O2 _,_,p6,_,rfl,aV (λh=>⟨sz3 2,M,L,?_⟩) (λh=>?_)⟩
  ·rw[if_pos (by simpa using h)]at k;exact k
  ·rw[if_neg (by simpa using h)]at k;rw[C];refine⟨_,rfl,_,if_pos (szB _ (by lia)),sz3 3,sz3 2,M,L,?_⟩;rw[fS.2];exact k
theorem jK:∀{ds:List D},(∀d∈ds,eqD d d=true)->dH ds ds=true
 |[],_=>by simp[dH]
 |d::ds,h=>by rw[dH,h d (.head _),jK λe a=>h e (.tail _ a)];rfl
theorem lq:∀(n:Nat) {d:D},dLe d n=true->eqD d d=true
 |0,d,h=>by cases d<;>first|(simp[dLe]at h;done)|simp[eqD]
 |n+1,d,h=>by
  cases d with
  |tup b=>simp only[eqD];exact jK λd a=>lq n (bM.mp h d a)
  |lst b=>simp only[eqD];exact jK λd a=>lq n (bM.mp h d a)
  |_=>first|(simp[dLe]at h;done)|simp[eqD]
theorem sV{d:D}(h:dLe d 60=true):eqF d d=some (.bl true):=by
 unfold eqF;rw[if_pos ⟨h,h⟩,lq 60 h]
theorem ut(r:Option Nat ⊕ (List (Str×Str)×Str×List (Str×List Row))):dLe (AV r) 60=true:=by
 match r with
 |.inl none=>rfl
 |.inl (some n)=>rfl
 |.inr (o,g,a) =>
  have e:bI (o.map bA) 57=true:=by
   rw[bM];intro d b;obtain⟨x,_,rfl⟩:=J3.mp b;rfl
  have f:bI (a.map a7) 57=true:=by
   rw[bM];intro d b;obtain⟨x,_,rfl⟩:=J3.mp b;exact nV x 52
  show bI [.str "read",rj o g a] 59=true;have c:dLe (rj o g a) 59=true:=by
   show bI [.tup (o.map bA),.str g,.tup (a.map a7)] 58=true;simp[bI,dLe,e,f]
  simp[bI,dLe,c]
theorem ny:∀{ps:List Str}{s r:St}{n:Nat},dZ s n ps=.inr r->s.1.map jm++s.2.map k7++ps=r.1.map jm++r.2.map k7/\(qF s->qF r)
 |[],s,r,n,h=>by
  unfold dZ at h;cases h;exact⟨ab4 _,id⟩
 |p::ps,s,r,n,h=>by
  unfold dZ at h;cases e:stp s p with
  |none=>rw[e]at h;cases h
  |some u =>
   rw[e]at h;obtain⟨f,c⟩:=ny (ps:=ps) h;refine⟨?_,λg=>c (jr g e)⟩;rw[<-f];rcases qV e with a|⟨_,a⟩
   ·obtain⟨x,b,i,_,rfl⟩:=k8 a;obtain⟨rfl,_⟩:=lX b;simp[i]
   ·obtain⟨x,b,_,_,rfl⟩:=iO a;obtain⟨rfl,_⟩:=fY b;simp
theorem wK{x:Str}{o:List (Str×Str)}{g:Str}{c:List (Str×List Row)}(h:rdL x=.inr (o,g,c)):AB o g c=x/\sS o/\aM g/\rF c:=by
 have n:=P2 x (tx [59,32]);unfold rdL at h
 split at h
 ·cases h
 ·rename_i p t b
  split at h
  ·cases h
  ·rename_i u m
   split at h
   ·cases h
   ·rename_i s q
    by_cases f:s.2=[]
    ·rw[if_pos f]at h;cases h
    ·rw[if_neg f]at h;cases h;obtain⟨rfl,j⟩:=pQ m;obtain⟨l,i⟩:=ny q;have a:=i ⟨⟨by simp,λ_ h=>nomatch h⟩,by simp,by simp,λ_ h=>nomatch h⟩;refine⟨?_,a.1,j,⟨af7.mpr f,a.2.1,a.2.2.1,λe h=>(a.2.2.2 e h).1⟩⟩;rw[<-n,b];unfold AB iG;rw[<-l];rfl
def mU:SpD:=λa M R=>∃d:D,a=[d,AV (rdD d)]/\aq d=true/\(∀x,d=.str x->x.length<=100000)/\R (.bl true) M
theorem rN(F:Fun K "_law_right" "_law_right" jv f O)(T:Txt J){l W I:E9}(Y:AQ K J l W I)(X:FnY P w K J base "read_lexicon" 9 1 eI [l])(Z:FnD P w K J base "show_lexicon" 4 1 eZ):aO P w K J base CX0 10 f O ["_law_text_here","_law_due_here"] (spD K 2 mU):=by
 have t:=lZ.nd;refine F.okR rfl lZ (λa0 A L s H E m=>⟨_,(aj (aU (i:=2) t rfl (O8 rfl) cp)
   (aj (Ag (j:=3) (λ_ _ h=>h) rfl rfl rfl rfl Y.gH Y.lC Y.lW t rfl rfl (z6 2 t rfl (O8 rfl) (xX (λ_ _ h=>h) am (yK X (m.mono (by decide)) rfl (λ_ _ h=>h) (aa (af 0) ag)))) λa=>(aj (aU (i:=2) t rfl (O8 rfl) (bF (aa am (aa (zW (Cs:=[l]) 0 rfl (Y.z _ (by simp)) Y.g0 (af 3)) ag))))
   (ao (bp (cJ (hV (Tn:="bool") (by decide) rfl T.b_isinstance rfl T.b_bool (by kernel_rfl) (zW (Cs:=[l]) 0 rfl (Y.z _ (by simp)) Y.g0 (af 3)))) (ao (aB Bb)) aR))))
   (ao (aB (bS (jc (cU m.units) (af 2) (af 1) nbh) (df (D3 (jc (cU m.units) (bj bh (af 1) ai (λ_ _=>rfl)) am nbh) (df (jc (cU m.units) (qd Z m (aa (bj bh (af 1) ai (λ_ _=>rfl)) ag)) (af 0) nbh))))))))),λds M R _ hS bk=>?_⟩)
 obtain⟨d,rfl,hd,hl,k⟩:=hS;refine bk ?_;clear bk;walk_at"";refine⟨d,rfl,hd,hl,λo p c N=>⟨λe=>?_,λi x e a B=>?_⟩,λo g G p=>⟨λ_=>?_,λi x e=>?_⟩⟩
 ·rw[qX]at e;cases e
 ·rw[qX]at e;cases e;have n:c≠a:=λz=>by rw[<-z,aw]at B;cases B
  have q:ay (ay M c (qL (J5 "part") c (oN o))) a (exY [l] 0 (some c) a) c=some (qL (J5 "part") c (oN o)):=by rw[aP n,aw]
  have S:LeM M (ay (ay M c (qL (J5 "part") c (oN o))) a (exY [l] 0 (some c) a)):=λb u e=>by
   have Q:b≠c:=λz=>by rw[z,N]at e;cases e
   have C:b≠a:=λz=>by rw[z]at e;rw[aP (T9 n)]at B;rw[B]at e;cases e
   rw[aP C,aP Q];exact e
  refine⟨c,rfl,oN o,q,sz3 2,c,rfl,oN o,q,false,by cases o<;>rfl,?_⟩;rw[if_neg (by decide)];refine⟨M,S,?_⟩;rw[p];refine⟨_,sV (ut (.inl o)),_,rfl,?_⟩;rw[if_pos rfl];refine⟨.str "none",rfl,.bl true,rfl,_,rfl,?_⟩;rw[if_pos rfl];exact k
 ·rw[p];refine⟨_,sV (ut (.inr (o,g,G))),_,rfl,?_⟩;rw[if_pos rfl];refine⟨.str "read",rfl,.bl false,by show eqF (.str "read") (.str "none")=_;rw[lL];rfl,_,rfl,?_⟩;rw[if_neg (by decide)];cases d with
  |str x =>
   obtain⟨Q,C,U,h4⟩:=wK p;refine⟨rj o g G,rfl,o,g,G,rfl,C,U,h4,?_⟩;rw[Q];refine⟨.bl true,?_,k⟩;show eqF (.str x) (.str x)=_;rw[lL,beq_self_eq_true]
  |_=>cases p
 ·cases e
theorem dU{xs:List Str}{B:Nat}(b:(xs.all λx=>decide (x.length<=B))=true){v:Int}(h0:0<=v)(c:v<(xs.length:Int)):∃x,ixD (.lst (xs.map .str)) (.int v)=some (.str x)/\x.length<=B:=by
 obtain⟨n,rfl⟩:=V6 h0;have a:n<xs.length:=by lia
 refine⟨xs[n],?_,by simpa using L4.mp b _ (Q0 a)⟩;rw[uh];exact cQ (by rw[K8,E6 a];rfl)
theorem kF{xs:List Int}{lo B:Int}(b:(xs.all λx=>decide (lo<=x)&&decide (x<=B))=true){v:Int}(h0:0<=v)(c:v<(xs.length:Int)):∃x,ixD (.lst (xs.map .int)) (.int v)=some (.int x)/\lo<=x/\x<=B:=by
 obtain⟨n,rfl⟩:=V6 h0;have a:n<xs.length:=by lia
 refine⟨xs[n],?_,by simpa using L4.mp b _ (Q0 a)⟩;rw[uh];exact cQ (by rw[K8,E6 a];rfl)
theorem rn{B n:Nat}{sep:Str}{ys:List Str}(h:∀y∈ys,y.length<=B)(hn:ys.length<=n)(hs:sep.length<=3)(a:n*B+n*3<=1000000):j5 sep (.lst (ys.map D.str))=some (.str (N5 sep ys))/\(N5 sep ys).length<=n*B+n*3:=⟨oz h hn hs (by lia),jQ h hn hs⟩
theorem Aa{y:Str}{v:Int}(h:0<=v):(aa0 y none (some v)).length<=v.toNat:=by
 obtain⟨n,rfl⟩:=V6 h;rw[jS y,iE,aA,P6];simp only[ab6]
 lia
theorem Aj{y:Str}{i:Int}(h:0<=i)(a:i<=(y.length:Int)):(aa0 y (some i) none).length<=y.length-i.toNat:=by
 rw[PyProof.Rows.slice_from_eq h a rfl,e9];simp only[List.toList_toArray,P6]
 lia
def pB:SpD:=λa M R=>∃(p:E9) (l:List D),a=[.ref p]/\M p=some (.lst l)/\bx l/\∀(x:Str) l',x.length<=109->bx l'->R (.str x) (ay M p (.lst l'))
theorem vd(F:Fun K "_law_sign" "_law_sign" mn f O)(T:Txt J)(j:FnD P w K J base "_law_draw" 1 2 eY):aO P w K J base CX0 2 f O ["_law_pool_here"] (spD K 1 pB):=by
 have x:=nG.nd;refine F.okR rfl nG (λS A q s H E n=>⟨_,(aj (aU (i:=1) x rfl (O8 rfl) (bj bh (cn (aa am (aa am (aa am (aa am (aa am ag)))))) (qd j n (aa (af 0) (aa ai ag))) (λ_ _=>rfl)))
   (aj (aU (i:=2) x rfl (O8 rfl) (qd j n (aa (af 0) (aa ai ag))))
   (aj (bp (aD xn (af 2) ai nbh) (ao (aB (aJ aI (af 1) (bj bh (cn (aa (aJ aI am (aJ eE am ai)) (aa (aJ aI am (aJ eE am ai)) ag))) (af 2) (λ_ _=>rfl))))) aR)
   (ao (aB (aJ aI (af 1) (bj bh (cn (aa am (aa am (aa am (aa am (aa am (aa am (aa am ag)))))))) (qd j n (aa (af 0) (aa ai ag))) (λ_ _=>rfl)))))))),λds M R _ I bk=>?_⟩)
 obtain⟨p,l,rfl,Q,L,k⟩:=I;refine bk ?_;clear bk;walk_at"";rw[s_r,s_l,tH];refine⟨sz3 5,p,l,5,rfl,Q,L,by lia,by lia,λv e Y C t=>?_⟩;obtain⟨m,N,hm⟩:=dU (xs:=["a","b","goal","abcdefgh","n"]) (B:=8) (by decide +kernel) Y C;refine⟨_,N,p,e,48,rfl,aw,t,by lia,by lia,λw c b0 b1 a=>?_⟩;rw[aQ];walk_at"";refine aV (λh=>?_) (λh=>⟨sz3 7,p,c,7,rfl,aw,a,by lia,by lia,λu l3 U z g=>?_⟩)
 ·have e:(tx [46]++tx (E5 99 114)).length=100:=by rw[aF,aA,aA,N6];rfl
  have c:(tx [46]++tx (E5 100 108)).length=101:=by rw[aF,aA,aA,N6];rfl
  refine⟨_,oU (by lia) (by lia),_,cR (b:=tx (E5 99 114)) (by rw[aA,aA,N6];decide),_,oU (by lia) (by lia),_,cR (b:=tx (E5 100 108)) (by rw[aA,aA,N6];decide),sz3 2,?_⟩;have G:w=0∨w=1:=by lia
  rcases G with rfl|rfl
  ·refine⟨_,rfl,_,cR (b:=tx [46]++tx (E5 99 114)) (by rw[e];lia),k _ _ (by rw[aF,e];lia) a⟩
  ·refine⟨_,rfl,_,cR (b:=tx [46]++tx (E5 100 108)) (by rw[c];lia),k _ _ (by rw[aF,c];lia) a⟩
 ·rw[aQ];obtain⟨X,o,Z⟩:=dU (xs:=["","","",".r",".l",".rr",".ll"]) (B:=3) (by decide +kernel) U z;exact⟨_,o,_,cR (b:=X) (by lia),k _ _ (by rw[aF];lia) g⟩
def tO:SpD:=λa M R=>∃(p:E9) (l:List D),a=[.ref p]/\M p=some (.lst l)/\bx l/\∀(x:Str) l',x.length<=680->bx l'->R (.str x) (ay M p (.lst l'))
theorem xJ(F:Fun K "_law_row" "_law_row" kG f O)(T:Txt J)(q:FnD P w K J base "_law_draw" 1 2 eY)(Y0:FnD P w K J base "_law_sign" 2 1 pB):aO P w K J base CX0 3 f O ["_law_pool_here"] (spD K 1 tO):=by
 have nd:=pG.nd;refine F.okR rfl pG (λa2 A L s H E g=>⟨_,(aj (bp (aD (cU g.units) (qd q g (aa (af 0) (aa ai ag))) ai nbh) (ao (aB am)) aR)
   (ao (aB (jI am (gj (ms:=[true]) (ar:=["_law_k"]) (aG rfl (show aY (ah kG) oQ _ _=true from by decide +kernel)) rfl (kE rfl T.b_range (aa (aJ aI ai (qd q g (aa (af 0) (aa (bj bh (cn (aa ai (aa ai (aa ai ag)))) (qd q g (aa (af 0) (aa ai ag))) (λ_ _=>rfl)) ag)))) ag)) (aS (i:=1) (show(oQ++_).Nodup from by decide +kernel) rfl rfl) (λ_ _ _ _=>bH) (λ_ _ _ _=>(qd Y0 g (aa (af 0) ag)))))))),λds M R _ U bk=>?_⟩)
 obtain⟨p,l,rfl,hM,Y,k⟩:=U;refine bk ?_;clear bk;walk_at"";refine⟨p,l,6,rfl,hM,Y,by lia,by lia,λv l1 a0 a1 j=>⟨_,rfl,?_⟩⟩;refine⟨_,rfl,aV (λ_=>k _ _ (by decide +kernel) j) (λ_=>⟨sz3 3,p,l1,3,rfl,aw,j,by lia,by lia,λw l2 b0 b1 N=>?_⟩)⟩;rw[aQ];obtain⟨n,S,Q,Z⟩:=kF (xs:=[2,3,6]) (lo:=2) (B:=6) (by decide) b0 b1;refine⟨_,S,p,l2,n,rfl,aw,N,by lia,by lia,λu l3 c0 c1 o=>⟨.int (1+u),rfl,_,rfl,by lia,by lia,by rw[dB];exact L5 (by lia:_<=1000) (sz3 1000),?_⟩⟩;rw[aQ];refine qP (λi a m z=>∃(I:Option D) (e:List D) (c:List Str),m=[some (D.ref p),I]/\z=ay M p (.lst e)/\bx e/\a=c.map D.str/\c.length=i/\∀y∈c,y.length<=109) ⟨none,l3,[],rfl,rfl,o,rfl,rfl,λ_ h=>nomatch h⟩ ?_ ?_
 ·rintro i d a m z X hd ⟨I,e,c,rfl,rfl,b,rfl,C,t⟩ k';obtain⟨hi,rfl⟩:=eF hd;refine⟨_,rfl,?_⟩;simp only[yd];walk_at"";refine⟨p,e,rfl,aw,b,λx l5 hx G=>?_⟩;rw[aQ];exact k' _ _ _ ⟨_,l5,c++[x],rfl,rfl,G,by rw[N4];rfl,by rw[E8,C];rfl,gE t hx⟩
 ·rintro a m z ⟨I,e,c,rfl,rfl,b,rfl,C,t⟩;rw[dB]at C;obtain⟨e1,e2⟩:=rn (sep:=J5 " ") (n:=6) t (by lia) (by decide +kernel) (by decide);exact⟨_,e1,k _ _ (by lia) b⟩
def nh:SpD:=λa M R=>∃(p:E9) (l:List D),a=[.ref p]/\M p=some (.lst l)/\bx l/\∀(x:Str) l',x.length<=3500->bx l'->R (.str x) (ay M p (.lst l'))
theorem rH(F:Fun K "_law_entry" "_law_entry" gZ f O)(T:Txt J)(t:FnD P w K J base "_law_draw" 1 2 eY)(Y2:FnD P w K J base "_law_row" 3 1 tO):aO P w K J base CX0 4 f O ["_law_pool_here"] (spD K 1 nh):=by
 have nd:=lF.nd;refine F.okR rfl lF (λa3 A S s H E j=>⟨_,(aj (aU (i:=1) nd rfl (O8 rfl) (bj bh (cn (aa am (aa am (aa am (aa am (aa am (aa am (aa am (aa am (aa am (aa am (aa am (aa am (aa am (aa am ag))))))))))))))) (qd t j (aa (af 0) (aa ai ag))) (λ_ _=>rfl)))
   (ao (aB (aJ aI (aJ aI (af 1) am) (jI am (gj (ms:=[true,false]) (ar:=["_law_k"]) (aG rfl (show aY (ah gZ) jD _ _=true from by decide +kernel)) rfl (kE rfl T.b_range (aa (aJ aI ai (qd t j (aa (af 0) (aa (bj bh (cn (aa ai (aa ai ag))) (qd t j (aa (af 0) (aa ai ag))) (λ_ _=>rfl)) ag)))) ag)) (aS (i:=2) (show(jD++_).Nodup from by decide +kernel) rfl rfl) (λ_ _ _ _=>bH) (λ_ _ _ _=>(qd Y2 j (aa (af 0) ag))))))))),λds M R _ hS bk=>?_⟩)
 obtain⟨p,l,rfl,hM,hP,k⟩:=hS;refine bk ?_;clear bk;walk_at"";refine⟨sz3 14,p,l,14,rfl,hM,hP,by lia,by lia,λv l1 a0 a1 U=>?_⟩;obtain⟨m,em,hm⟩:=dU (xs:=["a","it","goal","is","abcdefgh","runs","and","c","d","e","f","g","h","i"]) (B:=8) (by decide +kernel) a0 a1;have C:(J5 ": ").length=2:=by decide +kernel
 refine⟨_,em,_,cR (a:=m) (by rw[C];lia),sz3 2,p,l1,2,rfl,aw,U,by lia,by lia,λw l2 b0 b1 Y=>?_⟩;rw[aQ];obtain⟨n,en,Z,a2⟩:=kF (xs:=[2,5]) (lo:=2) (B:=5) (by decide) b0 b1;refine⟨_,en,p,l2,n,rfl,aw,Y,by lia,by lia,λu l3 c0 c1 q=>⟨.int (1+u),rfl,_,rfl,by lia,by lia,by rw[dB];exact L5 (by lia:_<=1000) (sz3 1000),?_⟩⟩;rw[aQ];refine qP (λi b o G=>∃(Q N:Option D) (g:List D) (e:List Str),o=[some (D.ref p),Q,N]/\G=ay M p (.lst g)/\bx g/\b=e.map D.str/\e.length=i/\∀y∈e,y.length<=680) ⟨none,none,l3,[],rfl,rfl,q,rfl,rfl,λ_ h=>nomatch h⟩ ?_ ?_
 ·rintro i d b o G X hd ⟨Q,N,g,e,rfl,rfl,c,rfl,I,z⟩ k';obtain⟨hi,rfl⟩:=eF hd;refine⟨_,rfl,?_⟩;simp only[yd];walk_at"";refine⟨p,g,rfl,aw,c,λx l5 hx L=>?_⟩;rw[aQ];exact k' _ _ _ ⟨_,_,l5,e++[x],rfl,rfl,L,by rw[N4];rfl,by rw[E8,I];rfl,gE z hx⟩
 ·rintro b o G ⟨Q,N,g,e,rfl,rfl,c,rfl,I,z⟩;rw[dB]at I;obtain⟨e1,e2⟩:=rn (sep:=J5 " | ") (n:=5) z (by lia) (by decide +kernel) (by decide);refine⟨_,e1,_,cR (a:=m++J5 ": ") (by rw[aF,C];lia),k _ _ ?_ c⟩;rw[aF,aF,C];lia
def qC:SpD:=λa M R=>∃(p:E9) (l:List D) (y:Str),a=[.ref p,.str y]/\M p=some (.lst l)/\bx l/\y.length<=3500/\∀(x:Str) l',x.length<=3510->bx l'->R (.str x) (ay M p (.lst l'))
theorem vb(F:Fun K "_law_bent" "_law_bent" lK f O)(T:Txt J)(e:FnD P w K J base "_law_draw" 1 2 eY):aO P w K J base CX0 2 f O ["_law_pool_here","_law_part"] (spD K 2 qC):=by
 have h:=nv.nd;refine F.okR rfl nv (λG A j s H E g=>⟨_,(aj (aU (i:=2) h rfl (O8 rfl) (cn (aa am (aa am (aa am (aa am (aa am (aa am (aa am (aa am (aa am (aa am (aa am (aa am (aa am (aa am (aa am (aa am (aa am (aa am ag))))))))))))))))))))
   (aj (aU (i:=3) h rfl (O8 rfl) (qd e g (aa (af 0) (aa (aJ aI (aC bE rfl T.b_len (by kernel_rfl) (aa (af 1) ag)) ai) ag))))
   (aj (aU (i:=4) h rfl (O8 rfl) (bj bh (af 2) (qd e g (aa (af 0) (aa (aC bE rfl T.b_len (by kernel_rfl) (aa (af 2) ag)) ag))) (λ_ _=>rfl)))
   (ao (aB (aJ aI (aJ aI (bb (af 1) bO (bw (af 3))) (af 4)) (bb (af 1) (bw (aJ aI (af 3) (qd e g (aa (af 0) (aa ai ag))))) bO))))))),λds M R _ q bk=>?_⟩)
 obtain⟨p,l,y,rfl,C,t,hy,k⟩:=q;refine bk ?_;clear bk;have sl:=λlo U=>al9 y lo U;walk_at"";refine⟨sz3 18,_,if_pos (szB _ (by lia)),.int ((y.length:Int)+1),rfl,p,l,_,rfl,C,t,by lia,by lia,λv S N Y n=>⟨p,S,18,rfl,aw,n,by lia,by lia,λw L x I o=>?_⟩⟩;rw[aQ];obtain⟨m,z,hm⟩:=dU (xs:=[""," ",".",";",":","<","|","A","1","r","l","a"," < ",": "," | ","goal ",".r","\n"]) (B:=5) (by decide +kernel) x I;have s1:=Aa (y:=y) N;refine⟨_,z,v,rfl,_,if_pos (szB _ (by lia)),_,cR (b:=m) (by lia),p,L,3,rfl,aw,o,by lia,by lia,λu l3 c0 X c=>?_⟩;rw[aQ];have Z:(aa0 y (some (v+u)) none).length<=y.length-v.toNat:=by
  by_cases Q:v+u<=(y.length:Int)
  ·have:=Aj (y:=y) (i:=v+u) (by lia) Q
   lia
  ·rw[PyProof.Rows.slice_from_beyond (by lia)];exact O2 _
 refine⟨.int (v+u),rfl,_,rfl,_,if_pos (szB _ (by lia)),_,cR (a:=aa0 y none (some v)++m) (by rw[aF];lia),k _ _ (by rw[aF,aF];lia) c⟩
def ko(ys:List Str)(a b:Option Int):List Str:=(ys.drop (HT.sIx ys.length 0 a)).take (HT.sIx ys.length ys.length b-HT.sIx ys.length 0 a)
theorem xg{ys:List Str}{a b:Option Int}:L2.dI (ys.map D.str) a b=(ko ys a b).map D.str:=by
 unfold L2.dI ko;rw[E4,List.map_take,List.map_drop]
theorem vT{ys:List Str}{a b:Option Int}{y:Str}(h:y∈ko ys a b):y∈ys:=List.mem_of_mem_drop (List.mem_of_mem_take h)
theorem gN{ys:List Str}{a b:Option Int}:(ko ys a b).length<=HT.sIx ys.length ys.length b-HT.sIx ys.length 0 a:=by
 unfold ko;rw[P6]
 lia
def Pts(n:Nat)(ys:List Str):Prop:=ys.length<=n/\ys≠[]/\∀y∈ys,y.length<=3500
theorem Pts.add{n:Nat}{ys:List Str}{x:Str}(h:Pts n ys)(a:x.length<=3500):Pts (n+1) (ys++[x]):=⟨by rw[E8];have:=h.1;simp only[F4,N1];lia,by simp,gE h.2.2 a⟩
theorem Pts.mono{n m:Nat}{ys:List Str}(h:Pts n ys)(a:n<=m):Pts m ys:=⟨L5 h.1 a,h.2⟩
theorem yl{n i:Nat}(h:i<n):ixN n (i:Int)=some i:=by simp[ixN]<;>lia
def ix(n:Nat)(ys:List Str):Prop:=ys.length<=n/\∀y∈ys,y.length<=3510
theorem ix.cut{n m:Nat}{ys:List Str}{a b:Option Int}(h:ix n ys)(c:(ko ys a b).length<=m):ix m (ko ys a b):=⟨c,λy e=>h.2 y (vT e)⟩
theorem ix.app{n m k:Nat}{ys a:List Str}(h:ix n ys)(e:ix m a)(b:ys.length+a.length<=k):ix k (ys++a):=⟨by rw[E8];exact b,λy c=>(P7.mp c).elim (h.2 y) (e.2 y)⟩
theorem zP{a b:List Str}(h:a.length+b.length<=1000):mK (.lst (a.map D.str)) (.lst (b.map D.str))=some (.lst ((a++b).map D.str)):=by
 rw[um,if_pos (by rw[E4,E4];exact L5 h (sz3 1000)),N4]
theorem vO{W:List (List Str)}{v:Int}(h0:0<=v)(b:v<(W.length:Int)):∃w∈W,ixD (.lst (W.map λw=>D.lst (w.map D.str))) (.int v)=some (.lst (w.map D.str)):=by
 obtain⟨n,rfl⟩:=V6 h0;have a:n<W.length:=by lia
 refine⟨W[n],Q0 a,?_⟩;rw[uh];exact cQ (by rw[K8,E6 a];rfl)
def qK:SpD:=λa M R=>∃c:Int,a=[.int c]/\∀x:Str,x.length<=100000->R (.str x) M
theorem uD(F:Fun K "_law_text" "_law_text" mf f O)(T:Txt J)(c4:FnD P w K J base "_law_pool" 1 1 qf)(G0:FnD P w K J base "_law_draw" 1 2 eY)(G6:FnD P w K J base "_law_entry" 4 1 nh)(d4:FnD P w K J base "_law_bent" 2 2 qC):aO P w K J base CX0 5 f O ["_law_cell"] (spD K 1 qK):=by
 have nd:=mW.nd;refine F.okR rfl mW (λd' A b' s H E N=>⟨_,(aj (aU (i:=1) nd rfl (O8 rfl) (qd c4 N (aa (af 0) ag)))
   (aj (aU (i:=2) nd rfl (O8 rfl) (lJ (aa (aJ aI am (bj bh (cn (aa am (aa am (aa am (aa am ag))))) (qd G0 N (aa (af 1) (aa ai ag))) (λ_ _=>rfl))) ag)))
   (aj (qI ah4 rfl (kE rfl T.b_range (aa (bj bh (cn (aa ai (aa ai (aa ai (aa ai (aa ai (aa ai ag))))))) (qd G0 N (aa (af 1) (aa ai ag))) (λ_ _=>rfl)) ag)) (a6 (i:=3) nd rfl (O8 rfl)) (ao (jN (nq (af 2) (aJ aI (aJ aI (bj bh (cn (aa am (aa am (aa am ag)))) (qd G0 N (aa (af 1) (aa ai ag))) (λ_ _=>rfl)) am) (bj bh (cn (aa am (aa am (aa am ag)))) (qd G0 N (aa (af 1) (aa ai ag))) (λ_ _=>rfl)))))))
   (aj (qI ah4 rfl (kE rfl T.b_range (aa (bj bh (cn (aa ai (aa ai (aa ai (aa ai (aa ai (aa ai (aa ai (aa ai ag))))))))) (qd G0 N (aa (af 1) (aa ai ag))) (λ_ _=>rfl)) ag)) (a6 (i:=3) nd rfl (O8 rfl)) (ao (jN (nq (af 2) (qd G6 N (aa (af 1) ag))))))
   (aj (bp (aD (cU N.units) (qd G0 N (aa (af 1) (aa ai ag))) ai nbh) (ao (jN (nq (af 2) am))) aR)
   (aj (aU (i:=4) nd rfl (O8 rfl) (qd G0 N (aa (af 1) (aa ai ag))))
   (aj (aU (i:=5) nd rfl (O8 rfl) (qd G0 N (aa (af 1) (aa (aC bE rfl T.b_len (by kernel_rfl) (aa (af 2) ag)) ag))))
   (aj (bp (aD (cU N.units) (af 4) ai nbh) (ao (tV (af 2) (af 5) (qd d4 N (aa (af 1) (aa (bj bh (af 2) (af 5) (λ_ _=>rfl)) ag))))) aR)
   (zb 2 (aj (bp (aD (cU N.units) (af 4) ai nbh) (aj (aU (i:=6) nd rfl (O8 rfl) (lJ (aa (af 2) (aa (aJ aI (bb (af 2) bO (bw (af 5))) (bb (af 2) (bw (aJ aI (af 5) ai)) bO)) (aa (aJ aI (aJ aI (bb (af 2) (bw ai) (bw (aJ aI (af 5) ai))) (bb (af 2) bO (bw ai))) (bb (af 2) (bw (aJ aI (af 5) ai)) bO)) ag)))))
   (aj (jN (nq (af 6) (aJ aI (aJ aI (bb (af 2) bO (bw (af 5))) (bb (af 2) bO (bw ai))) (bb (af 2) (bw (af 5)) bO))))
   (ao (aU (i:=2) nd rfl (O8 rfl) (bj bh (af 6) (qd G0 N (aa (af 1) (aa ai ag))) (λ_ _=>rfl)))))) aR)
   (ao (ou (jI (bj bh (cn (aa am (aa am (aa am (aa am (aa am (aa am (aa am (aa am (aa am (aa am ag))))))))))) (qd G0 N (aa (af 1) (aa ai ag))) (λ_ _=>rfl)) (af 2)))))))))))))),λds M R _ hS bk=>?_⟩)
 obtain⟨c,rfl,k⟩:=hS;refine bk ?_;clear bk;walk_at"";refine⟨_,rfl,λp l hp hP=>?_⟩;refine⟨sz3 4,p,l,4,rfl,aw,hP,by lia,by lia,λv l1 a0 a1 d3=>?_⟩;rw[aQ];obtain⟨m,em,hm⟩:=dU (xs:=["a","b","goal","n"]) (B:=4) (by decide +kernel) a0 a1;have b2:(J5 "goal ").length=5:=by decide +kernel
 have h3:(J5 " < ").length=3:=by decide +kernel
 refine⟨_,em,_,cR (b:=m) (by rw[b2];lia),sz3 1,λq hq=>?_⟩;have a4:q≠p:=by rintro rfl;rw[aw]at hq;cases hq
 have c':M q=none:=by rw[aP a4]at hq;exact hq
 have c1:∀l4 l5 ds,ay (ay (ay M p (.lst l4)) q (.lst ds)) p (.lst l5)=ay (ay M p (.lst l5)) q (.lst ds):=λl4 l5 ds=>by rw[<-nO (T9 a4),aQ]
 have c2:∀l4 ds,ay (ay M p (.lst l4)) q (.lst ds) p=some (.lst l4):=λl4 ds=>by rw[aP (T9 a4),aw]
 refine⟨sz3 6,p,l1,6,rfl,c2 _ _,d3,by lia,by lia,λv2 l2 b0 b1 c6=>?_⟩;rw[c1];obtain⟨n1,c3,e3,d9⟩:=kF (xs:=[0,1,2,8,9,10]) (lo:=0) (B:=10) (by decide) b0 b1;refine⟨_,c3,n1,rfl,by lia,by lia,?_⟩;refine eL (λi Δ M'=>∃(U:Option D) (g:List D) (C:List Str),Δ=[some (D.int c),some (D.ref p),some (D.ref q),U,none,none,none]/\M'=ay (ay M p (.lst g)) q (.lst (C.map D.str))/\bx g/\Pts (i+1) C)
  ⟨_,l2,[J5 "goal "++m],rfl,rfl,c6,by simp,by simp,λy hy=>by rw[F5.mp hy,aF,b2];lia⟩ ?_ ?_
 ·intro i d Δ M' X hd hI k';refine shr λ_ bk=>?_;obtain⟨U,g,C,rfl,rfl,j,t⟩:=hI;refine bk ?_;clear bk;obtain⟨hi,rfl⟩:=eF hd;simp only[cH];walk_at"";refine⟨sz3 3,p,g,3,rfl,c2 _ _,j,by lia,by lia,λu l7 d0 d1 a8=>?_⟩;rw[c1];obtain⟨m1,c0,e0⟩:=dU (xs:=["a","b","n"]) (B:=1) (by decide +kernel) d0 d1;refine⟨_,c0,_,cR (a:=m1) (by rw[h3];lia),sz3 3,p,l7,3,rfl,c2 _ _,a8,by lia,by lia,λu2 Y f0 f1 G=>?_⟩;rw[c1];obtain⟨m2,b9,e4⟩:=dU (xs:=["a","b","goal"]) (B:=4) (by decide +kernel) f0 f1;have a':=t.1;refine⟨_,b9,_,cR (a:=m1++J5 " < ") (b:=m2) (by rw[aF,h3];lia),_,aw,by rw[E4];exact J0 (by lia:_<1000) (sz3 1000),k' _ _ ?_⟩;rw[aQ];exact⟨_,Y,C++[m1++J5 " < "++m2],rfl,by rw[N4];rfl,G,t.add (by rw[aF,aF,h3];lia)⟩
 ·intro Δ M' hI;refine shr λ_ bk=>?_;obtain⟨U,g,C,rfl,rfl,j,t⟩:=hI;refine bk ?_;clear bk;rw[dB]at t;have b5:=t.mono (by lia:n1.toNat+1<=11);walk_at"";refine⟨sz3 8,p,g,8,rfl,c2 _ _,j,by lia,by lia,λu l7 d0 d1 a8=>?_⟩;rw[c1];obtain⟨n2,c5,d5,d6⟩:=kF (xs:=[0,1,2,3,4,10,11,12]) (lo:=0) (B:=12) (by decide) d0 d1;refine⟨_,c5,n2,rfl,by lia,by lia,?_⟩;refine eL (λi Δ M'=>∃(U:Option D) (g:List D) (C:List Str),Δ=[some (D.int c),some (D.ref p),some (D.ref q),U,none,none,none]/\M'=ay (ay M p (.lst g)) q (.lst (C.map D.str))/\bx g/\Pts (i+11) C)
   ⟨_,l7,C,rfl,rfl,a8,b5.mono (by lia)⟩ ?_ ?_
  ·intro i d Δ M' X hd hI k';refine shr λ_ bk=>?_;obtain⟨U,g,C,rfl,rfl,j,t⟩:=hI;refine bk ?_;clear bk;obtain⟨hi,rfl⟩:=eF hd;simp only[cH];walk_at"";have a':=t.1;refine⟨p,g,rfl,c2 _ _,j,λx Y hx G=>?_⟩;rw[c1];refine⟨_,aw,by rw[E4];exact J0 (by lia:_<1000) (sz3 1000),k' _ _ ?_⟩;rw[aQ];exact⟨_,Y,C++[x],rfl,by rw[N4];rfl,G,(t.add (by lia)).mono (by lia)⟩
  ·intro Δ M' hI;refine shr λ_ bk=>?_;obtain⟨U,g,C,rfl,rfl,j,t⟩:=hI;refine bk ?_;clear bk;rw[dB]at t;have a2:=t.mono (by lia:n2.toNat+11<=23);dsimp only;refine kY (λQ M3=>∃(U:Option D) (g:List D) (C:List Str),Q=[some (D.int c),some (D.ref p),some (D.ref q),U,none,none,none]/\M3=ay (ay M p (.lst g)) q (.lst (C.map D.str))/\bx g/\Pts 24 C) (λnx I=>?_) ?_
   ·walk_at"";refine⟨p,g,8,rfl,c2 _ _,j,by lia,by lia,λu2 Y f0 f1 G=>⟨_,rfl,_,rfl,?_⟩⟩;rw[c1];have a':=a2.1;refine aV (λ_=>?_) (λ_=>I _ _ ⟨_,Y,C,rfl,rfl,G,a2.mono (by lia)⟩);refine⟨_,aw,_,aw,by rw[E4];exact J0 (by lia:_<1000) (sz3 1000),I _ _ ?_⟩;rw[aQ];exact⟨_,Y,C++[J5 "a < b"],rfl,by rw[N4];rfl,G,a2.add (by decide +kernel)⟩
   rintro _ _ ⟨U,g,C,rfl,rfl,j,t⟩;refine kY (λQ M3=>∃(w:Int) (g:List D),Q=[some (D.int c),some (D.ref p),some (D.ref q),U,some (D.int w),none,none]/\M3=ay (ay M p (.lst g)) q (.lst (C.map D.str))/\bx g) (λnx I=>?_) ?_
   ·walk_at"";refine⟨p,g,3,rfl,c2 _ _,j,by lia,by lia,λu2 Y f0 f1 G=>?_⟩;rw[c1];exact I _ _ ⟨u2,Y,rfl,rfl,G⟩
   rintro _ _ ⟨w,g,rfl,rfl,j⟩;have a':=t.1;have d7:1<=C.length:=af7.mpr t.2.1;refine kY (λQ M3=>∃(b:Nat) (g:List D),b<C.length/\Q=[some (D.int c),some (D.ref p),some (D.ref q),U,some (D.int w),some (D.int (b:Int)),none]/\M3=ay (ay M p (.lst g)) q (.lst (C.map D.str))/\bx g) (λnx I=>?_) ?_
   ·walk_at"";refine⟨p,g,(C.length:Int),by rw[E4],c2 _ _,j,by lia,by lia,λu2 Y f0 f1 G=>?_⟩;rw[c1];obtain⟨b,rfl⟩:=V6 f0;exact I _ _ ⟨b,Y,by lia,rfl,rfl,G⟩
   rintro _ _ ⟨b,g,hb,rfl,rfl,j⟩;refine kY (λQ M3=>∃(L:List Str) (g:List D),b<L.length/\ix 24 L/\Q=[some (D.int c),some (D.ref p),some (D.ref q),U,some (D.int w),some (D.int (b:Int)),none]/\M3=ay (ay M p (.lst g)) q (.lst (L.map D.str))/\bx g) (λnx I=>?_) ?_
   ·walk_at"";have hq:ix 24 C:=⟨t.1,λy hy=>L5 (t.2.2 y hy) (by decide)⟩;refine aV (λ_=>⟨_,cQ (by rw[K8,E6 hb];rfl),p,g,C[b],rfl,c2 _ _,j,t.2.2 _ (Q0 hb),λx Y hx G=>?_⟩) (λ_=>I _ _ ⟨C,g,hb,hq,rfl,rfl,j⟩);rw[c1];refine⟨_,aw,b,yl (by rw[E4];exact hb),I _ _ ⟨C.set b x,Y,by rw[List.length_set];exact hb,⟨by rw[List.length_set];exact t.1,λy hy=>?_⟩,rfl,by rw[aQ,List.map_set],G⟩⟩;rcases List.mem_or_eq_of_mem_set hy with h|rfl
    ·exact hq.2 y h
    ·exact hx
   rintro _ _ ⟨L,g,hb,S,rfl,rfl,j⟩;simp only[rO];refine⟨q,L.map D.str,rfl,aw,?_⟩;have a5:lP (ay (ay M p (.lst g)) q (.lst (L.map D.str))) q p=some (.lst g):=by rw[tu (T9 a4)];exact c2 _ _
   have Z:LeM M (lP (ay (ay M p (.lst g)) q (.lst (L.map D.str))) q):=λa o e=>by
    have h1:a≠p:=λz=>by rw[z,hp]at e;cases e
    have h2:a≠q:=λz=>by rw[z,c']at e;cases e
    rw[tu h2,aP h2,aP h1];exact e
   generalize lP (ay (ay M p (.lst g)) q (.lst (L.map D.str))) q=M5 at a5 Z ⊢;refine kY (λQ M3=>∃(us:List Str) (U x4 x5 x6:Option D) (g:List D),ix 25 us/\Q=[some (D.int c),some (D.ref p),some (D.lst (us.map D.str)),U,x4,x5,x6]/\M3 p=some (.lst g)/\bx g/\LeM M M3) (λnx I=>?_) ?_
   ·walk_at"";refine aV (λ_=>?_) (λ_=>I _ _ ⟨L,_,_,_,_,g,⟨by have:=S.1;lia,S.2⟩,rfl,a5,j,Z⟩);have b8:((b:Int)+1)=((b+1:Nat):Int):=by lia
    have d8:=S.1;simp only[xg];rw[b8];have q1:=gN (ys:=L) (a:=none) (b:=some ((b:Nat):Int));have q2:=gN (ys:=L) (a:=some ((b+1:Nat):Int)) (b:=none);have q3:=gN (ys:=L) (a:=some ((1:Nat):Int)) (b:=some ((b+1:Nat):Int));have q4:=gN (ys:=L) (a:=none) (b:=some ((1:Nat):Int));have q5:=gN (ys:=L) (a:=some ((b:Nat):Int)) (b:=none);rw[HT.sIx_none,HT.sIx_nat]at q1 q2 q4 q5;rw[HT.sIx_nat,HT.sIx_nat]at q3;rw[show((1:Nat):Int)=1 from rfl]at q3 q4;generalize g1:ko L none (some ((b:Nat):Int))=A1 at q1 ⊢;generalize g2:ko L (some ((b+1:Nat):Int)) none=A2 at q2 ⊢;generalize g3:ko L (some 1) (some ((b+1:Nat):Int))=A3 at q3 ⊢;generalize g4:ko L none (some 1)=A4 at q4 ⊢;generalize g5:ko L (some ((b:Nat):Int)) none=A5 at q5 ⊢;have w1:ix 25 A1:=by rw[<-g1];exact S.cut (by rw[g1];lia)
    have w2:ix 25 A2:=by rw[<-g2];exact S.cut (by rw[g2];lia)
    have w3:ix 25 A3:=by rw[<-g3];exact S.cut (by rw[g3];lia)
    have w4:ix 25 A4:=by rw[<-g4];exact S.cut (by rw[g4];lia)
    have w5:ix 25 A5:=by rw[<-g5];exact S.cut (by rw[g5];lia)
    clear g1 g2 g3 g4 g5;simp only[E4,<-N4];refine⟨_,if_pos (L5 (by lia:_<=1000) (sz3 1000)),_,if_pos (L5 (by lia:_<=1000) (sz3 1000)),_,zP (a:=A3++A4) (by rw[E8];lia),sz3 3,λr N=>⟨_,if_pos (L5 (by lia:_<=1000) (sz3 1000)),_,zP (a:=A1++A4) (by rw[E8];lia),J0 (by decide:3<1000) (sz3 1000),?_⟩⟩;have b3:p≠r:=λz=>by rw[<-z,a5]at N;cases N
    refine⟨p,g,4,rfl,by rw[aP b3];exact a5,j,by lia,by lia,λu Y f0 f1 G=>?_⟩;have er:rdM (ay (ay M5 r (.lst ([L,A1++A2,A3++A4++A2,A1++A4++A5].map λw=>D.lst (w.map D.str)))) p (.lst Y)) (.ref r)=.lst ([L,A1++A2,A3++A4++A2,A1++A4++A5].map λw=>D.lst (w.map D.str)):=fA (by rw[aP (T9 b3),aw]);obtain⟨us,a3,eu⟩:=vO (W:=[L,A1++A2,A3++A4++A2,A1++A4++A5]) f0 f1;refine⟨_,(show ixD (rdM _ (.ref r)) (.int u)=some (.lst (us.map D.str))from ?_),I _ _ ⟨us,_,_,_,_,Y,?_,rfl,aw,G,?_⟩⟩
    ·exact(congrArg (λz=>ixD z (.int u)) er).trans eu
    ·simp only[F8,Z6,or_false]at a3;rcases a3 with rfl|rfl|rfl|rfl
     ·exact⟨by lia,S.2⟩
     ·exact w1.app w2 (by lia)
     ·exact(w3.app w4 (F3 _)).app w2 (by rw[E8];lia)
     ·exact(w1.app w4 (F3 _)).app w5 (by rw[E8];lia)
    ·intro a o e;have h1:a≠p:=λz=>by rw[z,hp]at e;cases e
     have h2:a≠r:=λz=>by have:=Z a o e;rw[z,N]at this;cases this
     rw[aP h1,aP h2];exact Z a o e
   rintro _ M6 ⟨us,U,x4,x5,x6,g,a3,rfl,d2,j,b4⟩;walk_at"";refine⟨sz3 10,p,g,10,rfl,d2,j,by lia,by lia,λu Y f0 f1 G=>?_⟩;obtain⟨a9,es,hs⟩:=dU (xs:=["; ","; ","; ","; ","; ","; ","; ",";"," ; ",", "]) (B:=3) (by decide +kernel) f0 f1;obtain⟨e1,e2⟩:=rn (sep:=a9) (n:=25) a3.2 a3.1 hs (by decide);refine⟨_,es,a9,rfl,_,e1,M,λa o e=>?_,k _ (by lia)⟩;have h1:a≠p:=λz=>by rw[z,hp]at e;cases e
   rw[aP h1];exact b4 a o e
theorem AS{e:Type}(l:List e):ve (.lst (l.map λ_=>D.bl true))=some (.bl true):=by
 have b:(l.map λ_=>D.bl true).all wu=true:=by
  rw[L4];intro d a;obtain⟨_,_,rfl⟩:=J3.mp a;rfl
 have c:(l.map λ_=>D.bl true).all uP=true:=by
  rw[L4];intro d a;obtain⟨_,_,rfl⟩:=J3.mp a;rfl
 simp only[ve,b,c,if_true]
def S_law:SpD:=λc M R=>∃a:List Int,c=[.scr (a.map .int)]/\M=noM/\a.length<=63/\∀b,R (.bl true) b
theorem Ar(F:Fun K "law" "law" uo f O)(T:Txt J)(B:FnD P w K J base "_law_text" 5 1 qK)(b:FnD P w K J base "_law_right" 10 2 mU)(m:FnD P w K J base "_law_due" 5 1 tD):aO P w K J base CX0 11 f O ["_law_script"] (spD K 1 S_law):=by
 have G:=xP.nd;refine F.okR rfl xP (λY A t s H E h=>⟨_,(aj (qI ah4 rfl (bG (aJ aI (cn (aa ai ag)) (bb (af 0) bO (bw ai)))) (a6 (i:=1) G rfl (O8 rfl)) (aj (aU (i:=2) G rfl (O8 rfl) (qd B h (aa (af 1) ag)))
   (ao (bp (kS (cJ (qd b h (aa (af 2) (aa (qd m h (aa (af 2) ag)) ag))))) (ao (aB Bb)) aR))))
   (ao (aB (aC (ly rfl) rfl T.b_all (by kernel_rfl) (aa (gj (ms:=[false,false,false]) (ar:=["_law_thing"]) (aG (n0:=0) rfl (show aY (ah uo) vN _ _=true from by decide +kernel)) rfl (bG (cn (aa cp (aa ai (aa Bb (aa (bF (aa am ag)) (aa (cn (aa am ag)) ag))))))) (aS (i:=3) (show(vN++_).Nodup from by decide +kernel) rfl rfl) (λ_ _ _ _=>bH) (λ_ _ _ _=>(qd b h (aa (af 3) (aa (bF (aa am (aa cp ag))) ag))))) ag))))),λds M R _ Q bk=>?_⟩)
 obtain⟨n,rfl,rfl,hn,k⟩:=Q;refine bk ?_;clear bk;walk_at"";obtain⟨g,l,N⟩:∃g:List Int,L2.dI (n.map D.int) none (some 30)=g.map D.int/\g.length<=30:=⟨n.take 30,by rw[show(30:Int)=((30:Nat):Int)from rfl,Bo,List.map_take],by rw[P6];lia⟩;rw[l];refine⟨sz3 1,_,if_pos (sz3 _ (by rw[E4];lia)),_,rfl,λI=>?_⟩;rw[show D.int 0::g.map D.int=(0::g).map D.int from rfl];refine eL (λi a U=>∃p o:Option D,a=[some (D.scr (n.map D.int)),p,o]) ⟨_,_,rfl⟩ ?_ ?_
 ·intro i d a M X j u S;obtain⟨p,o,rfl⟩:=u;obtain⟨c,hc,rfl⟩:=yh j;simp only[cH];refine⟨_,rfl,?_⟩;walk_at"";exact⟨c,rfl,λx L=>⟨x,rfl,L,.str x,rfl,by simp only[aq,decide_eq_true_eq];lia,λy e=>(D.str.inj e)▸L,_,rfl,by rw[if_neg (by decide)];exact S _ _ ⟨_,_,rfl⟩⟩⟩
 ·intro a U u;obtain⟨p,o,rfl⟩:=u;walk_at"";refine⟨sz3 1,sz3 1,sz3 5,λI=>⟨I,?_⟩⟩;refine bR (λ_=>true) (λ_=>D.bl true) (λa=>∃z,a=[none,none,none,z]) _ _ _ (λd j a C=>?_) ⟨none,rfl⟩ ?_
  ·obtain⟨z,rfl⟩:=C;refine⟨_,rfl,⟨_,rfl⟩,λQ1 q=>q,λ_ Z q=>?_⟩;walk_at"";refine⟨sz3 2,?_⟩;simp only[F8,Z6,or_false]at j;rcases j with rfl|rfl|rfl|rfl|rfl
   ·exact⟨_,rfl,rfl,(λx e=>nomatch e),q⟩
   ·exact⟨_,rfl,rfl,(λx e=>nomatch e),q⟩
   ·exact⟨_,rfl,rfl,(λx e=>nomatch e),q⟩
   ·exact⟨_,rfl,by simp only[aq,aL,V5,decide_eq_true_eq];decide +kernel,(λx e=>nomatch e),q⟩
   ·exact⟨_,rfl,by simp only[aq,aL,V5,decide_eq_true_eq];decide +kernel,(λx e=>nomatch e),q⟩
  rw[M9,N9.mpr (λ_ _=>rfl)];exact⟨_,AS _,k _⟩
end
theorem B2:CS S_law:=λa R c b=>⟨a,rfl,rfl,c,b⟩
theorem Ak{l:PySem.W.OpenLaw}{w:P4}{K:u8}{h:K0}{mg:Str->Option s0}{fa:E9}(X:K.In h)(G:h.Ns K1 mg)(n':mg "law"=some (.ref fa))
  {f0:E9} {d0:J7}
  {f1:E9} {d1:J7}
  {f2:E9} {d2:J7}
  {f3:E9} {d3:J7}
  {f4:E9} {d4:J7}
  {f5:E9} {d5:J7}
  {f6:E9} {d6:J7}
  {f7:E9} {d7:J7}
  {f8:E9} {d8:J7}
  {f9:E9} {d9:J7}
  {z':E9} {j':J7}
  {v':E9} {l0:J7}
  {r2:E9} {n2:J7}
  {l4:E9} {s3:J7}
  {r9:E9} {y2:J7}
  {y5:E9} {s2:J7}
  {p5:E9} {q0:J7}
  {m3:E9} {o2:J7}
  {l2:E9} {n7:J7}
  {z1:E9} {y':J7}
  {q9:E9} {t9:J7}
  {s':E9} {t3:J7}
  {q3:E9} {r1:J7}
  {q':E9} {k4:J7}
  {r7:E9} {q4:J7}
  {v1:E9} {k3:J7}
  {m2:E9} {u':J7}
  {q1:E9} {q5:J7}
  {l8:E9} {v3:J7}
  {t0:E9} {p3:J7}
  {t':E9} {u2:J7}
  {n1:E9} {q8:J7}
  {v2:E9} {s1:J7}
  {k1:E9} {t2:J7}
  {v0:E9} {r5:J7}
  {t8:E9} {p9:J7}
  {l1:E9} {r6:J7}
  {n0:E9} {r0:J7}
  {p':E9} {t6:J7}
  {a:Tok}
  {n:Tok}
  {u:Tok}
  {E:Tok}
  {j:Tok}
  {x:Tok}
  {A:Tok}
  {J:Tok}
  {c:Tok}
  {g:Tok}
  {o:Tok}
  {b:Tok}
  {W WN:E9} {wn wq:Str} {x':List s0} {wh:Bool} {p4:List Str} {h5:List s0} {w':Bool} {i1:Option Bool} {u1:Option E9} {w0 w1 w2 w3 w5:Option s0} {g3:String} {m4:s0} {q6:Option E9} {h1:Array aq1} {s7:Nat} {q7:Array (Option s0)}
  {O y6:E9} {l5 o':Str} {h3:List s0}  {h2:List Str} {g2:List s0} {h7:Bool} {c3:Option Bool} {i2:Option E9} {s9 p1 l3 m1 s8:Option s0}
  {S:E9} {i3 i0:Option E9} {h':Array (Option s0)} {g5 g4 h0 Z g':s0}
  (x0:bo K "is_whole" fw f0 d0)
  (x1:bo K "is_tuple_of" cT f1 d1)
  (x2:bo K "is_short_word" bP f2 d2)
  (x3:bo K "are_unlike" dF f3 d3)
  (x4:bo K "show_sign" dX f4 d4)
  (x5:bo K "turn_in" gx f5 d5)
  (x6:bo K "pair_in" gJ f6 d6)
  (x7:bo K "_law_pool" lD f7 d7)
  (x8:bo K "_law_draw" kJ f8 d8)
  (x9:bo K "_law_small" gV f9 d9)
  (e0:bo K "is_mark" gA z' j')
  (a2:bo K "is_turn" fZ v' l0)
  (e2:bo K "show_row" c9 r2 n2)
  (a4:bo K "sign_in" fU l4 s3)
  (a3:bo K "_law_sign" mn r9 y2)
  (c1:bo K "_law_bent" lK y5 s2)
  (b4:bo K "_law_sign_in" gD p5 q0)
  (a':bo K "is_pair" gf m3 o2)
  (d':bo K "is_sign" gB l2 n7)
  (a8:bo K "show_entry" cz z1 y')
  (c2:bo K "goal_in" gL q9 t9)
  (g1:bo K "_law_row" kG s' t3)
  (b2:bo K "_law_row_in" fj q3 r1)
  (b8:bo K "is_order" c7 q' k4)
  (e':bo K "is_row" fD r7 q4)
  (b5:bo K "show_lexicon" bz v1 k3)
  (b9:bo K "_law_entry" gZ m2 u')
  (c4:bo K "_law_entry_in" cC q1 q5)
  (a5:bo K "is_kind" gb l8 v3)
  (e1:bo K "row_in" fK t0 p3)
  (b1:bo K "_law_text" mf t' u2)
  (e3:bo K "_law_due" ot n1 q8)
  (a0:bo K "are_kinds" cL v2 s1)
  (e4:bo K "entry_in" c8 k1 t2)
  (f':bo K "is_entry" fE v0 r5)
  (a1:bo K "are_entries" bL t8 p9)
  (c5:bo K "read_lexicon" cF l1 r6)
  (c0:bo K "_law_right" jv n0 r0)
  (j1:bo K "law" uo p' t6)
  (I:M0 K K1 "isinstance"=some none)
  (b3:M0 K K1 "int"=some none)
  (U:M0 K K1 "bool"=some none)
  (Q:M0 K K1 "tuple"=some none)
  (c6:M0 K K1 "len"=some none)
  (b0:M0 K K1 "str"=some none)
  (b':M0 K K1 "all"=some none)
  (c':M0 K K1 "set"=some none)
  (M:M0 K K1 "enumerate"=some none)
  (e5:M0 K K1 "abs"=some none)
  (R:M0 K K1 "range"=some none)
  (i:M0 K K1 "SMALL_LETTERS"=some (some (.str "abcdefghijklmnopqrstuvwxyz" a)))
  (q:M0 K K1 "MOST_LETTERS"=some (some (.int 8 n)))
  (B:M0 K K1 "MOST_PAIRS"=some (some (.int 8 u)))
  (L:M0 K K1 "MOST_TURN"=some (some (.int 99 E)))
  (p:M0 K K1 "MOST_ENTRIES"=some (some (.int 10 j)))
  (C:M0 K K1 "MOST_KINDS"=some (some (.int 4 x)))
  (H:M0 K K1 "MOST_SIGNS"=some (some (.int 5 A)))
  (N:M0 K K1 "NO_SIGNS"=some (some (.str "1" J)))
  (f:M0 K K1 "BETWEEN_PARTS"=some (some (.str "; " c)))
  (t:M0 K K1 "BETWEEN_PAIR"=some (some (.str " < " g)))
  (z:M0 K K1 "BEHIND_WORD"=some (some (.str ": " o)))
  (m:M0 K K1 "BETWEEN_KINDS"=some (some (.str " | " b)))
  (aW:M0 K K1 "WishError"=some (some (.ref W)))
  (lW:K.lookup W=some (U6 wn wq W WN x' [.type "ValueError",.type "Exception",.type "BaseException",.type "object"] wh p4 h5 w' i1 u1 w0 w1 w2 w3 w5 g3))
  (nW:K.lookup WN=some ⟨m4,q6,.dict h1 s7,q7⟩)
  (hW:h1.toList.all (λe=>e.key.isStr "__init__"==false&&match e.key with|.str _ _=>true|_=>false)=true)
  (sW:ai3 K (.ref W) "__getattribute__"=some (some (.builtin "type.__getattribute__")))
  (rW:PySem.W.readsIn K W (.type "type")=true)
  (fW:PySem.W.findCls K (.ref W) (.type "type") "__init__"=some (.val (.builtin "ValueError.__init__")))
  (i4:ai3 K (.builtin "object.__class__") "__get__"=some (some (.builtin "getset_descriptor.__get__")))
  (i5:PySem.W.takesIn K (.builtin "object.__class__")=some true)
  (h9:M0 K K1 "NoText"=some (some (.ref O)))
  (p2:U9 K (.ref O)=true)
  (a9:K.lookup O=some (U6 l5 o' O y6 h3 [.ref W,.type "ValueError",.type "Exception",.type "BaseException",.type "object"] true h2 g2 h7 c3 i2 s9 p1 l3 m1 s8 "ValueError.__new__"))
  (s4:R3 K (.ref O) "__getattribute__"=some (some (.builtin "BaseException.__getattribute__")))
  (y1:R3 K (.ref O) "__getattr__"=some none)
  (t1:aj8 K O (.type "BaseException")=some true)
  (w8:(PySem.W.clsIn K O).isSome=true)
  (t5:R3 K (.ref O) "__class__"=some (some (.builtin "object.__class__")))
  (h4:aj8 K O (.type "object")=some true)
  (k5:PySem.W.kitOne K (.ref O) (.type "ValueError")=some true)
  (m':R3 K (.ref O) "__init__"=some (some (.ref S)))
  (i':K.lookup S=some ⟨.type "function",i3,.func (Z9 "__init__" "NoText.__init__" (dS gS) (cf gS) (ah gS) .none g5 g4 h0 i0 Z g'),h'⟩)
  (s5:ad2 K Z "NoText.__init__"=true)
  (t4:U9 K (.ref S)=true)
  (l6:R3 K (.ref O) "__setattr__"=some (some (.builtin "object.__setattr__")))
  (h8:R3 K (.ref O) "part"=some none)
  (t7:PySem.W.hasDictIn K O=true)
 :∃fd:J7,(∀(s:E3) (v:s0),ap1 s fd ⟨[v],[]⟩ [("_law_script",v)])/\∀base:K0,K.In base->base.Ns K1 mg->aO l.prog w K mg base CX0 11 fa fd ["_law_script"] (spD K 1 S_law):=by
 have T:Txt mg:=⟨R4 X G I,R4 X G b3,R4 X G U,R4 X G Q,R4 X G c6,R4 X G b0,R4 X G b',R4 X G c',R4 X G M,R4 X G e5,R4 X G R,⟨_,P3 X G i⟩,⟨_,P3 X G q⟩,⟨_,P3 X G B⟩,⟨_,P3 X G L⟩,⟨_,P3 X G p⟩,⟨_,P3 X G C⟩,⟨_,P3 X G H⟩,⟨_,P3 X G N⟩,⟨_,P3 X G f⟩,⟨_,P3 X G t⟩,⟨_,P3 X G z⟩,⟨_,P3 X G m⟩⟩;have Y:AQ K mg O W S:=⟨⟨P3 X G h9,P3 X G aW,p2,⟨_,_,_,_,_,_,_,_,_,_,_,_,_,_,a9⟩,m',⟨_,_,_,_,_,_,_,_,_,lW,nW,hW⟩,sW,rW,fW,l6,h4,h8⟩,⟨t7,h8⟩,P3 X G h9,al1 ⟨_,_,_,_,_,_,_,_,_,_,_,_,_,_,_,_,_,a9,by simp⟩,⟨_,_,_,_,_,_,_,_,_,_,_,_,_,_,_,_,_,a9,by simp⟩,al1 ⟨s4,y1,t1,w8,t5,i4,i5,h4⟩,ix1 k5⟩;have j2:=qZ (st:=gS) i' s5 t4;have h6:=bd2 j2 λ_ _ _ _ _ _ _ _=>rfl;refine Ay X G n' j1 (λ_ _ _ _ _ _ _=>rfl) λbase=>?_;have r3:=fg X G x0 (mM (P:=l.prog) (w:=w) (base:=base) x0.F T ) (bd1 x0.F λ_ _ _ _ _ _ _=>rfl);have G1:=fg X G x1 (jC (P:=l.prog) (w:=w) (base:=base) x1.F T ) (bd2 x1.F λ_ _ _ _ _ _ _ _=>rfl);have G3:=fg X G x2 (iL (P:=l.prog) (w:=w) (base:=base) x2.F T ) (bd1 x2.F λ_ _ _ _ _ _ _=>rfl);have G5:=fg X G x3 (kl (P:=l.prog) (w:=w) (base:=base) x3.F T ) (bd1 x3.F λ_ _ _ _ _ _ _=>rfl);have Y4:=fg X G x4 (kX (P:=l.prog) (w:=w) (base:=base) x4.F T ) (bd1 x4.F λ_ _ _ _ _ _ _=>rfl);have l7:=fg X G x5 (oi (P:=l.prog) (w:=w) (base:=base) x5.F T ) (bd1 x5.F λ_ _ _ _ _ _ _=>rfl);have o1:=fg X G x6 (oF (P:=l.prog) (w:=w) (base:=base) x6.F T ) (bd1 x6.F λ_ _ _ _ _ _ _=>rfl);have z3:=fg X G x7 (uB (P:=l.prog) (w:=w) (base:=base) x7.F T ) (bd1 x7.F λ_ _ _ _ _ _ _=>rfl);have G0:=fg X G x8 (uK (P:=l.prog) (w:=w) (base:=base) x8.F T ) (bd2 x8.F λ_ _ _ _ _ _ _ _=>rfl);have G4:=fg X G x9 (rg (P:=l.prog) (w:=w) (base:=base) x9.F T ) (bd1 x9.F λ_ _ _ _ _ _ _=>rfl);have G2:=fg X G e0 (oq (P:=l.prog) (w:=w) (base:=base) e0.F T G3) (bd1 e0.F λ_ _ _ _ _ _ _=>rfl);have v5:=fg X G a2 (n4 (P:=l.prog) (w:=w) (base:=base) a2.F T r3) (bd1 a2.F λ_ _ _ _ _ _ _=>rfl);have Y6:=fg X G e2 (mB (P:=l.prog) (w:=w) (base:=base) e2.F T Y4) (bd1 e2.F λ_ _ _ _ _ _ _=>rfl);have s6:=fg X G a4 (oo (P:=l.prog) (w:=w) (base:=base) a4.F T l7) (bd1 a4.F λ_ _ _ _ _ _ _=>rfl);have Y0:=fg X G a3 (vd (P:=l.prog) (w:=w) (base:=base) a3.F T G0) (bd1 a3.F λ_ _ _ _ _ _ _=>rfl);have w7:=fg X G c1 (vb (P:=l.prog) (w:=w) (base:=base) c1.F T G0) (bd2 c1.F λ_ _ _ _ _ _ _ _=>rfl);have z0:=fg X G b4 (oM (P:=l.prog) (w:=w) (base:=base) b4.F T G4) (bd1 b4.F λ_ _ _ _ _ _ _=>rfl);have z2:=fg X G a' (oX (P:=l.prog) (w:=w) (base:=base) a'.F T G1 G2) (bd1 a'.F λ_ _ _ _ _ _ _=>rfl);have w4:=fg X G d' (o4 (P:=l.prog) (w:=w) (base:=base) d'.F T G1 G2 v5) (bd1 d'.F λ_ _ _ _ _ _ _=>rfl);have Y3:=fg X G a8 (j9 (P:=l.prog) (w:=w) (base:=base) a8.F T Y6) (bd1 a8.F λ_ _ _ _ _ _ _=>rfl);have r4:=fg X G c2 (oJ (P:=l.prog) (w:=w) (base:=base) c2.F T G2) (bd1 c2.F λ_ _ _ _ _ _ _=>rfl);have Y2:=fg X G g1 (xJ (P:=l.prog) (w:=w) (base:=base) g1.F T G0 Y0) (bd1 g1.F λ_ _ _ _ _ _ _=>rfl);have m0:=fg X G b2 (qM (P:=l.prog) (w:=w) (base:=base) b2.F T z0) (bd1 b2.F λ_ _ _ _ _ _ _=>rfl);have r':=fg X G b8 (mw (P:=l.prog) (w:=w) (base:=base) b8.F T z2) (bd1 b8.F λ_ _ _ _ _ _ _=>rfl);have G7:=fg X G e' (p7 (P:=l.prog) (w:=w) (base:=base) e'.F T w4) (bd1 e'.F λ_ _ _ _ _ _ _=>rfl);have G9:=fg X G b5 (iX (P:=l.prog) (w:=w) (base:=base) b5.F T Y3) (bd1 b5.F λ_ _ _ _ _ _ _=>rfl);have G6:=fg X G b9 (rH (P:=l.prog) (w:=w) (base:=base) b9.F T G0 Y2) (bd1 b9.F λ_ _ _ _ _ _ _=>rfl);have Y8:=fg X G c4 (mH (P:=l.prog) (w:=w) (base:=base) c4.F T m0 G4) (bd2 c4.F λ_ _ _ _ _ _ _ _=>rfl);have k':=fg X G a5 (pd (P:=l.prog) (w:=w) (base:=base) a5.F T G7) (bd1 a5.F λ_ _ _ _ _ _ _=>rfl);have k0:=fg X G e1 (qw (P:=l.prog) (w:=w) (base:=base) e1.F T s6 G7) (bd1 e1.F λ_ _ _ _ _ _ _=>rfl);have q2:=fg X G b1 (uD (P:=l.prog) (w:=w) (base:=base) b1.F T z3 G0 G6 w7) (bd1 b1.F λ_ _ _ _ _ _ _=>rfl);have k2:=fg X G e3 (vU (P:=l.prog) (w:=w) (base:=base) e3.F T G4 Y8) (bd1 e3.F λ_ _ _ _ _ _ _=>rfl);have Y5:=fg X G a0 (mh (P:=l.prog) (w:=w) (base:=base) a0.F T G5 k') (bd1 a0.F λ_ _ _ _ _ _ _=>rfl);have Y7:=fg X G e4 (mQ (P:=l.prog) (w:=w) (base:=base) e4.F T k0) (bd1 e4.F λ_ _ _ _ _ _ _=>rfl);have Y9:=fg X G f' (mz (P:=l.prog) (w:=w) (base:=base) f'.F T G1 G3 Y5) (bd1 f'.F λ_ _ _ _ _ _ _=>rfl);have Y1:=fg X G a1 (jF (P:=l.prog) (w:=w) (base:=base) a1.F T G5 Y9) (bd1 a1.F λ_ _ _ _ _ _ _=>rfl);have G8:=fgY X G c5 (ja (P:=l.prog) (w:=w) (base:=base) c5.F T Y (vy j2 Y.p0) h6 ⟨_,i',rfl⟩ r4 r' Y1 o1 Y7) (bd1 c5.F λ_ _ _ _ _ _ _=>rfl);have l':=fg X G c0 (rN (P:=l.prog) (w:=w) (base:=base) c0.F T Y G8 G9) (bd2 c0.F λ_ _ _ _ _ _ _ _=>rfl);exact Ar j1.F T q2 l' k2
end My
namespace PySem.W.Fast
def tw10025035641855034266:=Nat
def tw10071544064153785309:=Nat
def tw1008227033602502016:=Nat
def tw10138432689873946346:=Nat
def tw1018498010209830261:=Nat
def tw10308955332180432562:=Nat
def tw10362163590381265383:=Nat
def tw10405815262843415698:=Nat
def tw10559981917408514599:=Nat
def tw10655214746705221122:=Nat
def tw10666170919741219136:=Nat
def tw10729040478782049783:=Nat
def tw10772808213062256455:=Nat
def tw10813815791991682475:=Nat
def tw10935750516385313176:=Nat
def tw11118868227900936478:=Nat
def tw11164516698445885509:=Nat
def tw11209564701348803369:=Nat
def tw11229111382978196702:=Nat
def tw11303704755785796396:=Nat
def tw11321741874702509968:=Nat
def tw11321878878640528171:=Nat
def tw11465415697247874119:=Nat
def tw11530455378156759759:=Nat
def tw11550391059866444721:=Nat
def tw11556374618513123785:=Nat
def tw1172996039630040336:=Nat
def tw11819960175512974324:=Nat
def tw11950149542945241574:=Nat
def tw11989681307389925280:=Nat
def tw12130851024498634147:=Nat
def tw12153395902461133740:=Nat
def tw12157628551350973300:=Nat
def tw12343952374670558513:=Nat
def tw12549391381324188106:=Nat
def tw12564646081628995358:=Nat
def tw12770178846995587146:=Nat
def tw12896170960378468395:=Nat
def tw12981861376795996479:=Nat
def tw13016360685257736570:=Nat
def tw13086531824413333563:=Nat
def tw13148805519906675555:=Nat
def tw13437712971820784345:=Nat
def tw13541925459479423730:=Nat
def tw13589580233844089733:=Nat
def tw13833218953085537345:=Nat
def tw14191221247033930587:=Nat
def tw14252618072934378238:=Nat
def tw14316359232533175459:=Nat
def tw14516328884591275176:=Nat
def tw14538464713503125879:=Nat
def tw14644158188799467166:=Nat
def tw15065366525573398659:=Nat
def tw15382613650692787765:=Nat
def tw15498334082500732387:=Nat
def tw15502090004549781686:=Nat
def tw15586468744520348805:=Nat
def tw15592753237729143215:=Nat
def tw15600541573790308645:=Nat
def tw15630327317049241095:=Nat
def tw15656304070339280640:=Nat
def tw15679502974350718378:=Nat
def tw15784149725229193427:=Nat
def tw15784822717602686999:=Nat
def tw1578787763686946619:=Nat
def tw1589202903518481955:=Nat
def tw15953000006459492240:=Nat
def tw16046015519061190218:=Nat
def tw16159637661415578887:=Nat
def tw16173554488119960340:=Nat
def tw16237681590690646511:=Nat
def tw16333873030688157438:=Nat
def tw16460605861775567621:=Nat
def tw16473374524062361690:=Nat
def tw16680395385511717632:=Nat
def tw1672019877170420241:=Nat
def tw16782661494813973044:=Nat
def tw16875782983165333397:=Nat
def tw1700497201999238118:=Nat
def tw17014717591368815757:=Nat
def tw17177357124185056382:=Nat
def tw17194105559115519101:=Nat
def tw17207531720632449602:=Nat
def tw17264806793554333615:=Nat
def tw17319975232601651440:=Nat
def tw17608090602855059641:=Nat
def tw17670681128355190217:=Nat
def tw17687239963004466269:=Nat
def tw17691403635246919572:=Nat
def tw17895266792246109658:=Nat
def tw1798564811173864494:=Nat
def tw18345437815150683163:=Nat
def tw2033553108291370110:=Nat
def tw2046257460886090060:=Nat
def tw2081166200256811329:=Nat
def tw2402533716457522148:=Nat
def tw2410358307044885315:=Nat
def tw2738813703409825081:=Nat
def tw2820750267998388150:=Nat
def tw2902451883437145110:=Nat
def tw2932894659569471717:=Nat
def tw2951004833805193226:=Nat
def tw3153969022298426156:=Nat
def tw3267573127809154892:=Nat
def tw3486753012357041416:=Nat
def tw3590687103765455070:=Nat
def tw3638642712058310525:=Nat
def tw3677360207368746201:=Nat
def tw372263794787726327:=Nat
def tw387612893831491132:=Nat
def tw3926546268900095328:=Nat
def tw4079541080156839452:=Nat
def tw411211148406992840:=Nat
def tw4174580305871416694:=Nat
def tw4216884744771521337:=Nat
def tw4286647420524709428:=Nat
def tw4358408470212109578:=Nat
def tw4745127026271460176:=Nat
def tw479659081623432116:=Nat
def tw4863370911630968150:=Nat
def tw4981873905703084777:=Nat
def tw5003586176839623219:=Nat
def tw5076526111910902989:=Nat
def tw50926749870045564:=Nat
def tw5095022233491030948:=Nat
def tw512313119463361223:=Nat
def tw5219396434155502076:=Nat
def tw524454231664266288:=Nat
def tw529185003095542431:=Nat
def tw5337744252876253257:=Nat
def tw5454082651722563331:=Nat
def tw5577682648257967692:=Nat
def tw581016937157087727:=Nat
def tw5884126624512889896:=Nat
def tw5898500365093344290:=Nat
def tw5942331704645924074:=Nat
def tw5971197841374059082:=Nat
def tw6054861609794426364:=Nat
def tw6066662410887430582:=Nat
def tw6108784314041288382:=Nat
def tw6164686753214399740:=Nat
def tw6214466630508173799:=Nat
def tw6225232950407253896:=Nat
def tw6229382865403220518:=Nat
def tw6408406283492888758:=Nat
def tw6487754911324840311:=Nat
def tw6688635541896858476:=Nat
def tw6800478952363317358:=Nat
def tw6809454759510741801:=Nat
def tw6833905408230222293:=Nat
def tw6907860392130496166:=Nat
def tw6953418090378889961:=Nat
def tw6959510481858413666:=Nat
def tw707997050203170926:=Nat
def tw7175818319996842325:=Nat
def tw7288771956470281602:=Nat
def tw7308360525186443182:=Nat
def tw7339587713537921126:=Nat
def tw7348343162327231973:=Nat
def tw7392007920992925092:=Nat
def tw750630187574640688:=Nat
def tw751437119562227366:=Nat
def tw7881736413710234112:=Nat
def tw788872138374675721:=Nat
def tw7892188579227603852:=Nat
def tw8078947892138778268:=Nat
def tw8092556863537799776:=Nat
def tw812494104766504474:=Nat
def tw8236631546208484396:=Nat
def tw8465236211184066273:=Nat
def tw8467224044813031351:=Nat
def tw8469948904744592087:=Nat
def tw847389474249831735:=Nat
def tw8592435432484258269:=Nat
def tw8652429879524455057:=Nat
def tw8721597639486683950:=Nat
def tw8739759076166760106:=Nat
def tw8766771677401322262:=Nat
def tw8910222628966174032:=Nat
def tw9051549414678256290:=Nat
def tw9064602765177279021:=Nat
def tw9121019696634438186:=Nat
def tw9162173901406684466:=Nat
def tw920608763946500149:=Nat
def tw9220582436019214827:=Nat
def tw9296511745155734931:=Nat
def tw9620974874252874244:=Nat
def tw9975162200498071034:=Nat
end PySem.W.Fast
open PySem PySem.W PyProof.Rows
set_option maxRecDepth 100000 in
set_option maxHeartbeats 0 in
theorem PySem.Challenge.cw_wordwishes_k09_whole_texts_of_lexicons_holds : PySem.Challenge.rw_wordwishes_k09_whole_texts_of_lexicons.Holds := by
 w_on;o_law;z_head;(case hw=>w_witness2)
 k_fill
 refine L2.vL (fun _=>rfl) ?_;refine L2.DF (S:=My.S_law) My.B2 (k:=11) (x:="_law_script") (l:=PySem.Challenge.rw_wordwishes_k09_whole_texts_of_lexicons) ⟨rfl,by decide,by decide⟩ rfl rfl (fun w h Y=>Y) ?F
 case F =>
  intro w e c h b G a
  refine' My.Ak b G a ?_ ?_ ?_ ?_ ?_ ?_ ?_ ?_ ?_ ?_ ?_ ?_ ?_ ?_ ?_ ?_ ?_ ?_ ?_ ?_ ?_ ?_ ?_ ?_ ?_ ?_ ?_ ?_ ?_ ?_ ?_ ?_ ?_ ?_ ?_ ?_ ?_ ?_ ?_ ?_ ?_ ?_ ?_ ?_ ?_ ?_ ?_ ?_ ?_ ?_ ?_ ?_ ?_ ?_ ?_ ?_ ?_ ?_ ?_ ?_ ?_ ?_ ?_ ?_ ?_ ?_ ?_ ?_ ?_ ?_ ?_ ?_ ?_ ?_ ?_ ?_ ?_ ?_ ?_ ?_ ?_ ?_ ?_ ?_ ?_ ?_ ?_ ?_
  all_goals try first|exact L2.Ds (by k_is) (by k_is) (by k_is) (by k_is)|exact L2.qZ (by k_is) (by k_is) (by k_is)|k_is|exact rfl
