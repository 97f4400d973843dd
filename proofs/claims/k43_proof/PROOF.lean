import PyProof.Rows.All
import Wide.All
import OpenK.AllK
import Wide.FinOn
import Lean
import PyProof.EqAt
import PyProof.EqKinds
import PyProof.TupleCall
import KE.KRevIter
import PyProof.NeKinds
import PyProof.Draws
import PyProof.EnumMake
import KE.KSortTup
import PyProof.ZipIter
import KE.KDictList
import PyProof.AttrMissHeap
import KE.KDictOf
import PyProof.Rows.SetFrom
import PyProof.Rows.SortRunsK
import PyProof.IsRules
import PyProof.SetRoads
import KE.KSortKey
import PyProof.RulesDel
import PyProof.DelItemList
import PySem.Challenge.RW_wordwishes_k43_worlds
set_option Elab.async false
set_option linter.all false
set_option maxRecDepth 100000
set_option maxHeartbeats 4000000
set_option bootstrap.genMatcherCode false
set_option compiler.extract_closed false
noncomputable section
open PySem renaming wpAny_bind->o0,Value->F3,Shared->F4,wpAny_pure->F5,sizeLine->F7,Addr->J7,wpAny->K2,starEach->K4,Builtin->K6,Heap->K7,Program->L1,mainGlobals->L3,model->L5,FuncData->L8,Spec->L9,Expr->M9,wpAny_newObj_type->N2,foldedSetIterable->N3,SetTable->N9,Around->O0,wpAny_mono->P0,PassesOwn->P4,wpAny_callSpecial?_slot->P5,World->P9,compareOp->Q5,wpAny_call_entry->Q6,mem_of_lookup->R1,wpAny_holding->R5,NameKind->T3,wpAny_field->U2,assignEach->U9,wpAny_pyIter_list->V1,backTo->V7,binaryOp->V8,bootBuiltins->W4,wpAny_seqItems->W6,codeAny_builtin->X3,rawInt->X5,Paired->X7,wpAny_standAt->X9,attributeBase->Z0,wpAny_pyIter_tuple->Z4,wpAny_setField_rec->Z7,Scope->aa1,wpAny_setField->aa4,wpAny_truthy_bool->aa8,wpAny_rule->ab0,wpAny_passesOwn->ab1,wpAny_comprehension_free->ab7,Stmt->ac2,wpAny_getItem_str_slice->ac5,wpAny_setEntries_of->ac8,eval->ad3,codeAny->ad5,wpAny_Call_Name_kw->ad8,swapsWith->ae0,letOwnedTupleGo->ae1,sizeLine_eq->ae2,sliceBounds->ae3,scanBound->ae7,pickOrder->ae8,sysModules->ae9,behindInMarks->af0,plainId_quiet->af4,firstArgMember->af9,IsPair->ag0,pyNext->ag2,codeAny_mono->ag3,wpAny_typeOf->ag4,call_meets->ag5,assign->ag8,wpAny_attempt->ah5,keywordEach->ah8,Keyword->ah9,fits_of_scanBound->ai3,cLine->ai7,wpAny_askSetting->aj1,wpAny_isInstance->aj4,swapsWithSole->aj6,swappedStores->aj7,Comprehension->aj8,wpAny_onRaise->aj9,wpAny_execs_nil->ak2,post_val_or_str->ak4,holding->ak9,wpAny_fieldsOf->al1,getItem->al8,compEnvC->am0,wpAny_of_eq->am1,relayAll->am2,pyIter->am3,typeIs_int->am7,backToKw->am8,standAt->an2,subscripted->an3,callerA->an4,IsZip->an8,tupleKind->an9,GenState->ao0,inplaceOp->ao1,Result->ao3,IsPart->ao4,ZipApart->ao5,BindsTo->ao6,valueAt->ao9,strKind_is->ap0,Operator->ap1,CmpOp->ap3,Walks->ap4,cellsFrom->ap5,slicePick->ap6,seqItems?->ap9,setNext->aq0
open List renaming getElem?_eq_getElem->u8,length_map->F1,length_append->F6,getElem?_eq_some_iff->F8,replicate->I0,size_toArray->J0,mem_of_getElem?->J1,getElem?_map->J6,map_cons->J8,mem_cons->J9,nil_append->K5,mem_append_right->K8,not_mem_nil->L4,filter_eq_self->L7,length_take->M0,all_eq_true->M7,map_map->N0,mem_singleton->N5,getD_eq_getElem?_getD->N7,lookup_cons->N8,getElem?_append_left->O1,map_append->O2,mem_append->O3,take_add_one->O6,mem_cons_of_mem->O7,mem_map->O9,length_cons->P2,getElem_mem->P3,mem_of_mem_take->Q0,mem_cons_self->Q8,all_map->R0,replicate_succ->R3,range->R8,mem_iff_getElem?->S1,length_drop->S3,take_length->S5,mem_of_mem_drop->S7,getElem?_set_self->S8,take_of_length_le->S9,mem_flatMap->T4,mem_append_left->T6,getElem?_zip_eq_some->T7,mem_map_of_mem->T9,append_assoc->U0,getElem?_replicate->U1,getElem?_cons_succ->U4,getElem?_append_right->U8,flatten_cons->V0,any_cons->V2,append_nil->V5,length_replicate->V6,getElem?_set_ne->W0,mem_iff_getElem->W1,length_eq_zero_iff->W3,filterMap_cons->W8,length->X0,find?_cons->X1,getElem?_eq_none->Z3,cons->Z6,map_take->Z9,mem_range->aa0,drop_eq_getElem_cons->aa3,pairwise_iff_getElem->aa5,nodup_cons->ab2,length_nil->ab6,mergeSort_perm->ac7,drop_eq_nil_of_le->ad7,zip_cons_cons->ad9,foldl_cons->ae4,length_singleton->ae5,nodup_append->af5,map_drop->af6,length_dropLast->af7,mem_filter->ag7,mem_filterMap->ag9,of_mem_zip->ah0,length_set->ah1,all_cons->ah2,reverse_cons->ai0,flatMap_cons->ai4,ext_getElem->aj3,Perm->al4,map_nil->am5,lookup->an5,range'->an6,foldl->ao8
open PySem.Heap renaming get?_push_of_some->F0,get?_push_size->J3,lt_size->J4,SameBut->O4,size_push->R4,get?_update_self->S0,get?_update_other->ad6,ExtBut->an7
open PySem.W renaming Frag->F2,mg_none_of->N6,nsIn->O5,mg_of->Z1,fnOf->ac3,keepIn->af8,codeIn->al0
open Nat renaming le_refl->F9,lt_of_lt_of_le->J5,ne_of_lt->K0,lt_succ_of_lt->P1,zero_le->P6,le_trans->P7,ne_of_gt->W5,lt_irrefl->X8,lt_succ_self->ad1,lt_or_ge->ae6,le_succ->ai1,le_of_lt->ai6,lt_trans->ai8,le_add_right->aj5,min_eq_left->ak7
open Bool renaming false_eq_true->K1,and_eq_true->N1,false_and->P8,false_ne_true->Q9,true_and->R6,eq_iff_iff->ab8,and_false->ad4,or_eq_true->ah4,not_eq_true'->ai2,or_false->al9
open PySem.Str renaming ofString->K3
open PySem.PassesOwn renaming never->K9
open Array renaming length_toList->L0,getElem?_eq_getElem->S6,getD->ac0
open Or renaming inl->L6,inr->aj0
open Int renaming toNat_natCast->N4,gcd->T0,emod_lt_of_pos->V9,le_trans->W7,emod_nonneg->X4,zero_add->Z8,toNat_of_nonneg->ac9,ediv_one->am4
open PySem.Builtin.SmallTypes renaming nextOf->O8,ownedTupleIsFree->T8
open Option.some renaming inj->Q7,injEq->af2
open Option renaming some->R7,isSome_iff_exists->ab3,map_some->ab9,bind_some->ad2
open PyProof.Rows renaming slot_tuple_getitem->R9,callWith_type1->W9,KeyOrd->Z5,seqObj->ah6,kindOf->ak8,IsTup->al6,AllBare->al7,envOfC->an0,Subscript_->ao7,IntsAre->ap7
open PySem.Heap.SameBut renaming update->S2
open List.cons renaming injEq->S4
open PySem.Builtin.Tuple renaming tupleExact->T1
open PySem.SeqAt renaming EqAt->T5
open ForInStep renaming yield->U3
open PySem.F renaming called_set->U5,slot_tuple_iterator_next->X6,slot_int_rmul->ak3,slot_zip_next->ak5
open PySem.Value renaming none->U6,ref->V4,type->ag1,int->ai5,bool->ak1,str->ap2
open PySem.Around renaming under_plainId->U7
open PySem.NameKind renaming free->V3,cell->ah3
open PySem.Builtin.Slice renaming slicePlaces->aa2
open PySem.SetTable renaming grown->aa6,below->al2
open Ne renaming symm->aa7
open False renaming elim->aa9
open PySem.Obj renaming mapSeq->ab4,mapFields->ak0,putSet->am9
open PySem.Builtin.List renaming listTooLong->ab5
open PyProof.Rows.KeyOrd renaming kle_refl->ac1,kle_of_klt->af3,kle_trans->aj2
open PySem.Builtin.Str renaming occurrences->ac4
open Inhabited renaming default->ac6
open Pure renaming pure->ad0
open PySem.Code renaming compLoop->af1
open Sum renaming inr->ag6,inl->an1
open Sum.inr renaming inj->ah7
open PySem.Txt renaming slice->ai9,slice_le->am6
open PySem.Shared renaming heap->ak6
open True renaming intro->al3
open PySem.Paired renaming length->al5
open ToString renaming toString->ao2
open LawfulMonad renaming pure_bind->ap8
set_option compiler.extract_closed false
namespace L2
open PySem PySem.Spec PyProof.Rows
abbrev Key:=Sum Int Str
def nB:Key->F3->Bool
 |.inl k,v=>F3.isInt k v
 |.inr x,v=>F3.isStrOf x v
noncomputable def EB(w:P9):Key->Int
 |.inl k=>hashInt k
 |.inr x=>hashStr w x
theorem bN:∀{k:Key}{v:F3},nB k v=true->(∃i t,k=an1 i/\v=ai5 i t)∨(∃x t,k=ag6 x/\v=ap2 x t)
 |.inl i,v,h=>by
  obtain⟨t,e⟩:=F3.isInt_shape (k:=i) (v:=v) h;exact .inl ⟨i,t,rfl,e⟩
 |.inr x,v,h=>by
  obtain⟨t,e⟩:=F3.isStrOf_shape (x:=x) (v:=v) h;exact .inr ⟨x,t,rfl,e⟩
theorem uw(i:Int) (t:Tok):nB (.inl i) (.int i t)=true:=by simp[nB,F3.isInt]
theorem uO(x:Str) (t:Tok):nB (.inr x) (.str x t)=true:=by simp[nB,F3.isStrOf]
theorem BU(a b:Int):decide ((an1 a:Key)=an1 b)=(a==b):=by
 by_cases e:a=b
 ·subst e;simp
 ·have h:¬ (an1 a:Key)=an1 b:=fun q=>e (an1.inj q);rw[decide_eq_false h];exact(beq_eq_false_iff_ne.mpr e).symm
theorem Cw(a b:Str):decide ((ag6 a:Key)=ag6 b)=decide (a=b):=by
 by_cases e:a=b
 ·subst e;simp
 ·have h:¬ (ag6 a:Key)=ag6 b:=fun q=>e (ah7 q);rw[decide_eq_false h,decide_eq_false e]
theorem Bq(a:Int) (b:Str):decide ((an1 a:Key)=ag6 b)=false:=decide_eq_false (fun q=>nomatch q)
theorem Bn(a:Str) (b:Int):decide ((ag6 a:Key)=an1 b)=false:=decide_eq_false (fun q=>nomatch q)
def bX(prog:L1) (w:P9):PySem.KeyKind prog w Key where
 is:=nB
 hash:=EB w
 inj:=fun v a b ha hb=>by
  rcases bN ha with⟨i,t,rfl,rfl⟩|⟨x,t,rfl,rfl⟩
  ·rcases bN hb with⟨j,u,rfl,e⟩|⟨y,u,rfl,e⟩
   ·injection e with e1 _;rw[e1]
   ·exact nomatch e
  ·rcases bN hb with⟨j,u,rfl,e⟩|⟨y,u,rfl,e⟩
   ·exact nomatch e
   ·injection e with e1 _;rw[e1]
 byValue:=fun k v h=>by
  rcases bN h with⟨i,t,rfl,rfl⟩|⟨x,t,rfl,rfl⟩<;>rfl
 pyHash:=fun hv h=>by
  rcases bN hv with⟨i,t,rfl,rfl⟩|⟨x,t,rfl,rfl⟩
  ·exact wpAny_pyHash_int h
  ·exact wpAny_pyHash_str h
 eqBool:=fun hu hv h=>by
  rcases bN hu with⟨i,t,rfl,rfl⟩|⟨x,t,rfl,rfl⟩
  ·rcases bN hv with⟨j,u,rfl,rfl⟩|⟨y,u,rfl,rfl⟩
   ·rw[BU]at h;exact wpAny_eqBool_int h
   ·rw[Bq]at h;exact T5.int_str i t y u _ _ _ _ h
  ·rcases bN hv with⟨j,u,rfl,rfl⟩|⟨y,u,rfl,rfl⟩
   ·rw[Bn]at h;exact T5.str_int x t j u _ _ _ _ h
   ·rw[Cw]at h;exact wpAny_eqBool_str h
 «strs»:=fun k x t v h=>by
  rcases bN h with⟨i,u,rfl,e⟩|⟨y,u,rfl,e⟩
  ·exact nomatch e
  ·injection e with e1 _
   subst e1;cases v<;>rfl
theorem qA(prog:L1) (w:P9) (i:Int) (t:Tok):(bX prog w).is (.inl i) (.int i t)=true:=uw i t
theorem pq(prog:L1) (w:P9) (x:Str) (t:Tok):(bX prog w).is (.inr x) (.str x t)=true:=uO x t
inductive V where
 |non|bl (b:Bool)|int (i:Int)|str (x:Str)|byt (b:Array UInt8)|flt (b:UInt64)|ref (a:J7)|ty (n:String)
 deriving DecidableEq
def aN:V->F3->Prop
 |.non,u=>u=U6
 |.bl b,u=>u=ak1 b
 |.int i,u=>∃t,u=ai5 i t
 |.str x,u=>∃t,u=ap2 x t
 |.byt b,u=>∃t,u=F3.bytes b t
 |.flt b,u=>∃t,u=F3.float b t
 |.ref a,u=>u=V4 a
 |.ty n,u=>u=ag1 n
abbrev ay:List V->List F3->Prop:=X7 aN
theorem ay.length{xs:List V}{us:List F3}(r:ay xs us):xs.length=us.length:=al5 r
theorem ay.get:∀{xs:List V}{us:List F3}{i:Nat}{x:V},ay xs us->xs[i]?=some x->∃u,us[i]?=some u/\aN x u
 |_,_,_,_,.nil,e=>by simp at e
 |_,_,0,_,.cons r _,e=>by simp at e;subst e;exact⟨_,rfl,r⟩
 |_,_,i+1,x,.cons _ t,e=>by
  obtain⟨u,h1,h2⟩:=ay.get (i:=i) (x:=x) t (by simpa using e);exact⟨u,by simpa using h1,h2⟩
theorem ay.set{x:V}{u:F3}(r:aN x u):∀{xs:List V}{us:List F3}(i:Nat),ay xs us->ay (xs.set i x) (us.set i u)
 |_,_,_,.nil=>.nil
 |_,_,0,.cons _ t=>.cons r t
 |_,_,i+1,.cons q t=>.cons q (ay.set r i t)
theorem ay.append:∀{xs ys:List V}{us ws:List F3},ay xs us->ay ys ws->ay (xs++ys) (us++ws)
 |_,_,_,_,.nil,s=>s
 |_,_,_,_,.cons r t,s=>.cons r (ay.append t s)
theorem ay.take:∀{xs:List V}{us:List F3}(n:Nat),ay xs us->ay (xs.take n) (us.take n)
 |_,_,0,_=>.nil
 |_,_,_+1,.nil=>.nil
 |_,_,n+1,.cons r t=>.cons r (ay.take n t)
theorem ay.drop:∀{xs:List V}{us:List F3}(n:Nat),ay xs us->ay (xs.drop n) (us.drop n)
 |_,_,0,r=>r
 |_,_,_+1,.nil=>.nil
 |_,_,n+1,.cons _ t=>ay.drop n t
def kG:Option V->Option F3->Prop
 |some v,some u=>aN v u
 |none,none=>True
 |_,_=>False
def KV{κ:Type}:List (κ×V)->List (κ×F3)->Prop:=X7 fun(p:κ×V) (q:κ×F3)=>p.1=q.1/\aN p.2 q.2
def kV:Key->V
 |.inl i=>.int i
 |.inr x=>.str x
inductive HO where
 |lst (xs:List V)
 |tup (xs:List V)
 |dK (kvs:List (Key×V))|dT (kvs:List (List Key×V))
 |set (S:Int->Bool) (n:Nat)
 |ins (C dx:J7) (fs:List (Str×V))
 |own (x:J7)
 |xd (fs:List (Str×V))
 |met (f x:J7)
 |rng (lo hi:Int)
 |frz (o:Obj) (u:HO)
 |tbl (ps:Array F3)
 |ext (φ:K7->Prop)
abbrev Hp:=J7->Option HO
def upd(H:Hp) (a:J7) (o:HO):Hp:=fun b=>if b=a then some o else H b
theorem bg{H:Hp}{a:J7}{o:HO}:upd H a o a=some o:=by unfold upd;rw[if_pos rfl]
theorem aZ{H:Hp}{a b:J7}{o:HO}(h:b≠a):upd H a o b=H b:=by unfold upd;rw[if_neg h]
theorem CL{H:Hp}{a b:J7}{o u:HO}(h:H a=some o) (h':H b=some u) (d:o≠u):a≠b:=by
 intro e;subst e;rw[h]at h';exact d (Q7 h')
theorem cT{H:Hp}{a b:J7}{o:HO}(h:H a=some o) (h':H b=none):a≠b:=by
 intro e;subst e;rw[h]at h';cases h'
def jd(h:K7) (a:J7) (xs:Array F3):Prop:=∃o,h.get? a=some o/\o.cls=.type "tuple"/\(∃n,o.data=.seq xs n)/\o.dict=none
theorem jd.tup{h:K7}{a:J7}{xs:Array F3}(x:jd h a xs):al6 h a xs:=let⟨o,e,c,d,_⟩:=x;⟨o,e,c,d⟩
theorem jd.lt{h:K7}{a:J7}{xs:Array F3}(x:jd h a xs):a<h.objs.size:=let⟨_,e,_⟩:=x;J4 e
theorem jd.new(h:K7) (xs:Array F3):jd (h.push { cls:=.type "tuple",data:=.seq xs }) h.objs.size xs:=⟨_,J3 h rfl,rfl,⟨_,rfl⟩,rfl⟩
section
variable(P:L1) (w:P9)
def bT(H:Hp) (h:K7) (a:J7):HO->Prop
 |.lst xs=>xs.length<=F7/\∃(its:List F3) (n:Nat),ay xs its/\h.get? a=some { cls:=.type "list",data:=.seq its.toArray n }
 |.tup xs=>xs.length<=F7/\∃its:List F3,ay xs its/\jd h a its.toArray
 |.dK kvs=>kvs.length<=F7/\(a==ae9)=false/\∃vs,KV kvs vs/\h.DictOf (bX P w) a vs
 | .dT kvs => kvs.length ≤ F7 ∧ (a == ae9) = false ∧ ∃ xs:List (List Key × J7 × F3),
   X7 (fun(p:List Key×V) (q:List Key×J7×F3)=>p.1=q.1/\H q.2.1=some (.tup (p.1.map kV))/\aN p.2 q.2.2) kvs xs /\
   ∃o es ep,h.get? a=some o/\o.ExactDict/\o.data=.dict es ep/\es.toList=xs.map (entryOfKey (an9 (bX P w)))/\(xs.map (·.1)).Nodup
 |.set S n=>h.SetOf (intKind P w) a S n
 | .ins C dx fs => H dx = some (.own a) ∧ fs.length ≤ 1000 ∧ dx ≠ a ∧ h.get? a = some (PySem.W.instObj C dx) ∧
   ∃mA,h.Ns1 dx mA/\(∀f,kG (fs.lookup f) (mA f))/\PySem.Within mA (fs.map (·.1))
 |.own _=>∃o,h.get? a=some o
 |.xd fs=>∃mA,h.Ns1 a mA/\∀f,kG (fs.lookup f) (mA f)
 |.rng lo hi=>∃t u v,h.get? a=some { cls:=.type "range",data:=.fields #[.int lo t,.int hi u,.int 1 v] }
 |.frz o u=>h.get? a=some o/\bT H h a u
 |.tbl ps=>h.get? a=some { cls:=.none,data:=.fields ps }
 |.met f x=>h.get? a=some (PySem.W.methodObj (.ref f) (.ref x))
 |.ext φ=>φ h/\(∃o,h.get? a=some o)/\∀h1 h2:K7,φ h1->(∀o,h1.get? a=some o->h2.get? a=some o)->φ h2
def HOk(H:Hp) (h:K7):Prop:=∀a o,H a=some o->bT P w H h a o
end
section
variable{P:L1}{w:P9}{H H':Hp}{h h':K7}{a:J7}{o:HO}
theorem bT.lt(x:bT P w H h a o):a<h.objs.size:=by
 cases o with
 |lst xs=>obtain⟨_,_,_,_,e⟩:=x;exact J4 e
 |tup xs=>obtain⟨_,_,_,p⟩:=x;exact p.lt
 |dK kvs=>obtain⟨_,_,_,_,o,_,_,e,_⟩:=x;exact J4 e
 |dT kvs=>obtain⟨_,_,_,_,o,_,_,e,_⟩:=x;exact J4 e
 |set S n=>obtain⟨o,_,_,_,e,_⟩:=x;exact J4 e
 |ins C dx fs=>obtain⟨_,_,_,e,_⟩:=x;exact J4 e
 |own y=>obtain⟨_,e⟩:=x;exact J4 e
 |xd fs=>obtain⟨_,⟨_,_,_,e,_⟩,_⟩:=x;exact J4 e
 |rng lo hi=>obtain⟨_,_,_,e⟩:=x;exact J4 e
 |frz ob u=>obtain⟨e,_⟩:=x;exact J4 e
 |tbl ps=>exact J4 (show h.get? a=some _ from x)
 |met f y=>exact J4 (show h.get? a=some _ from x)
 |ext φ=>obtain⟨_,⟨_,e⟩,_⟩:=x;exact J4 e
theorem X7.mapP{α β:Type}{F G:α->β->Prop}:∀{l₁:List α}{l₂:List β},X7 F l₁ l₂->(∀a b,F a b->G a b)->X7 G l₁ l₂
 |_,_,.nil,_=>.nil
 |_,_,.cons r t,f=>.cons (f _ _ r) (X7.mapP t f)
theorem X7.imp'{α β:Type}{F G:α->β->Prop}(f:∀a b,F a b->G a b) {l₁:List α}{l₂:List β}(r:X7 F l₁ l₂):X7 G l₁ l₂:=X7.mapP r f
theorem bT.stay(x:bT P w H h a o) (k:∀b u,(b=a∨H b=some (.own a))->h.get? b=some u->h'.get? b=some u)
  (ho:∀b,H b=some (.own a)->H' b=some (.own a)) (ht:∀b xs,H b=some (.tup xs)->H' b=some (.tup xs)):bT P w H' h' a o:=by
 induction o with
 |lst xs=>obtain⟨z,its,n,r,e⟩:=x;exact⟨z,its,n,r,k _ _ (.inl rfl) e⟩
 |tup xs=>obtain⟨z,its,r,ob,e,c⟩:=x;exact⟨z,its,r,ob,k _ _ (.inl rfl) e,c⟩
 |dK kvs=>obtain⟨z,y,vs,r,ob,es,ep,e,c⟩:=x;exact⟨z,y,vs,r,ob,es,ep,k _ _ (.inl rfl) e,c⟩
 |dT kvs =>
  obtain⟨z,y,xs,r,ob,es,ep,e,c⟩:=x;exact⟨z,y,xs,X7.mapP r fun p q z=>⟨z.1,ht _ _ z.2.1,z.2.2⟩,ob,es,ep,k _ _ (.inl rfl) e,c⟩
 |set S n=>obtain⟨ob,es,ep,t,e,c⟩:=x;exact⟨ob,es,ep,t,k _ _ (.inl rfl) e,c⟩
 |ins C dx fs =>
  obtain⟨d,z,ne,e,mA,⟨od,es,ep,e2,c⟩,r⟩:=x;exact⟨ho _ d,z,ne,k _ _ (.inl rfl) e,mA,⟨od,es,ep,k _ _ (.inr d) e2,c⟩,r⟩
 |own y=>obtain⟨ob,e⟩:=x;exact⟨ob,k _ _ (.inl rfl) e⟩
 |xd fs=>obtain⟨mA,⟨od,es,ep,e,c⟩,r⟩:=x;exact⟨mA,⟨od,es,ep,k _ _ (.inl rfl) e,c⟩,r⟩
 |rng lo hi=>obtain⟨t,u,v,e⟩:=x;exact⟨t,u,v,k _ _ (.inl rfl) e⟩
 |frz ob u ih=>obtain⟨e,q⟩:=x;exact⟨k _ _ (.inl rfl) e,ih q⟩
 |tbl ps =>
  have e:h.get? a=some { cls:=.none,data:=.fields ps }:=x;show h'.get? a=some { cls:=.none,data:=.fields ps };exact k a _ (.inl rfl) e
 |met f y =>
  have e:h.get? a=some (PySem.W.methodObj (.ref f) (.ref y)):=x;show h'.get? a=some (PySem.W.methodObj (.ref f) (.ref y));exact k a _ (.inl rfl) e
 |ext φ=>obtain⟨p,⟨o,e⟩,st⟩:=x;exact⟨st _ _ p fun o q=>k _ _ (.inl rfl) q,⟨o,k _ _ (.inl rfl) e⟩,st⟩
theorem HOk.lt(x:HOk P w H h) (e:H a=some o):a<h.objs.size:=(x a o e).lt
theorem HOk.fresh(x:HOk P w H h) (e:h.objs.size<=a):H a=none:=by
 cases q:H a with
 |none=>rfl
 |some u=>exact absurd (J5 (x.lt q) e) (X8 _)
theorem HOk.kept(x:HOk P w H h) (k:∀b u,h.get? b=some u->h'.get? b=some u):HOk P w H h':=fun a o e =>
 (x a o e).stay (fun b u _ q=>k b u q) (fun _ q=>q) fun _ _ q=>q
theorem HOk.laid(x:HOk P w H h) (k:∀b u,h.get? b=some u->h'.get? b=some u) (hp:h.objs.size<=a) (new:bT P w (upd H a o) h' a o):HOk P w (upd H a o) h':=fun b u e=>by
 have hn:=x.fresh hp
 by_cases hb:b=a
 ·subst hb;rw[bg]at e;cases e;exact new
 ·rw[aZ hb]at e;exact(x b u e).stay (fun c v _ q=>k c v q) (fun c q=>by rw[aZ (cT q hn)];exact q) fun c xs q=>by rw[aZ (cT q hn)];exact q
end
def Rd(H:Hp) (a:J7) (u:HO):Prop:=H a=some u∨∃o,H a=some (.frz o u)
theorem Rd.of{H:Hp}{a:J7}{u:HO}(h:H a=some u):Rd H a u:=.inl h
theorem Rd.ok{P:L1}{w:P9}{H:Hp}{h:K7}{a:J7}{u:HO}(r:Rd H a u) (x:HOk P w H h):bT P w H h a u:=by
 rcases r with r|⟨o,r⟩
 ·exact x a u r
 ·obtain⟨_,q⟩:=x a _ r;exact q
def Mut:Option HO->Prop
 |some (.lst _)=>True
 |some (.dK _)=>True
 |some (.dT _)=>True
 |some (.set _ _)=>True
 |some (.ins _ _ _)=>True
 |some (.ext _)=>True
 |_=>False
section
variable{P:L1}{w:P9}{H:Hp}{h h':K7}{x e:J7}{o':HO}
theorem HOk.write(ok:HOk P w H h) (mu:Mut (H x)) (he:e=x∨H e=some (.own x)) (k:∀b u,b≠e->h.get? b=some u->h'.get? b=some u) (heo:∃u,h'.get? e=some u)
  (new:bT P w (upd H x o') h' x o'):HOk P w (upd H x o') h':=fun b u q=>by
 have nown:∀c y,H c=some (.own y)->c≠x:=fun c y r z=>by subst z;rw[r]at mu;exact mu
 have ntup:∀c xs,H c=some (.tup xs)->c≠x:=fun c xs r z=>by subst z;rw[r]at mu;exact mu
 by_cases hb:b=x
 ·subst hb;rw[bg]at q;cases q;exact new
 ·rw[aZ hb]at q
  by_cases hbe:b=e
  ·have q':H b=some (.own x):=by
    rcases he with z|z
    ·exact absurd (hbe.trans z) hb
    ·rw[hbe];exact z
   rw[q]at q';cases q';obtain⟨v,hv⟩:=heo;exact⟨v,by rw[hbe];exact hv⟩
  ·refine(ok b u q).stay (fun c v hc r=>k c v ?_ r) (fun c r=>by rw[aZ (nown c b r)];exact r) fun c xs r=>by rw[aZ (ntup c xs r)];exact r
   rcases hc with rfl|hc
   ·exact hbe
   ·rintro rfl;rcases he with z|z
    ·exact nown c b hc z
    ·rw[hc]at z;cases z;exact hb rfl
end
structure Un(fs ex:List J7) (H H':Hp) (h h':K7):Prop where
 keep:∀b o,h.get? b=some o->H b=none->b∉fs->b∉ex->h'.get? b=some o
 slot:∀b o,h.get? b=some o->H b=none->b∈fs->b∉ex->∃sl,h'.get? b=some { o with slots:=sl }
 free:∀b o,h.get? b=some o->H b=none->b∉ex->H' b=none
 there:∀b o,h.get? b=some o->b∉ex->∃o',h'.get? b=some o'
 tups:∀b xs,H b=some (.tup xs)->H' b=some (.tup xs)
 frzs:∀b o u,H b=some (.frz o u)->H' b=some (.frz o u)
 tbls:∀b ps,H b=some (.tbl ps)->∃more,H' b=some (.tbl (ps++more))
section
variable{fs fs' ex ex':List J7}{H H1 H2:Hp}{h h1 h2 h':K7}{a x e:J7}{o:HO}
theorem Un.any(u:Un fs ex H H1 h h1) {b:J7}{ob:Obj}(q:h.get? b=some ob) (n:H b=none) (hx:b∉ex):∃sl,h1.get? b=some { ob with slots:=sl }:=by
 by_cases hb:b∈fs
 ·exact u.slot b ob q n hb hx
 ·exact⟨ob.slots,u.keep b ob q n hb hx⟩
theorem Un.kept(k:∀b u,h.get? b=some u->h'.get? b=some u):Un fs ex H H h h' :=
 ⟨fun b ob q _ _ _=>k b ob q,fun b ob q _ _ _=>⟨ob.slots,k b ob q⟩,fun _ _ _ n _=>n,fun b ob q _=>⟨ob,k b ob q⟩,fun _ _ q=>q,fun _ _ _ q=>q,fun _ ps q=>⟨#[],by rw[q];simp⟩⟩
theorem Un.refl:Un fs ex H H h h:=Un.kept fun _ _ q=>q
theorem Un.laid(k:∀b u,h.get? b=some u->h'.get? b=some u) (hp:h.objs.size<=a) (hn:H a=none):Un fs ex H (upd H a o) h h' where
 keep:=fun b u q _ _ _=>k b u q
 slot:=fun b u q _ _ _=>⟨u.slots,k b u q⟩
 free:=fun b u q n _=>by rw[aZ (K0 (J5 (J4 q) hp))];exact n
 there:=fun b u q _=>⟨u,k b u q⟩
 tups:=fun b xs q=>by rw[aZ (cT q hn)];exact q
 frzs:=fun b u xs q=>by rw[aZ (cT q hn)];exact q
 tbls:=fun b ps q=>⟨#[],by rw[aZ (cT q hn),q];simp⟩
theorem Un.write(mu:Mut (H x)) (he:e=x∨H e=some (.own x)) (k:∀b u,b≠e->h.get? b=some u->h'.get? b=some u) (heo:∃u,h'.get? e=some u):Un fs ex H (upd H x o) h h':=by
 have hx:∀b,H b=none->b≠x:=fun b n z=>by subst z;rw[n]at mu;exact mu
 have hb:∀b,H b=none->b≠e:=fun b n z=>by
  subst z;rcases he with r|r
  ·exact hx b n r
  ·rw[n]at r;cases r
 have hm:∀b u,H b=some u->¬ Mut (some u)->b≠x:=fun b u q nm z=>by subst z;rw[q]at mu;exact nm mu
 refine⟨fun b u q n _ _=>k b u (hb b n) q,fun b u q n _ _=>⟨u.slots,k b u (hb b n) q⟩,fun b u q n _=>by rw[aZ (hx b n)];exact n,fun b u q _=>?_,
  fun b xs q=>by rw[aZ (hm b _ q fun z=>z)];exact q,fun b u xs q=>by rw[aZ (hm b _ q fun z=>z)];exact q,fun b ps q=>⟨#[],by rw[aZ (hm b _ q fun z=>z),q];simp⟩⟩
 by_cases hbe:b=e
 ·subst hbe;exact heo
 ·exact⟨u,k b u hbe q⟩
end
def trk(h:K7) (H:Hp):List J7:=(R8 h.objs.size).filter fun a=>(H a).isSome
def oW(h:K7) (H:Hp):K7:=PySem.W.hideAll h (trk h H)
theorem uj(h:K7) (H:Hp):(oW h H).objs.size=h.objs.size:=PySem.W.hideAll_size _ _
theorem xw{h:K7}{H:Hp}{b:J7}{o:Obj}(e:h.get? b=some o) (n:H b=none):(oW h H).get? b=some o :=
 PySem.W.hideAll_get _ e fun hm=>by
  have q:(H b).isSome=true:=(ag7.mp hm).2;rw[n]at q;simp at q
theorem zJ{h:K7}{H:Hp}{b:J7}{o:Obj}(e:(oW h H).get? b=some o):h.get? b=some o/\H b=none:=by
 have e':h.get? b=some o:=PySem.W.of_hideAll (trk h H) e;refine⟨e',?_⟩;cases q:H b with
 |none=>rfl
 |some x =>
  have hm:b∈trk h H:=ag7.mpr ⟨aa0.mpr (J4 e'),by simp[q]⟩;have z:(oW h H).get? b=none:=PySem.W.hideAll_none (trk h H) hm;rw[z]at e;cases e
noncomputable def zM(g h:K7) (L:J7):List (J7×Obj):=(R8 h.objs.size).filterMap fun a=>if a=L∨(g.get? a).isSome=true then none else(h.get? a).map fun o=>(a,o)
def rest(g h:K7) (L d:J7):List (J7×Obj):=(zM g h L).filter fun p=>decide (p.1≠d)
structure Mod(K:F2) (mg:Str->Option F3) (base:K7):Prop where
 kin:K.In base
 glob:base.Ns L3 mg
 blt:∃mb,base.Ns builtinsNs mb/\∀x:Str,x≠"__name__"->mb x=W4 x
 nolimit:base.NoLimit
structure Cx where
 prog:L1
 w:P9
 K:F2
 mg:Str->Option F3
 base:K7
 A:O0
 N:List Str
 s₀:F4
 H₀:Hp
 env:Env
 outer:List Env
 stack:List Env
 ex:List J7
 fn:Str->Bool
 calm:Bool
 pn:List (J7×Obj)
 xe:F3->F4->Prop
def frs(l:List Env):List J7:=l.filterMap (·.frame)
abbrev Cx.fs(X:Cx):List J7:=frs X.outer
def Vis(sc:aa1) (x:Str):Prop:=sc.names.lookup x=some .local∨sc.names.lookup x=some .cell∨sc.names.lookup x=some .free
def Loc(sc:aa1) (x:Str):Prop:=sc.names.lookup x=some .local∨sc.names.lookup x=some .cell
def EI(env:Env) (h:K7) (m:Str->Option F3) (x:Str) (u:F3):Prop :=
 (env.kindOf x=some .local/\m x=some u)∨((env.kindOf x=some .cell∨env.kindOf x=some .free)/\∃c,env.cells.lookup x=some c/\h.IsCell c (some u))
structure Cx.Ok(X:Cx):Prop where
 mod:Mod X.K X.mg X.base
 kind:X.env.scope.kind=.function
 glob:X.env.globals=L3
 blt:X.env.builtins=builtinsNs
 above:X.s₀.heap.objs.size<=X.env.locals
 inj:∀x y c,X.env.cells.lookup x=some c->X.env.cells.lookup y=some c->x=y
 has:∀x,(X.env.kindOf x=some .cell∨X.env.kindOf x=some .free)->∃c,X.env.cells.lookup x=some c
 cab:∀x c,X.fn x=true->X.env.cells.lookup x=some c->X.s₀.heap.objs.size<=c
 hd:X.calm=true->X.A.handled=none
 frames:X.A.frames=some X.stack
 stk:X.stack=X.outer∨(X.stack=X.env::X.outer/\X.env.frame=some X.env.locals)
 exf:∀b∈X.ex,b≠X.env.locals/\∀x c,X.env.cells.lookup x=some c->c≠b
 bs:∀b o,X.base.get? b=some o->X.s₀.heap.get? b=some o/\X.H₀ b=none
 bsz:X.base.objs.size<=X.s₀.heap.objs.size
 noex:∀b o,X.base.get? b=some o->b∉X.ex
 exfs:∀b∈X.ex,b∉X.fs
 funs:X.s₀.heap.FunFrames X.base X.outer
 frf:∀b∈X.fs,X.H₀ b=none
structure Inv(X:Cx) (ae:List (J7×Obj)) (σ:List (Option V)) (H:Hp) (s:F4):Prop where
 ok:X.Ok
 os:s.os=X.s₀.os
 bare:al7 s.gens
 base:Un X.fs X.ex X.H₀ H X.s₀.heap s.heap
 loc:∃m,s.heap.Ns X.env.locals m/\∀(i:Nat) (x:Str) (v:V),X.N[i]?=some x->σ[i]?=some (some v)->Vis X.env.scope x->∃u,aN v u/\EI X.env s.heap m x u
 cell:∀x c,X.env.cells.lookup x=some c->∃v,s.heap.IsCell c v
 free:H X.env.locals=none
 freeC:∀x c,X.env.cells.lookup x=some c->H c=none
 pin:∀p∈X.pn++ae,s.heap.get? p.1=some p.2/\H p.1=none/\p.1≠X.env.locals/\p.1∉X.fs/\∀v,p.2.data≠.cell v
 hok:HOk X.prog X.w H s.heap
 len:σ.length=X.N.length
section
variable{X:Cx}{ae:List (J7×Obj)}{σ:List (Option V)}{H H':Hp}{s:F4}{h':K7}
theorem Cx.Ok.nofr(ok:X.Ok) {b:J7}{o:Obj}(e:X.base.get? b=some o):b∉X.fs:=fun hb=>by
 have:=(ok.funs.mem hb).1;rw[e]at this;cases this
theorem Inv.bs(I:Inv X ae σ H s):∀b o,X.base.get? b=some o->s.heap.get? b=some o/\H b=none:=fun b o e =>
 ⟨I.base.keep b o (I.ok.bs b o e).1 (I.ok.bs b o e).2 (I.ok.nofr e) (I.ok.noex b o e),I.base.free b o (I.ok.bs b o e).1 (I.ok.bs b o e).2 (I.ok.noex b o e)⟩
theorem Inv.bk(I:Inv X ae σ H s):∀b o,X.base.get? b=some o->s.heap.get? b=some o:=fun b o e=>(I.bs b o e).1
theorem Inv.mod(I:Inv X ae σ H s):Mod X.K X.mg X.base:=I.ok.mod
theorem Inv.kIn(I:Inv X ae σ H s):X.K.In s.heap:=I.ok.mod.kin.keeps I.bk
theorem Inv.lt(I:Inv X ae σ H s):X.env.locals<s.heap.objs.size:=let⟨_,hn,_⟩:=I.loc;hn.lt
theorem Inv.sz(I:Inv X ae σ H s):X.s₀.heap.objs.size<=s.heap.objs.size:=P7 I.ok.above (ai6 I.lt)
theorem Inv.nofs(I:Inv X ae σ H s) {a:J7}(h:s.heap.objs.size<=a):a∉X.fs:=fun hb=>by
 obtain⟨_,o,ho,_⟩:=I.ok.funs.mem hb;exact absurd (J5 (J4 ho) (P7 I.sz h)) (X8 _)
theorem Inv.cne(I:Inv X ae σ H s):∀x c,X.env.cells.lookup x=some c->c≠X.env.locals:=fun x c e z=>by
 obtain⟨v,o,ho,hd⟩:=I.cell x c e;obtain⟨m,⟨o',es,ep,ho',hd',_⟩,_⟩:=I.loc;rw[z,ho']at ho;cases ho;rw[hd']at hd;cases hd
theorem Inv.funs(I:Inv X ae σ H s):s.heap.FunFrames X.base X.outer:=by
 have all:∀(l:List Env),(∀b∈frs l,b∈X.fs)->X.s₀.heap.FunFrames X.base l->s.heap.FunFrames X.base l:=by
  intro l
  induction l with
  |nil=>intro _ _;trivial
  |cons env r ih =>
   intro hs hl;obtain⟨hk,⟨L,o,hf,hn,ho,hd⟩,hr⟩:=hl;have hL:L∈X.fs:=hs L (by unfold frs;rw[W8,hf];exact Q8);obtain⟨sl,e⟩:=I.base.slot L o ho (I.ok.frf L hL) hL fun z=>I.ok.exfs L z hL;exact⟨hk,⟨L,_,hf,hn,e,hd⟩,ih (fun b hb=>hs b (by unfold frs;rw[W8,hf];exact O7 _ hb)) hr⟩
 exact all X.outer (fun _ hb=>hb) I.ok.funs
theorem Inv.stack(I:Inv X ae σ H s):s.heap.FunFrames X.base X.stack:=by
 rcases I.ok.stk with e|⟨e,hf⟩
 ·rw[e];exact I.funs
 ·rw[e];obtain⟨m,hn,_⟩:=I.loc;refine .cons (by rw[I.ok.kind];decide) hf hn ?_ I.funs;exact K7.get?_none_of_le (P7 I.ok.bsz I.ok.above)
theorem Inv.stkSub(I:Inv X ae σ H s):∀b∈frs X.stack,b∈X.env.locals::X.fs:=fun b hb=>by
 rcases I.ok.stk with e|⟨e,hf⟩
 ·rw[e]at hb;exact O7 _ hb
 ·rw[e]at hb;unfold frs at hb;rw[W8,hf]at hb;exact hb
theorem Inv.stkFree(I:Inv X ae σ H s):∀b∈frs X.stack,H b=none:=fun b hb=>by
 rcases J9.mp (I.stkSub b hb)with e|hb
 ·rw[e];exact I.free
 ·obtain⟨_,o,ho,_⟩:=I.ok.funs.mem hb;exact I.base.free b o ho (I.ok.frf b hb) fun z=>I.ok.exfs b z hb
theorem Inv.step{g':Array ao0}{t':Nat}{d':Drawn}{ch:List J7}(I:Inv X ae σ H s)
  (hch:∀b∈ch,(b∈X.ex∨X.s₀.heap.objs.size<=b)/\b≠X.env.locals/\(∀x c,X.env.cells.lookup x=some c->c≠b)/\∀p∈X.pn++ae,p.1≠b)
  (keep:∀b o,b≠X.env.locals->b∉X.fs->b∉ch->s.heap.get? b=some o->H b=none->h'.get? b=some o)
  (slot:∀b o,b≠X.env.locals->b∈X.fs->b∉ch->s.heap.get? b=some o->H b=none->∃sl,h'.get? b=some { o with slots:=sl }) (free:∀b o,b∉ch->s.heap.get? b=some o->H b=none->H' b=none)
  (there:∀b o,b∉ch->s.heap.get? b=some o->∃o',h'.get? b=some o')
  (tups:∀b xs,H b=some (.tup xs)->H' b=some (.tup xs)) (frzs:∀b o u,H b=some (.frz o u)->H' b=some (.frz o u)) (tbls:∀b ps,H b=some (.tbl ps)->∃more,H' b=some (.tbl (ps++more)))
  (ns:∀m,s.heap.Ns X.env.locals m->h'.Ns X.env.locals m) (hok:HOk X.prog X.w H' h') (hg:al7 g') :
  Inv X ae σ H' { s with heap:=h',gens:=g',drawn:=d',toks:=t' }:=by
 have neL:∀b o,X.s₀.heap.get? b=some o->b≠X.env.locals:=fun b o e=>K0 (J5 (J4 e) I.ok.above);have neC:∀b o,X.s₀.heap.get? b=some o->b∉X.ex->b∉ch:=fun b o e hx hb=>by
  rcases(hch b hb).1 with z|z
  ·exact hx z
  ·exact absurd (J5 (J4 e) z) (X8 _)
 have cellK:∀x c,X.env.cells.lookup x=some c->∀v,s.heap.IsCell c v->h'.IsCell c v:=fun x c e v ⟨o,ho,hd⟩=>by
  have nch:c∉ch:=fun z=>(hch c z).2.2.1 x c e rfl
  by_cases hc:c∈X.fs
  ·obtain⟨sl,q⟩:=slot c o (I.cne x c e) hc nch ho (I.freeC x c e);exact⟨_,q,hd⟩
  ·exact⟨o,keep c o (I.cne x c e) hc nch ho (I.freeC x c e),hd⟩
 refine⟨I.ok,I.os,hg,⟨fun b o e n hb hx=>?_,fun b o e n hb hx=>?_,fun b o e n hx=>?_,fun b o e hx=>?_,fun b xs e=>tups b xs (I.base.tups b xs e),fun b o xs e=>frzs b o xs (I.base.frzs b o xs e),fun b ps e=>?_⟩,?_,fun x c e=>?_,?_,fun x c e=>?_,fun p hp=>?_,hok,I.len⟩
 ·exact keep b o (neL b o e) hb (neC b o e hx) (I.base.keep b o e n hb hx) (I.base.free b o e n hx)
 ·obtain⟨sl,e1⟩:=I.base.slot b o e n hb hx;obtain⟨sl',e2⟩:=slot b _ (neL b o e) hb (neC b o e hx) e1 (I.base.free b o e n hx);exact⟨sl',e2⟩
 ·obtain⟨o',e1⟩:=I.base.there b o e hx;exact free b o' (neC b o e hx) e1 (I.base.free b o e n hx)
 ·obtain⟨o',e1⟩:=I.base.there b o e hx;exact there b o' (neC b o e hx) e1
 ·obtain⟨m1,e1⟩:=I.base.tbls b ps e;obtain⟨m2,e2⟩:=tbls b _ e1;exact⟨m1++m2,by rw[e2,Array.append_assoc]⟩
 ·obtain⟨m,hn,hl⟩:=I.loc;refine⟨m,ns m hn,fun i x v e1 e2 e3=>?_⟩;obtain⟨u,r,l⟩:=hl i x v e1 e2 e3;refine⟨u,r,?_⟩;rcases l with l|⟨k,c,e,z⟩
  ·exact .inl l
  ·exact .inr ⟨k,c,e,cellK x c e _ z⟩
 ·obtain⟨v,z⟩:=I.cell x c e;exact⟨v,cellK x c e v z⟩
 ·obtain⟨m,⟨o,_,_,ho,_⟩,_⟩:=I.loc;exact free _ o (fun z=>(hch _ z).2.1 rfl) ho I.free
 ·obtain⟨v,o,ho,hd⟩:=I.cell x c e;exact free c o (fun z=>(hch c z).2.2.1 x c e rfl) ho (I.freeC x c e)
 ·obtain⟨e,n,ne,nf,d⟩:=I.pin p hp;have nch:p.1∉ch:=fun z=>(hch p.1 z).2.2.2 p hp rfl;exact⟨keep p.1 p.2 ne nf nch e n,free p.1 p.2 nch e n,ne,nf,d⟩
theorem Inv.un{t':Nat}(I:Inv X ae σ H s) (u:Un X.fs [] H H' s.heap h') (hok:HOk X.prog X.w H' h'):Inv X ae σ H' { s with heap:=h',toks:=t' }:=by
 obtain⟨m,⟨o,es,ep,ho,r⟩,_⟩:=id I.loc;obtain⟨sl,hL⟩:=u.any ho I.free (by simp);exact I.step (g':=s.gens) (d':=s.drawn) (ch:=[]) (fun _ z=>nomatch z) (fun b o _ hb _ e n=>u.keep b o e n hb (by simp)) (fun b o _ hb _ e n=>u.slot b o e n hb (by simp)) (fun b o _ e n=>u.free b o e n (by simp)) (fun b o _ e=>u.there b o e (by simp)) u.tups u.frzs u.tbls (fun m' hm=>by
  obtain⟨o',es',ep',ho',r'⟩:=hm;rw[ho]at ho';cases ho';exact⟨_,es',ep',hL,r'⟩) hok I.bare
theorem Inv.call{g':Array ao0}{t':Nat}{d':Drawn}{ch:List J7}(I:Inv X ae σ H s) (u:Un (frs X.stack) ch H H' s.heap h') (hok:HOk X.prog X.w H' h') (hg:al7 g')
  (hch:∀b∈ch,(b∈X.ex∨X.s₀.heap.objs.size<=b)/\b≠X.env.locals/\(∀x c,X.env.cells.lookup x=some c->c≠b)/\∀p∈X.pn++ae,p.1≠b) :
  Inv X ae σ H' { s with heap:=h',gens:=g',drawn:=d',toks:=t' }:=by
 obtain⟨m,⟨o,es,ep,ho,r⟩,_⟩:=id I.loc;obtain⟨sl,hL⟩:=u.any ho I.free fun z=>(hch _ z).2.1 rfl;exact I.step (ch:=ch) hch (fun b o hL hb hc e n=>u.keep b o e n (fun z=>(J9.mp (I.stkSub b z)).elim hL hb) hc) (fun b o _ _ hc e n=>u.any e n hc) (fun b o hc e n=>u.free b o e n hc) (fun b o hc e=>u.there b o e hc) u.tups u.frzs u.tbls (fun m' hm=>by
  obtain⟨o',es',ep',ho',r'⟩:=hm;rw[ho]at ho';cases ho';exact⟨_,es',ep',hL,r'⟩) hok hg
theorem Inv.turned{t':Nat}{it:J7}(I:Inv X ae σ H s) (k:∀b o,b≠it->s.heap.get? b=some o->h'.get? b=some o) (hn:H it=none) (hL:it≠X.env.locals)
  (h1:it∈X.ex∨X.s₀.heap.objs.size<=it) (h2:∀x c,X.env.cells.lookup x=some c->c≠it) (h3:∀p∈X.pn++ae,p.1≠it):Inv X ae σ H { s with heap:=h',toks:=t' }:=by
 have nit:∀b u,H b=some u->b≠it:=fun b u e z=>by rw[z,hn]at e;cases e
 refine I.step (g':=s.gens) (d':=s.drawn) (ch:=[it]) (fun b hb=>?_) (fun b o _ _ hc e _=>k b o (fun z=>hc (by simp[z])) e) (fun b o _ _ hc e _=>⟨o.slots,k b o (fun z=>hc (by simp[z])) e⟩) (fun _ _ _ _ n=>n)
  (fun b o hc e=>⟨o,k b o (fun z=>hc (by simp[z])) e⟩) (fun _ _ e=>e) (fun _ _ _ e=>e) (fun b ps e=>⟨#[],by rw[e];simp⟩) (fun m hm=>?_) (fun b u e=>?_) I.bare
 ·have e:b=it:=by simpa using hb
  subst e;exact⟨h1,hL,h2,h3⟩
 ·obtain⟨o,es,ep,ho,r⟩:=hm;exact⟨o,es,ep,k _ o (aa7 hL) ho,r⟩
 ·refine(I.hok b u e).stay (fun c v hc q=>k c v ?_ q) (fun _ q=>q) fun _ _ q=>q;rcases hc with z|z
  ·rw[z];exact nit b u e
  ·exact nit c _ z
theorem Inv.tok(I:Inv X ae σ H s) (t:Nat):Inv X ae σ H { s with toks:=t }:=I.un (h':=s.heap) (t':=t) Un.refl I.hok
theorem Inv.kept{t':Nat}(I:Inv X ae σ H s) (k:∀b u,s.heap.get? b=some u->h'.get? b=some u):Inv X ae σ H { s with heap:=h',toks:=t' }:=I.un (Un.kept k) (I.hok.kept k)
theorem Inv.laid{a:J7}{o:HO}{t':Nat}(I:Inv X ae σ H s) (k:∀b u,s.heap.get? b=some u->h'.get? b=some u) (hp:s.heap.objs.size<=a) (new:bT X.prog X.w (upd H a o) h' a o) :
  Inv X ae σ (upd H a o) { s with heap:=h',toks:=t' }:=I.un (Un.laid k hp (I.hok.fresh hp)) (I.hok.laid k hp new)
theorem Inv.write{x e:J7}{o:HO}{t':Nat}(I:Inv X ae σ H s) (mu:Mut (H x)) (he:e=x∨H e=some (.own x)) (k:∀b u,b≠e->s.heap.get? b=some u->h'.get? b=some u) (heo:∃u,h'.get? e=some u)
  (new:bT X.prog X.w (upd H x o) h' x o):Inv X ae σ (upd H x o) { s with heap:=h',toks:=t' }:=I.un (Un.write mu he k heo) (I.hok.write mu he k heo new)
theorem Inv.pins_of{pins':List (J7×Obj)}(I:Inv X ae σ H s) (h:∀p∈pins',s.heap.get? p.1=some p.2/\H p.1=none/\p.1≠X.env.locals/\p.1∉X.fs/\∀v,p.2.data≠.cell v):Inv X pins' σ H s :=
 ⟨I.ok,I.os,I.bare,I.base,I.loc,I.cell,I.free,I.freeC,fun p hp=>(O3.mp hp).elim (fun z=>I.pin p (T6 _ z)) (h p),I.hok,I.len⟩
theorem qI{N:List Str}(hN:N.Nodup) {i j:Nat}{x:Str}(a:N[i]?=some x) (b:N[j]?=some x):i=j:=by
 obtain⟨h1,e1⟩:=F8.mp a;obtain⟨h2,e2⟩:=F8.mp b;exact(List.getElem_inj hN).mp (e1.trans e2.symm)
theorem jQ{M:Model}{A:O0}{E:F3->F4->Prop}{i:Nat}{x:Str}{v:V}{u:F3}{Q:Unit->F4->Prop}(I:Inv X ae σ H s) (hN:X.N.Nodup) (hi:X.N[i]?=some x) (hx:Loc X.env.scope x) (r:aN v u)
  (h:∀s',Inv X ae (σ.set i (some v)) H s'->(∃a,O4 a s.heap s'.heap/\(a=X.env.locals∨X.env.cells.lookup x=some a))->Q () s') (hf:X.fn x=true∨X.env.scope.names.lookup x=some .local:=by first|exact .inl rfl|exact .inr rfl|assumption):K2 M A (storeName X.env x u) Q E s:=by
 obtain⟨m,hn,hl⟩:=id I.loc;have hcls:(X.env.scope.kind==.class || (X.env.scope.kind==.module&&X.env.locals != X.env.globals))=false:=by rw[I.ok.kind];rfl
 have hiσ:i<σ.length:=by rw[I.len];exact(F8.mp hi).1
 have cne:=I.cne;have tracked:∀{a:J7} {h':K7},(∃o,s.heap.get? a=some o/\H a=none)->O4 a s.heap h'->HOk X.prog X.w H h':=fun {a h'} ha hs b ob e=>by
  obtain⟨_,_,hfree⟩:=ha;refine(I.hok b ob e).stay (fun c w' hc q=>(hs.2 c ?_).trans q) (fun _ q=>q) fun _ _ q=>q;rintro rfl;rcases hc with rfl|hc
  ·rw[hfree]at e;cases e
  ·rw[hfree]at hc;cases hc
 rcases hx with hk|hk
 ·refine wpAny_storeName_local hk hn (fun h' hn' hs=>?_) hcls;obtain⟨oL,_,_,hoL,_⟩:=id hn;refine h _ ⟨I.ok,I.os,I.bare,⟨fun b o e n hb hx=>?_,fun b o e n hb hx=>?_,I.base.free,fun b o e hx=>?_,I.base.tups,I.base.frzs,I.base.tbls⟩,⟨_,hn',fun j y v' e1 e2 e3=>?_⟩,fun y c e=>?_,I.free,I.freeC,fun p hp=>?_,tracked ⟨oL,hoL,I.free⟩ hs,by simpa using I.len⟩ ⟨_,hs,.inl rfl⟩
  ·exact(hs.2 b (K0 (J5 (J4 e) I.ok.above))).trans (I.base.keep b o e n hb hx)
  ·obtain⟨sl,e1⟩:=I.base.slot b o e n hb hx;exact⟨sl,(hs.2 b (K0 (J5 (J4 e) I.ok.above))).trans e1⟩
  ·obtain⟨o',e1⟩:=I.base.there b o e hx;exact⟨o',(hs.2 b (K0 (J5 (J4 e) I.ok.above))).trans e1⟩
  ·by_cases hj:j=i
   ·subst hj;rw[hi]at e1;cases e1;rw[S8 hiσ]at e2;cases e2;exact⟨u,r,.inl ⟨hk,by simp⟩⟩
   ·rw[W0 (aa7 hj)]at e2;obtain⟨u',r',q⟩:=hl j y v' e1 e2 e3;refine⟨u',r',?_⟩;rcases q with⟨k,e⟩|⟨k,c,e,z⟩
    ·refine .inl ⟨k,?_⟩;have:y≠x:=fun e=>hj (qI hN e1 (e▸hi));simp[this,e]
    ·exact .inr ⟨k,c,e,z.sameBut hs (cne y c e)⟩
  ·obtain⟨w',z⟩:=I.cell y c e;exact⟨w',z.sameBut hs (cne y c e)⟩
  ·obtain⟨e,n,ne,nf,d⟩:=I.pin p hp;exact⟨(hs.2 p.1 ne).trans e,n,ne,nf,d⟩
 ·have hfn:X.fn x=true:=by
   rcases hf with z|z
   ·exact z
   ·rw[z]at hk;cases hk
  obtain⟨c,hc⟩:=I.ok.has x (.inl hk);obtain⟨w',z⟩:=I.cell x c hc;refine wpAny_storeName_cell I.ok.kind hk hc z (fun h' hc' hs=>?_);obtain⟨oc,hoc,hocd⟩:=id z;refine h { s with heap:=h' } ⟨I.ok,I.os,I.bare,⟨fun b o e n hb hx=>?_,fun b o e n hb hx=>?_,I.base.free,fun b o e hx=>?_,I.base.tups,I.base.frzs,I.base.tbls⟩,⟨m,hn.sameBut hs (aa7 (cne x c hc)),fun j y v' e1 e2 e3=>?_⟩,fun y c' e=>?_,I.free,I.freeC,fun p hp=>?_,tracked ⟨oc,hoc,I.freeC x c hc⟩ hs,by simpa using I.len⟩ ⟨c,hs,.inr hc⟩
  ·exact(hs.2 b (K0 (J5 (J4 e) (I.ok.cab x c hfn hc)))).trans (I.base.keep b o e n hb hx)
  ·obtain⟨sl,e1⟩:=I.base.slot b o e n hb hx;exact⟨sl,(hs.2 b (K0 (J5 (J4 e) (I.ok.cab x c hfn hc)))).trans e1⟩
  ·obtain⟨o',e1⟩:=I.base.there b o e hx;exact⟨o',(hs.2 b (K0 (J5 (J4 e) (I.ok.cab x c hfn hc)))).trans e1⟩
  ·by_cases hj:j=i
   ·subst hj;rw[hi]at e1;cases e1;rw[S8 hiσ]at e2;cases e2;exact⟨u,r,.inr ⟨.inl hk,c,hc,hc'⟩⟩
   ·rw[W0 (aa7 hj)]at e2;obtain⟨u',r',q⟩:=hl j y v' e1 e2 e3;refine⟨u',r',?_⟩;rcases q with q|⟨k,c',e,z'⟩
    ·exact .inl q
    ·refine .inr ⟨k,c',e,z'.sameBut hs ?_⟩;rintro rfl;exact hj (qI hN e1 (I.ok.inj _ _ _ e hc▸hi))
  ·by_cases hcc:c'=c
   ·subst hcc;exact⟨_,hc'⟩
   ·obtain⟨w2,z2⟩:=I.cell y c' e;exact⟨w2,z2.sameBut hs hcc⟩
  ·obtain⟨e,n,ne,nf,d⟩:=I.pin p hp;refine⟨(hs.2 p.1 ?_).trans e,n,ne,nf,d⟩;intro q;rw[q,hoc]at e;have q':oc=p.2:=Q7 e;exact d w' (by rw[<-q'];exact hocd)
theorem gB{M:Model}{A:O0}{E:F3->F4->Prop}{i:Nat}{x:Str}{v:V}{u:F3}{Q:Unit->F4->Prop}(I:Inv X ae σ H s) (hN:X.N.Nodup) (hi:X.N[i]?=some x) (hx:Loc X.env.scope x) (r:aN v u)
  (h:∀s',Inv X ae (σ.set i (some v)) H s'->Q () s') (hf:X.fn x=true∨X.env.scope.names.lookup x=some .local:=by first|exact .inl rfl|exact .inr rfl|assumption):K2 M A (storeName X.env x u) Q E s :=
 jQ I hN hi hx r (fun s' I' _=>h s' I') hf
theorem Inv.call'{s':F4}{ch:List J7}(I:Inv X ae σ H s) (ho:s'.os=s.os) (u:Un (frs X.stack) ch H H' s.heap s'.heap) (hok:HOk X.prog X.w H' s'.heap) (hg:al7 s'.gens)
  (hch:∀b∈ch,(b∈X.ex∨X.s₀.heap.objs.size<=b)/\b≠X.env.locals/\(∀x c,X.env.cells.lookup x=some c->c≠b)/\∀p∈X.pn++ae,p.1≠b):Inv X ae σ H' s':=by
 obtain⟨h',g',d',t',o'⟩:=s';have e:o'=s.os:=ho;subst e;exact I.call (g':=g') (t':=t') (d':=d') u hok hg hch
end
abbrev XK:=F3->Option J7->Hp->Prop
noncomputable abbrev St:=List (Option V)
abbrev VK:=V->Hp->Prop
abbrev TE:=St->Hp->VK->Prop
abbrev TT:=St->Hp->(Bool->Hp->Prop)->Prop
abbrev TA:=St->Hp->(List V->Hp->Prop)->Prop
structure pU where
 nx:St->Hp->Prop
 rt:VK
 bk:St->Hp->Prop:=fun _ _=>False
 ct:St->Hp->Prop:=fun _ _=>False
abbrev TS:=pU->St->Hp->Prop
def EP(X:Cx) (ae:List (J7×Obj)) (σ:St) (Q:VK) (u:F3) (s':F4):Prop:=∃v H',Inv X ae σ H' s'/\aN v u/\Q v H'
def TP(X:Cx) (ae:List (J7×Obj)) (σ:St) (Q:Bool->Hp->Prop) (b:Bool) (s':F4):Prop:=∃H',Inv X ae σ H' s'/\Q b H'
def AP(X:Cx) (ae:List (J7×Obj)) (σ:St) (Q:List V->Hp->Prop) (us:List F3) (s':F4):Prop:=∃vs H',Inv X ae σ H' s'/\ay vs us/\Q vs H'
theorem EP.el{X:Cx}{ae:List (J7×Obj)}{σ:St}{Q:VK}{u:F3}{s:F4}{P:Prop}(h:EP X ae σ Q u s) (f:∀(v:V) (H:Hp),Inv X ae σ H s->aN v u->Q v H->P):P:=by
 obtain⟨x1,x2,a,b,c⟩:=h;exact f x1 x2 a b c
theorem AP.el{X:Cx}{ae:List (J7×Obj)}{σ:St}{Q:List V->Hp->Prop}{u:List F3}{s:F4}{P:Prop}(h:AP X ae σ Q u s) (f:∀(v:List V) (H:Hp),Inv X ae σ H s->ay v u->Q v H->P):P:=by
 obtain⟨x1,x2,a,b,c⟩:=h;exact f x1 x2 a b c
theorem TP.el{X:Cx}{ae:List (J7×Obj)}{σ:St}{Q:Bool->Hp->Prop}{u:Bool}{s:F4}{P:Prop}(h:TP X ae σ Q u s) (f:∀(H:Hp),Inv X ae σ H s->Q u H->P):P:=by
 obtain⟨x1,a,b⟩:=h;exact f x1 a b
def SP(X:Cx) (ae:List (J7×Obj)) (D:pU) (f:Flow) (s':F4):Prop :=
 match f with
 |.next=>∃ σ' H',Inv X ae σ' H' s'/\D.nx σ' H'
 |.brk=>∃ σ' H',Inv X ae σ' H' s'/\D.bk σ' H'
 |.cont=>∃ σ' H',Inv X ae σ' H' s'/\D.ct σ' H'
 |.ret u=>∃v σ' H',Inv X ae σ' H' s'/\aN v u/\D.rt v H'
def PE(X:Cx) (e:M9) (t:TE):Prop :=
 ∀(ae:List (J7×Obj)) (s:F4) (σ:St) (H:Hp) (Q:VK),Inv X ae σ H s->t σ H Q->K2 (L5 X.prog X.w) X.A (ad3 e X.env) (EP X ae σ Q) X.xe s
def PT(X:Cx) (e:M9) (t:TT):Prop :=
 ∀(ae:List (J7×Obj)) (s:F4) (σ:St) (H:Hp) (Q:Bool->Hp->Prop),Inv X ae σ H s->t σ H Q->K2 (L5 X.prog X.w) X.A (isTrue e X.env (ad3 e X.env)) (TP X ae σ Q) X.xe s
def PW(X:Cx) (e:M9) (t:TT):Prop :=
 ∀(whole:Sem F3) (ae:List (J7×Obj)) (s:F4) (σ:St) (H:Hp) (Q:Bool->Hp->Prop),Inv X ae σ H s->t σ H Q->K2 (L5 X.prog X.w) X.A (isTrue e X.env whole) (TP X ae σ Q) X.xe s
theorem PW.pt{X:Cx}{e:M9}{t:TT}(h:PW X e t):PT X e t:=h _
def PA(X:Cx) (es:List M9) (t:TA):Prop :=
 ∀(pos:Pos) (ae:List (J7×Obj)) (s:F4) (σ:St) (H:Hp) (Q:List V->Hp->Prop),Inv X ae σ H s->t σ H Q->K2 (L5 X.prog X.w) X.A (spliced (V7 pos (K4 es X.env))) (AP X ae σ Q) X.xe s
def PS(X:Cx) (st:ac2) (t:TS):Prop :=
 ∀(ae:List (J7×Obj)) (s:F4) (σ:St) (H:Hp) (D:pU),Inv X ae σ H s->t D σ H->K2 (L5 X.prog X.w) X.A (exec st X.env) (SP X ae D) X.xe s
def PSs(X:Cx) (st:List ac2) (t:TS):Prop :=
 ∀(ae:List (J7×Obj)) (s:F4) (σ:St) (H:Hp) (D:pU),Inv X ae σ H s->t D σ H->K2 (L5 X.prog X.w) X.A (execs st X.env) (SP X ae D) X.xe s
theorem thn{α:Type}{t:Sem α}{Q Q':α->F4->Prop}{M:Model}{A:O0}{E:F3->F4->Prop}{s:F4}(h:K2 M A t Q E s) (hQ:∀a s,Q a s->Q' a s):K2 M A t Q' E s:=P0 h hQ fun _ _ x=>x
section
variable{X:Cx}
def Et(i:Nat):TE:=fun σ H Q=>∃v,σ[i]?=some (some v)/\Q v H
def tC(v:V):TE:=fun _ H Q=>Q v H
theorem Co{i:Nat}{x:Str}{pos:Pos}(hN:X.N[i]?=some x) (hv:Vis X.env.scope x) (hd:(x==("__debug__":Str))=false:=by decide) (hcd:(x==("__classdict__":Str))=false:=by decide):PE X (.Name x pos) (Et i):=by
 intro ae s σ H Q I h;obtain⟨v,e,h⟩:=h;obtain⟨m,hn,hl⟩:=I.loc;obtain⟨u,r,l⟩:=hl i x v hN e hv;have fin:EP X ae σ Q u s:=⟨v,H,I,r,h⟩;rcases l with⟨hk,hm⟩|⟨hk,c,hc,hcell⟩
 ·exact wpAny_Name (wpAny_loadName_local I.ok.kind hk hn hm fin) hd
 ·rcases hk with hk|hk
  ·exact wpAny_Name (wpAny_loadName_cell I.ok.kind hk hc hcell fin) hd
  ·exact wpAny_Name (wpAny_loadName_free I.ok.kind hk hc hcell fin hcd) hd
theorem Bw{i j pos}:PE X (.Constant (.int i) j pos) (tC (.int i)):=fun _ _ _ H _ I h=>wpAny_Constant_int ⟨.int i,H,I.tok _,⟨_,rfl⟩,h⟩
theorem D9{b j pos}:PE X (.Constant (.bool b) j pos) (tC (.bl b)):=fun _ _ _ H _ I h=>Constant_bool ⟨.bl b,H,I,rfl,h⟩
theorem B7{j pos}:PE X (.Constant .none j pos) (tC .non):=fun _ _ _ H _ I h=>Constant_none ⟨.non,H,I,rfl,h⟩
theorem A8{x j pos}:PE X (.Constant (.str x) j pos) (tC (.str x)):=fun _ _ _ H _ I h=>Calls.Constant_str ⟨.str x,H,I.tok _,⟨_,rfl⟩,h⟩
def Gl(X:Cx) (x:Str):Prop:=X.env.kindOf x=some .globalImplicit
theorem sS{E:F3->F4->Prop}{ae:List (J7×Obj)}{s:F4}{σ:St}{H:Hp}{x:Str}{u:F3}{pos:Pos}{Q:F3->F4->Prop}(I:Inv X ae σ H s) (hg:Gl X x) (hm:X.mg x=some u) (h:Q u s)
  (hd:(x==("__debug__":Str))=false:=by decide):K2 (L5 X.prog X.w) X.A (ad3 (.Name x pos) X.env) Q E s :=
 Calls.Name_function_global I.ok.kind hg (Calls.loadGlobal_global (by rw[I.ok.glob];exact I.mod.glob.keeps I.bk) hm h) hd
theorem iF{E:F3->F4->Prop}{ae:List (J7×Obj)}{s:F4}{σ:St}{H:Hp}{x:Str}{u:F3}{pos:Pos}{Q:F3->F4->Prop}(I:Inv X ae σ H s) (hg:Gl X x) (hm:X.mg x=none) (hv:W4 x=some u) (h:Q u s)
  (hn:x≠"__name__":=by decide) (hd:(x==("__debug__":Str))=false:=by decide):K2 (L5 X.prog X.w) X.A (ad3 (.Name x pos) X.env) Q E s:=by
 obtain⟨mb,h1,h2⟩:=I.mod.blt;exact Calls.Name_function_global I.ok.kind hg (Calls.loadGlobal_builtin (by rw[I.ok.glob];exact I.mod.glob.keeps I.bk) hm (by rw[I.ok.blt];exact h1.keeps I.bk) ((h2 x hn).trans hv) h) hd
theorem tP{x:Str}{v:V}{u:F3}{pos:Pos}(hg:Gl X x) (hm:X.mg x=some u) (r:aN v u) (hd:(x==("__debug__":Str))=false:=by decide):PE X (.Name x pos) (tC v) :=
 fun _ _ _ H _ I h=>sS I hg hm ⟨v,H,I,r,h⟩ hd
theorem zq{x:Str}{v:V}{u:F3}{pos:Pos}(hg:Gl X x) (hm:X.mg x=none) (hv:W4 x=some u) (r:aN v u) (hn:x≠"__name__":=by decide) (hd:(x==("__debug__":Str))=false:=by decide):PE X (.Name x pos) (tC v) :=
 fun _ _ _ H _ I h=>iF I hg hm hv ⟨v,H,I,r,h⟩ hn hd
variable{a b:M9}{ta tb:TE}{pos:Pos}
theorem vS(b:M9) {op:ap3}(h:op≠.In) (h2:op≠.NotIn):af0 op b=false:=by
 have e1:(op==ap3.In)=false:=by cases op<;>first|rfl|exact absurd rfl h
 have e2:(op==ap3.NotIn)=false:=by cases op<;>first|rfl|exact absurd rfl h2
 cases b<;>simp[af0,e1,e2]
def tB(t:TE):TT:=fun σ H Q=>t σ H fun x H1=>∃c,x=.bl c/\Q c H1
theorem Cu{e:M9}{t:TE}(h:PE X e t) (he:∀whole,isTrue e X.env whole=(do let v <-whole;an2 e.pos;ak9 [v] (truthy v)):=by intro _;rfl):PT X e (tB t):=by
 intro ae s σ H Q I hw;refine isTrue_plain (thn (h ae s σ H _ I hw) fun v s1 hup=>hup.el fun x H1 I1 r1 q1=>?_) (he _);obtain⟨d,rfl,q⟩:=q1;cases r1;exact aa8 ⟨H1,I1,q⟩
variable{tA tB':TT}{rest:List M9}
def E2(t u:TT):TT:=fun σ H Q=>t σ H fun c H1=>if c=true then u σ H1 Q else Q false H1
def tOr(t u:TT):TT:=fun σ H Q=>t σ H fun c H1=>if c=true then Q true H1 else u σ H1 Q
def Ey(t:TT):TT:=fun σ H Q=>t σ H fun c H1=>Q (!c) H1
theorem yU(ha:PT X a tA):PW X (.BoolOp .And [a] pos) tA:=by
 intro wh ae s σ H Q I h;refine isTrue_and (thn (ha ae s σ H Q I h) fun c s1 e=>?_);cases c with
 |true=>exact isTrue_and_nil e
 |false=>exact e
theorem BZ(ha:PT X a tA):PW X (.BoolOp .Or [a] pos) tA:=by
 intro wh ae s σ H Q I h;refine isTrue_or (thn (ha ae s σ H Q I h) fun c s1 e=>?_);cases c with
 |false=>exact isTrue_or_nil e
 |true=>exact e
theorem BP(ha:PT X a tA) (hb:PW X (.BoolOp .And (b::rest) pos) tB'):PW X (.BoolOp .And (a::b::rest) pos) (E2 tA tB'):=by
 intro wh ae s σ H Q I h;refine isTrue_and (thn (ha ae s σ H _ I h) fun c s1 hup=>hup.el fun H1 I1 q1=>?_);cases c with
 |true=>exact hb wh ae s1 σ H1 Q I1 q1
 |false=>exact⟨H1,I1,q1⟩
theorem C1(ha:PT X a tA) (hb:PW X (.BoolOp .Or (b::rest) pos) tB'):PW X (.BoolOp .Or (a::b::rest) pos) (tOr tA tB'):=by
 intro wh ae s σ H Q I h;refine isTrue_or (thn (ha ae s σ H _ I h) fun c s1 hup=>hup.el fun H1 I1 q1=>?_);cases c with
 |true=>exact⟨H1,I1,q1⟩
 |false=>exact hb wh ae s1 σ H1 Q I1 q1
theorem AQ(ha:PT X a tA):PT X (.UnaryOp .Not a pos) (Ey tA):=by
 intro ae s σ H Q I h;exact isTrue_not (ha ae s σ H (fun c H1=>Q (!c) H1) I h)
def C8(ta tb:TE):TE:=fun σ H Q=>ta σ H fun x H1=>∃c,x=.bl c/\if c=true then tb σ H1 Q else Q (.bl false) H1
def DT(ta:TE):TE:=fun σ H Q=>ta σ H fun x H1=>∃c,x=.bl c/\Q (.bl (!c)) H1
theorem Bs{op}{t:TE}(h:PE X a t):PE X (.BoolOp op [a] pos) t:=fun ae s σ H Q I hw=>BoolOp_one (h ae s σ H Q I hw)
theorem Cr(ha:PE X a ta) (hb:PE X (.BoolOp .And (b::rest) pos) tb):PE X (.BoolOp .And (a::b::rest) pos) (C8 ta tb):=by
 intro ae s σ H Q I h;refine BoolOp_and (thn (ha ae s σ H _ I h) fun v s1 hup=>hup.el fun x H1 I1 r1 q1=>?_);obtain⟨c,rfl,q1⟩:=q1;cases r1;refine aa8 ?_;cases c with
 |true=>exact hb ae s1 σ H1 Q I1 q1
 |false=>exact⟨.bl false,H1,I1,rfl,q1⟩
theorem Cd(ha:PE X a ta):PE X (.UnaryOp .Not a pos) (DT ta):=by
 intro ae s σ H Q I h;refine UnaryOp_ (thn (ha ae s σ H _ I h) fun v s1 hup=>hup.el fun x H1 I1 r1 q1=>?_);obtain⟨c,rfl,q1⟩:=q1;cases r1;exact not_of (aa8 ⟨.bl (!c),H1,I1,rfl,q1⟩)
def tIf(t:TT) (ta tb:TE):TE:=fun σ H Q=>t σ H fun c H1=>if c=true then ta σ H1 Q else tb σ H1 Q
theorem wY{c:M9}(hc:PT X c tA) (ha:PE X a ta) (hb:PE X b tb):PE X (.IfExp c a b pos) (tIf tA ta tb):=by
 intro ae s σ H Q I h;refine wpAny_IfExp (thn (hc ae s σ H _ I h) fun d s1 hup=>hup.el fun H1 I1 q1=>?_);cases d with
 |true=>exact ha ae s1 σ H1 Q I1 q1
 |false=>exact hb ae s1 σ H1 Q I1 q1
end
def SqL(K:F2) (H:Hp) (a:J7) (xs:List V):Prop :=
 Rd H a (.lst xs) ∨
  ∃(o:Obj) (its:Array F3) (n:Nat),K.lookup a=some o/\o.cls=.type "list"/\o.dict=none/\o.data=.seq its n/\its.size<=F7/\ay xs its.toList
def SqT(K:F2) (H:Hp) (a:J7) (xs:List V):Prop :=
 Rd H a (.tup xs) ∨
  ∃(o:Obj) (its:Array F3) (n:Nat),K.lookup a=some o/\(o.cls=.type "tuple"/\o.dict=none)/\o.data=.seq its n/\its.size<=F7/\ay xs its.toList
noncomputable def Ew:F3->Option V
 |.none=>some .non
 |.bool b=>some (.bl b)
 |.int i _=>some (.int i)
 |.str x _=>some (.str x)
 |.bytes b _=>some (.byt b)
 |.float b _=>some (.flt b)
 |.ref a=>some (.ref a)
 |.type n=>some (.ty n)
 |_=>none
theorem aN.abs{x:V}{u:F3}(r:aN x u):Ew u=some x:=by
 cases x with
 |non=>cases r;rfl
 |bl _=>cases r;rfl
 |int _=>obtain⟨t,rfl⟩:=r;rfl
 |str _=>obtain⟨t,rfl⟩:=r;rfl
 |byt _=>obtain⟨t,rfl⟩:=r;rfl
 |flt _=>obtain⟨t,rfl⟩:=r;rfl
 |ref _=>cases r;rfl
 |ty _=>cases r;rfl
theorem aN.inj{x y:V}{u:F3}(r:aN x u) (q:aN y u):x=y:=Q7 (r.abs.symm.trans q.abs)
theorem ay.inj:∀{xs ys:List V}{us:List F3},ay xs us->ay ys us->xs=ys
 |_,_,_,.nil,.nil=>rfl
 |_,_,_,.cons r t,.cons r' t'=>by rw[r.inj r',ay.inj t t']
section
variable{X:Cx}{ae:List (J7×Obj)}{σ:St}{H:Hp}{s:F4}{a:J7}{xs ys:List V}
theorem SqL.of{K:F2}(h:H a=some (.lst xs)):SqL K H a xs:=.inl (.inl h)
theorem SqT.of{K:F2}(h:H a=some (.tup xs)):SqT K H a xs:=.inl (.inl h)
theorem Inv.list(I:Inv X ae σ H s) (h:SqL X.K H a xs):∃its:List F3,ay xs its/\PlainL s.heap a its.toArray/\xs.length<=F7:=by
 rcases h with h|⟨o,its,n,hk,hc,hd,hs,hz,r⟩
 ·obtain⟨z,its,n,r,e⟩:=h.ok I.hok;exact⟨its,r,⟨_,n,e,rfl,rfl,rfl⟩,z⟩
 ·refine⟨its.toList,r,⟨o,n,I.kIn a o hk,hc,hd,by simpa using hs⟩,?_⟩;have e:=r.length;simp only[L0]at e
  lia
theorem Inv.tuple(I:Inv X ae σ H s) (h:SqT X.K H a xs):∃its:List F3,ay xs its/\al6 s.heap a its.toArray/\xs.length<=F7:=by
 rcases h with h|⟨o,its,n,hk,hc,hs,hz,r⟩
 ·obtain⟨z,its,r,p⟩:=h.ok I.hok;exact⟨its,r,p.tup,z⟩
 ·refine⟨its.toList,r,⟨o,I.kIn a o hk,hc.1,n,by simpa using hs⟩,?_⟩;have e:=r.length;simp only[L0]at e
  lia
theorem Inv.tupN(I:Inv X ae σ H s) (h:SqT X.K H a xs):∃its:List F3,ay xs its/\jd s.heap a its.toArray/\xs.length<=F7:=by
 rcases h with h|⟨o,its,n,hk,hc,hs,hz,r⟩
 ·obtain⟨z,its,r,p⟩:=h.ok I.hok;exact⟨its,r,p,z⟩
 ·refine⟨its.toList,r,⟨o,I.kIn a o hk,hc.1,⟨n,by simpa using hs⟩,hc.2⟩,?_⟩;have e:=r.length;have e2:its.toList.length=its.size:=L0
  lia
theorem Inv.list_inj(I:Inv X ae σ H s) (h:SqL X.K H a xs) (h':SqL X.K H a ys):xs=ys:=by
 obtain⟨its,r,⟨o,n,e,_,_,d⟩,_⟩:=I.list h;obtain⟨its',r',⟨o',n',e',_,_,d'⟩,_⟩:=I.list h';rw[e]at e';cases e';rw[d]at d';injection d' with d1 _
 have:its=its':=by simpa using congrArg Array.toList d1
 subst this;exact r.inj r'
theorem Inv.tuple_inj(I:Inv X ae σ H s) (h:SqT X.K H a xs) (h':SqT X.K H a ys):xs=ys:=by
 obtain⟨its,r,⟨o,e,_,n,d⟩,_⟩:=I.tuple h;obtain⟨its',r',⟨o',e',_,n',d'⟩,_⟩:=I.tuple h';rw[e]at e';cases e';rw[d]at d';injection d' with d1 _
 have:its=its':=by simpa using congrArg Array.toList d1
 subst this;exact r.inj r'
end
abbrev Cx.wish(X:Cx) (E:F3->F4->Prop):Cx:={ X with xe:=E }
abbrev Cx.nox(X:Cx):Cx:=X.wish fun _ _=>False
theorem Cx.Ok.wish{X:Cx}(ok:X.Ok) (E:F3->F4->Prop):(X.wish E).Ok :=
 ⟨ok.mod,ok.kind,ok.glob,ok.blt,ok.above,ok.inj,ok.has,ok.cab,ok.hd,ok.frames,ok.stk,ok.exf,ok.bs,ok.bsz,ok.noex,ok.exfs,ok.funs,ok.frf⟩
theorem Cx.Ok.unwish{X:Cx}{E:F3->F4->Prop}(ok:(X.wish E).Ok):X.Ok :=
 ⟨ok.mod,ok.kind,ok.glob,ok.blt,ok.above,ok.inj,ok.has,ok.cab,ok.hd,ok.frames,ok.stk,ok.exf,ok.bs,ok.bsz,ok.noex,ok.exfs,ok.funs,ok.frf⟩
section
variable{X:Cx}{ae:List (J7×Obj)}{σ:St}{H:Hp}{s:F4}{E:F3->F4->Prop}
theorem Inv.wish(I:Inv X ae σ H s) (E:F3->F4->Prop):Inv (X.wish E) ae σ H s:=⟨I.ok.wish E,I.os,I.bare,I.base,I.loc,I.cell,I.free,I.freeC,I.pin,I.hok,I.len⟩
theorem Inv.unwish(I:Inv (X.wish E) ae σ H s):Inv X ae σ H s:=⟨I.ok.unwish,I.os,I.bare,I.base,I.loc,I.cell,I.free,I.freeC,I.pin,I.hok,I.len⟩
theorem SP.unwish{D:pU}{f:Flow}{s':F4}(h:SP (X.wish E) ae D f s'):SP X ae D f s':=by
 cases f with
 |next=>obtain⟨σ',H',I,q⟩:=h;exact⟨σ',H',I.unwish,q⟩
 |brk=>obtain⟨σ',H',I,q⟩:=h;exact⟨σ',H',I.unwish,q⟩
 |cont=>obtain⟨σ',H',I,q⟩:=h;exact⟨σ',H',I.unwish,q⟩
 |ret u=>obtain⟨v,σ',H',I,r,q⟩:=h;exact⟨v,σ',H',I.unwish,r,q⟩
theorem PSs.nox{st:List ac2}{t:TS}(h:PSs X.nox st t):PSs X st t:=fun ae s σ H D I hw =>
 P0 (h ae s σ H D (I.wish _) hw) (fun _ _ q=>q.unwish) fun _ _ z=>aa9 z
end
section
variable{X:Cx}{st:ac2}{rest:List ac2}{t u:TS}{e:M9}{te:TE}{pos:Pos}
def Ds:TS:=fun D σ H=>D.nx σ H
def EX(t u:TS):TS:=fun D σ H=>t { D with nx:=u D } σ H
theorem yw:PSs X [] Ds:=fun _ _ σ H _ I h=>ak2 ⟨σ,H,I,h⟩
theorem xN(h1:PS X st t) (h2:PSs X rest u):PSs X (st::rest) (EX t u):=by
 intro ae s σ H D I h;refine wpAny_execs_cons (thn (h1 ae s σ H { D with nx:=u D } I h) fun f s1 q=>?_);cases f with
 |next =>
  obtain⟨σ',H',I',q⟩:=q;exact h2 ae s1 σ' H' D I' q
 |ret v=>exact q
 |brk=>exact q
 |cont=>exact q
theorem zR(h1:PS X st t):PSs X [st] t:=by
 intro ae s σ H D I h;refine wpAny_execs_cons (thn (h1 ae s σ H D I h) fun f s1 q=>?_);cases f with
 |next=>exact ak2 q
 |ret v=>exact q
 |brk=>exact q
 |cont=>exact q
theorem Inv.quiet{ae:List (J7×Obj)}{σ:St}{H:Hp}{s:F4}(I:Inv X ae σ H s):interactive X.env=false:=by simp[interactive,I.ok.kind]
def Eh(te:TE):TS:=fun D σ H=>te σ H fun _ H1=>D.nx σ H1
theorem zz(he:PE X e te) (hs:ae0 e none pos.line X.env=ad0 false:=by rfl):PS X (.Expr e pos) (Eh te):=by
 intro ae s σ H D I h;exact wpAny_Expr_any (thn (he ae s σ H _ I h) fun v s1 hup=>hup.el fun x H1 I1 r1 q1=>⟨σ,H1,I1,q1⟩) I.quiet hs
def EJ(te:TE):TS:=fun D σ H=>te σ H D.rt
theorem rb(he:PE X e te):PS X (.Return (some e) pos) (EJ te):=by
 intro ae s σ H D I h;exact wpAny_Return_some (thn (he ae s σ H _ I h) fun v s1 hup=>hup.el fun x H1 I1 r1 q1=>⟨x,σ,H1,I1,r1,q1⟩)
def EN(c:TT) (t u:TS):TS:=fun D σ H=>c σ H fun b H1=>if b=true then t D σ H1 else u D σ H1
theorem Eb{c:M9}{a b:List ac2}{tc:TT}(hc:PT X c tc) (ha:PSs X a t) (hb:PSs X b u):PS X (.If c a b pos) (EN tc t u):=by
 intro ae s σ H D I h;refine wpAny_If (thn (hc ae s σ H _ I h) fun d s1 hup=>hup.el fun H1 I1 q1=>?_);cases d with
 |true=>exact ha ae s1 σ H1 D I1 q1
 |false=>exact hb ae s1 σ H1 D I1 q1
end
abbrev TG:=V->St->Hp->(St->Hp->Prop)->Prop
abbrev TGs:=List V->St->Hp->(St->Hp->Prop)->Prop
def PG(X:Cx) (target:M9) (t:TG):Prop :=
 ∀(ae:List (J7×Obj)) (s:F4) (σ:St) (H:Hp) (v:V) (u:F3) (Q:St->Hp->Prop),Inv X ae σ H s->aN v u->t v σ H Q ->
  K2 (L5 X.prog X.w) X.A (ag8 target X.env u) (fun _ s'=>∃ σ' H',Inv X ae σ' H' s'/\Q σ' H') X.xe s
def PGs(X:Cx) (ts:List M9) (t:TGs):Prop :=
 ∀(ae:List (J7×Obj)) (s:F4) (σ:St) (H:Hp) (vs:List V) (us:List F3) (Q:St->Hp->Prop),Inv X ae σ H s->ay vs us->t vs σ H Q ->
  K2 (L5 X.prog X.w) X.A (assignInOrder ((U9 ts X.env).map (·.2)) us) (fun _ s'=>∃ σ' H',Inv X ae σ' H' s'/\Q σ' H') X.xe s
abbrev BD:=V->V->V->Hp->(Hp->Prop)->Prop
def Eg(X:Cx) (t:BD):Prop :=
 ∀(ae:List (J7×Obj)) (s:F4) (σ:St) (H:Hp) (o i v:V) (ov iv u:F3) (Q:Hp->Prop),Inv X ae σ H s->aN o ov->aN i iv->aN v u->t o i v H Q ->
  K2 (L5 X.prog X.w) X.A (setItem ov iv u) (fun _ s'=>∃H',Inv X ae σ H' s'/\Q H') X.xe s
abbrev TIp:=V->V->Hp->VK->Prop
def PIp(X:Cx) (op:ap1) (t:TIp):Prop :=
 ∀(ae:List (J7×Obj)) (s:F4) (σ:St) (H:Hp) (x y:V) (v u:F3) (Q:VK),Inv X ae σ H s->aN x v->aN y u->t x y H Q ->
  K2 (L5 X.prog X.w) X.A (ao1 op v u) (EP X ae σ Q) X.xe s
section
variable{X:Cx}{pos:Pos}
def nk(i:Nat):TG:=fun v σ H Q=>Q (σ.set i (some v)) H
theorem tT{i:Nat}{x:Str}(hN:X.N.Nodup) (hi:X.N[i]?=some x) (hx:Loc X.env.scope x) (hf:X.fn x=true∨X.env.scope.names.lookup x=some .local:=by first|exact .inl rfl|exact .inr rfl|assumption):PG X (.Name x pos) (nk i):=by
 intro ae s σ H v u Q I r h;exact wpAny_assign_Name (gB I hN hi hx r (fun s' I'=>⟨_,H,I',h⟩) hf)
def B4:TGs:=fun vs σ H Q=>vs=[]/\Q σ H
def wW(t:TG) (u:TGs):TGs:=fun vs σ H Q=>∃v r,vs=v::r/\t v σ H fun σ' H'=>u r σ' H' Q
theorem sJ:PGs X [] B4:=by
 intro ae s σ H vs us Q I r h;obtain⟨e,h⟩:=h;subst e;cases r;exact assignInOrder_nil ⟨σ,H,I,h⟩
theorem qG{e:M9}{es:List M9}{t:TG}{u:TGs}(h1:PG X e t) (h2:PGs X es u)
  (hs:(U9 (e::es) X.env).map (·.2)=ag8 e X.env::(U9 es X.env).map (·.2):=by rfl):PGs X (e::es) (wW t u):=by
 intro ae s σ H vs us Q I r h;obtain⟨v,vr,e1,h⟩:=h;subst e1;cases r with
 |cons r rr =>
  rw[hs];refine assignInOrder_cons (thn (h1 ae s σ H _ _ _ I r h) fun _ s1 ⟨σ1,H1,I1,q1⟩=>?_);exact h2 ae s1 σ1 H1 _ _ Q I1 rr q1
def A6(K:F2) (n:Nat) (t:TGs):TG:=fun v σ H Q=>∃a xs,v=.ref a/\SqT K H a xs/\xs.length=n/\t xs σ H Q
theorem va{es:List M9}{k:Nat}{t:TGs}{n:Nat}(hc:X.calm=true) (h:PGs X es t)
  (hn:(U9 es X.env).length=n:=by rfl) (hst:(U9 es X.env).findIdx? (·.1)=none:=by rfl):PG X (.Tuple es k pos) (A6 X.K n t):=by
 intro ae s σ H v u Q I r hw;obtain⟨a,xs,e1,hq,hl,hw⟩:=hw;subst e1;cases r;obtain⟨its,rv,ht,hz⟩:=I.tuple hq;refine assign_Tuple_tuple (I.ok.hd hc) ht (by simp[hn,<-hl,rv.length]) hst fun h' hx=>?_;have I1:Inv X ae σ H { s with heap:=h' }:=I.kept (t':=s.toks) fun b o e=>hx b o (K0 (J4 e)) e;exact h ae _ σ H xs _ Q I1 (by simpa using rv) hw
def E1(to ti:TE) (t:BD):TG:=fun v σ H Q=>to σ H fun o H1=>ti σ H1 fun i H2=>t o i v H2 fun H3=>Q σ H3
theorem Cj{o i:M9}{to ti:TE}{t:BD}(ho:PE X o to) (hi:PE X i ti) (hs:Eg X t)
  (ha:∀ v,ag8 (.Subscript o i pos) X.env v = (do
   let ov <-ak9 [v] (ad3 o X.env)
   let iv <-ak9 [v,ov] (ad3 i X.env)
   an2 pos
   ak9 [v,ov,iv] (setItem ov iv v)
   release [v,ov,iv] []):=by intro _;rfl):PG X (.Subscript o i pos) (E1 to ti t):=by
 intro ae s σ H v u Q I r h;rw[ha];refine o0 (R5 (thn (ho ae s σ H _ I h) fun ov s1 hup=>hup.el fun x H1 I1 r1 q1=>?_));refine o0 (R5 (thn (hi ae s1 σ H1 _ I1 q1) fun iv s2 hup=>hup.el fun y H2 I2 r2 q2=>?_));refine o0 (X9 (o0 (R5 (thn (hs ae s2 σ H2 x y v ov iv u _ I2 r1 r2 r q2) fun _ s3 ⟨H3,I3,q3⟩=>?_))));exact wpAny_release ⟨σ,H3,I3,q3⟩
def zO(te:TE) (g:TG):TS:=fun D σ H=>te σ H fun x H1=>g x σ H1 D.nx
theorem xm{tg e:M9}{te:TE}{g:TG}(he:PE X e te) (hg:PG X tg g) (hs:aj6 [tg] e pos.line X.env=ad0 false:=by rfl) (hw:aj7 [tg] e X.env=ad0 none:=by rfl)
  (h1:(U9 [tg] X.env).map (·.2)=[ag8 tg X.env]:=by rfl):PS X (.Assign [tg] e pos) (zO te g):=by
 intro ae s σ H D I h;refine wpAny_Assign_stores (thn (he ae s σ H _ I h) fun v s1 hup=>hup.el fun x H1 I1 r1 q1=>?_) hs hw;rw[h1];exact thn (hg ae s1 σ H1 x v _ I1 r1 q1) fun _ s2 q=>q
theorem Cf{i:Nat}{x:Str}{e:M9}{te:TE}{pos':Pos}(hN:X.N.Nodup) (hi:X.N[i]?=some x) (hx:Loc X.env.scope x) (he:PE X e te) (hs:ae0 e (some (.Name x pos')) pos.line X.env=ad0 false:=by rfl) (hf:X.fn x=true∨X.env.scope.names.lookup x=some .local:=by first|exact .inl rfl|exact .inr rfl|assumption) :
  PS X (.Assign [.Name x pos'] e pos) (zO te (nk i)):=by
 intro ae s σ H D I h;refine wpAny_Assign_Name (thn (he ae s σ H _ I h) fun v s1 hup=>hup.el fun y H1 I1 r1 q1=>?_) hs;exact gB I1 hN hi hx r1 (fun s2 I2=>⟨_,H1,I2,q1⟩) hf
def E4(i j:Nat) (ta:TA):TS:=fun D σ H=>ta σ H fun vs H1=>∃v w,vs=[v,w]/\D.nx ((σ.set i (some v)).set j (some w)) H1
theorem AL{i j:Nat}{x y:Str}{a b:M9}{ta:TA}{px py pt:Pos}{kt k2 pt2}(hc:X.calm=true) (hN:X.N.Nodup) (hi:X.N[i]?=some x) (hj:X.N[j]?=some y) (hij:i≠j)
  (hx:X.env.scope.names.lookup x=some .local) (hy:X.env.scope.names.lookup y=some .local) (ha:PA X [a,b] ta)
  (hw:aj7 [.Tuple [.Name x px,.Name y py] kt pt] (.Tuple [a,b] k2 pt2) X.env=ad0 (some [x,y]))
  (hs:aj6 [.Tuple [.Name x px,.Name y py] kt pt] (.Tuple [a,b] k2 pt2) pos.line X.env=ad0 false:=by rfl) :
  PS X (.Assign [.Tuple [.Name x px,.Name y py] kt pt] (.Tuple [a,b] k2 pt2) pos) (E4 i j ta):=by
 intro ae s σ H D I h;rw[exec_Assign_arm];refine o0 (X9 ?_);rw[hs];refine o0 (F5 ?_);rw[if_neg (by decide)];refine o0 (Tuple_ (thn (ha _ ae s σ H _ I h) fun us s1 hup=>hup.el fun vs H1 I1 r1 q1=>?_));obtain⟨v,w,e1,q1⟩:=q1;subst e1;obtain⟨u1,u2,rfl,rv,rw'⟩:∃u1 u2,us=[u1,u2]/\aN v u1/\aN w u2:=by
  cases r1 with
  |cons p q =>
   cases q with
   |cons p' q' =>
    cases q';exact⟨_,_,rfl,p,p'⟩
 refine N2 ?_ (by show 2<=F7;decide);have I2:Inv X ae σ H1 { s1 with heap:=s1.heap.push { cls:=.type "tuple",data:=.seq [u1,u2].toArray } }:=I1.kept (t':=s1.toks) fun b o e=>F0 _ e;rw[hw];refine o0 (F5 ?_);show K2 (L5 X.prog X.w) X.A (do rule "assign.swapped-stores";let items <-unpackItems (.ref s1.heap.objs.size) 2 none;assignInOrder [fun v=>bindName X.env y v,fun v=>bindName X.env x v] items.reverse;ad0 Flow.next) _ _ _;refine o0 (ab0 (o0 (unpackItems_tuple (items:=#[u1,u2]) (I.ok.hd hc) (al6.new s1.heap _) fun h' hx'=>?_)));have I3:=I2.kept (h':=h') (t':=s1.toks) fun b o e=>hx' b o (K0 (J4 e)) e;show K2 _ _ (assignInOrder [fun v=>bindName X.env y v,fun v=>bindName X.env x v] [u2,u1] >>= fun _=>ad0 Flow.next) _ _ _;refine o0 (assignInOrder_cons (wpAny_bindName (gB I3 hN hj (.inl hy) rw' (fun s2 I4=>?_) (.inr hy))));refine assignInOrder_cons (wpAny_bindName (gB I4 hN hi (.inl hx) rv (fun s3 I5=>assignInOrder_nil (F5 ?_)) (.inr hx)));rw[List.set_comm _ _ (aa7 hij)]at I5;exact⟨_,H1,I5,q1⟩
def E6(i:Nat) (te:TE) (ti:TIp):TS:=fun D σ H=>∃x,σ[i]?=some (some x)/\te σ H fun y H1=>ti x y H1 fun z H2=>D.nx (σ.set i (some z)) H2
theorem BB{i:Nat}{x:Str}{e:M9}{te:TE}{op:ap1}{ti:TIp}{pos':Pos}(hN:X.N.Nodup) (hi:X.N[i]?=some x) (hx:Loc X.env.scope x) (he:PE X e te) (ho:PIp X op ti) (hf:X.fn x=true∨X.env.scope.names.lookup x=some .local:=by first|exact .inl rfl|exact .inr rfl|assumption) :
  PS X (.AugAssign (.Name x pos') op e pos) (E6 i te ti):=by
 intro ae s σ H D I h;obtain⟨v,e1,h⟩:=h;obtain⟨m,hn,hl⟩:=I.loc;have vis:Vis X.env.scope x:=by rcases hx with k|k;exact .inl k;exact .inr (.inl k)
 obtain⟨u,r,l⟩:=hl i x v hi e1 vis;refine wpAny_AugAssign_Name ?_;have go:K2 (L5 X.prog X.w) X.A (ad3 e X.env) (fun w s₂=>K2 (L5 X.prog X.w) X.A (ao1 op u w) (fun r s₃=>K2 (L5 X.prog X.w) X.A (storeName X.env x r) (fun _=>SP X ae D .next) X.xe s₃) X.xe s₂) X.xe s:=by
  refine thn (he ae s σ H _ I h) fun w s1 hup=>hup.el fun y H1 I1 r1 q1=>?_;refine thn (ho ae s1 σ H1 v y u w _ I1 r r1 q1) fun z s2 hup=>hup.el fun zv H2 I2 r2 q2=>?_;exact gB I2 hN hi hx r2 (fun s3 I3=>⟨_,H2,I3,q2⟩) hf
 rcases l with⟨hk,hm⟩|⟨hk,c,hc,hcell⟩
 ·exact wpAny_loadName_local I.ok.kind hk hn hm go
 ·rcases hk with hk|hk
  ·exact wpAny_loadName_cell I.ok.kind hk hc hcell go
  ·rcases hx with k|k
   ·have:X.env.scope.names.lookup x=some .free:=hk;rw[k]at this;cases this
   ·have:X.env.scope.names.lookup x=some .free:=hk;rw[k]at this;cases this
end
section
variable{X:Cx}{pos:Pos}
def B6(c:TT) (tb:TS):TS:=fun D σ H=>∃W:Nat->St->Hp->Prop,(∃m,W m σ H)/\∀m σ H,W m σ H ->
 c σ H fun b H1=>if b=true then ∃N:St->Hp->Prop,(∀ σ' H',N σ' H'->∃m',m'<m/\W m' σ' H')/\tb { D with nx:=N,ct:=N,bk:=D.nx } σ H1 else D.nx σ H1
theorem wZ{c:M9}{body:List ac2}{tc:TT}{tb:TS}(hp:P4 (L5 X.prog X.w) X.A X.env X.xe) (hc:PT X c tc) (hb:PSs X body tb):PS X (.While c body [] pos) (B6 tc tb):=by
 intro ae s σ H D I h;obtain⟨W,⟨m0,w0⟩,turn⟩:=h;refine wpAny_While (codeAny_whileLoop (fun n s'=>∃ σ' H',Inv X ae σ' H' s'/\W n σ' H') ?_ m0 ⟨σ,H,I,w0⟩);rintro n s1 ⟨σ1,H1,I1,w1⟩;refine ab1 hp (thn (hc ae s1 σ1 H1 _ I1 (turn n σ1 H1 w1)) fun b s2 hup=>hup.el fun H2 I2 q2=>?_);cases b with
 |true =>
  obtain⟨N,hN,q2⟩:=q2;rw[if_pos rfl];refine ab1 hp (thn (hb ae s2 σ1 H2 _ I2 q2) fun f s3 q3=>?_);cases f with
  |next =>
   obtain⟨σ3,H3,I3,n3⟩:=q3;obtain⟨m',hm,w3⟩:=hN σ3 H3 n3;exact⟨m',hm,σ3,H3,I3,w3⟩
  |cont =>
   obtain⟨σ3,H3,I3,n3⟩:=q3;obtain⟨m',hm,w3⟩:=hN σ3 H3 n3;exact⟨m',hm,σ3,H3,I3,w3⟩
  |brk=>exact q3
  |ret v=>exact q3
 |false =>
  rw[if_neg Q9];exact ak2 ⟨σ1,H2,I2,q2⟩
end
structure It where
 go:Nat->Hp->Prop
 yld:Nat->Hp->V->Hp->Prop
 stop:Nat->Hp->Prop
def eh(X:Cx) (ae:List (J7×Obj)) (H:Hp) (b:J7):Prop :=
 H b=none/\b≠X.env.locals/\b∉X.fs/\(b∈X.ex∨X.s₀.heap.objs.size<=b)/\(∀x c,X.env.cells.lookup x=some c->c≠b)/\∀p∈X.pn++ae,p.1≠b
theorem Inv.fpOk{X:Cx}{ae:List (J7×Obj)}{σ:St}{H H':Hp}{s:F4}{b:J7}(I:Inv X ae σ H s) (hb:s.heap.objs.size<=b) (hn:H' b=none):eh X ae H' b:=by
 refine⟨hn,W5 (J5 I.lt hb),I.nofs hb,.inr (P7 I.sz hb),fun x c e z=>?_,fun p hp z=>?_⟩
 ·obtain⟨v,q⟩:=I.cell x c e;exact absurd (J5 q.lt (by rw[z];exact hb)) (X8 _)
 ·exact absurd (J5 (J4 (I.pin p hp).1) (by rw[z];exact hb)) (X8 _)
structure mF(P:L1) (w:P9) (K:F2) (tg:M9) (J:It) (fp:List J7) (it:J7) (tn:Nat->K7->Prop):Prop where
 mem:it∈fp
 obj:∀i h,tn i h->∀b∈fp,∃o,h.get? b=some o/\∀v,o.data≠.cell v
 keep:∀i h h',tn i h->(∀b∈fp,∀o,h.get? b=some o->h'.get? b=some o)->tn i h'
 item:∀(X:Cx),X.prog=P->X.w=w->X.K=K->X.calm=true->∀(i:Nat) (ae:List (J7×Obj)) (s:F4) (σ:St) (H:Hp) (E:F3->F4->Prop),Inv X ae σ H s->(∀b∈fp,eh X ae H b)->tn i s.heap->J.go i H ->
  K2 (L5 P w) X.A (ag2 (.ref it)) (fun r s1=>∃u,r=some u /\
   K2 (L5 P w) X.A (ae1 tg (.ref it) u) (fun _ s2=>∃x H',Inv X ae σ H' s2/\aN x u/\J.yld i H x H'/\tn (i+1) s2.heap/\∀b∈fp,H' b=none) E s1) E s
 done:∀(X:Cx),X.prog=P->X.w=w->X.K=K->X.calm=true->∀(i:Nat) (ae:List (J7×Obj)) (s:F4) (σ:St) (H:Hp) (E:F3->F4->Prop),Inv X ae σ H s->(∀b∈fp,eh X ae H b)->tn i s.heap->J.stop i H ->
  K2 (L5 P w) X.A (ag2 (.ref it)) (fun r s1=>r=none/\Inv X ae σ H s1) E s
 self:∀(A:O0) (i:Nat) (s:F4) (Q:F3->F4->Prop) (E:F3->F4->Prop),tn i s.heap->Q (.ref it) s->K2 (L5 P w) A (am3 (.ref it)) Q E s
abbrev TI:=St->Hp->(It->Hp->Prop)->Prop
def PIE(X:Cx) (ae:List (J7×Obj)) (σ:St) (tg:M9) (R:It->Hp->Prop) (itv:F3) (s2:F4):Prop :=
 ∃(it:J7) (fp:List J7) (tn:Nat->K7->Prop) (J:It) (H':Hp),itv=.ref it/\Inv X ae σ H' s2/\mF X.prog X.w X.K tg J fp it tn/\tn 0 s2.heap/\(∀b∈fp,eh X ae H' b)/\R J H'
def PI(X:Cx) (tg iter:M9) (wi:TI):Prop :=
 ∀(ae:List (J7×Obj)) (s:F4) (σ:St) (H:Hp) (R:It->Hp->Prop),Inv X ae σ H s->wi σ H R ->
  K2 (L5 X.prog X.w) X.A (ad3 iter X.env) (fun v s1=>K2 (L5 X.prog X.w) X.A (am3 v) (PIE X ae σ tg R) X.xe s1) X.xe s
theorem sW{M:Model}{A:O0}{E:F3->F4->Prop}{s:F4}{tg:M9}{it:J7}{u:F3}{o:Obj}{n:String}{vs:Array F3}{Q:Unit->F4->Prop}(ho:s.heap.get? it=some o) (hc:o.cls=.type n) (hd:o.data=.fields vs)
    (hn:["enumerate","zip","dict_itemiterator","dict_reverseitemiterator","odict_iterator","itertools.zip_longest","itertools.pairwise"].contains n=false) (hQ:Q () s):K2 M A (ae1 tg (.ref it) u) Q E s:=by
  unfold ae1;cases tg<;>first
    |exact F5 hQ
    |(cases u<;>first
        |exact F5 hQ
        | (refine o0 (wpAny_load ho ?_)
           rw[hc,hd];show K2 M A (if(["enumerate","zip","dict_itemiterator","dict_reverseitemiterator","odict_iterator","itertools.zip_longest","itertools.pairwise"].contains n&&vs[0]?==some (X5 _))=true then _ else _) Q E s;rw[if_neg (by intro h;rw[hn,P8]at h;cases h)];exact F5 hQ))
def Itl(K:F2) (a:J7):It :=
 ⟨fun i H=>∃xs x,SqL K H a xs/\xs[i]?=some x,fun i H x H'=>H'=H/\∀xs,SqL K H a xs->xs[i]?=some x,fun i H=>∃xs,SqL K H a xs/\xs.length<=i⟩
def Itt(K:F2) (a:J7):It :=
 ⟨fun i H=>∃xs x,SqT K H a xs/\xs[i]?=some x,fun i H x H'=>H'=H/\∀xs,SqT K H a xs->xs[i]?=some x,fun i H=>∃xs,SqT K H a xs/\xs.length<=i⟩
def Itr(lo:Int) (n:Nat):It:=⟨fun i _=>i<n,fun i H x H'=>H'=H/\x=.int (lo+i),fun i _=>n<=i⟩
theorem m5{P:L1}{w:P9}{K:F2}{tg:M9}(a it:J7):mF P w K tg (Itl K a) [it] it (fun i h=>h.IsListIter it a i) where
 mem:=by simp
 obj:=fun i h st b hb=>by
  have e:b=it:=by simpa using hb
  subst e;obtain⟨o,e,c,d⟩:=st;exact⟨o,e,fun v z=>by rw[d]at z;cases z⟩
 keep:=fun i h h' st k=>st.at fun o e=>k it (by simp) o e
 item:=by
  intro X hP hw hK hc i ae s σ H E I hf st hg;subst hP hw hK;obtain⟨xs,x,hq,hx⟩:=hg;obtain⟨its,rv,p,hz⟩:=I.list hq;obtain⟨u,hu,ru⟩:=rv.get hx;obtain⟨f0,f1,f2,f3,f4,f5⟩:=hf it (by simp);refine wpAny_pyNext_list_item st p.isList (x:=u) (by simpa using hu) fun h' st' sb=>?_;have I1:Inv X ae σ H { s with heap:=h' }:=I.turned (t':=s.toks) (fun b o hb e=>(sb.2 b hb).trans e) f0 f1 f3 f4 f5;obtain⟨o,e,c,d⟩:=id st';exact⟨u,rfl,sW (s:={ s with heap:=h' }) e c d (by decide) ⟨x,H,I1,ru,⟨rfl,fun ys hy=>by rw[I.list_inj hy hq];exact hx⟩,st',fun b hb=>(hf b hb).1⟩⟩
 done:=by
  intro X hP hw hK hc i ae s σ H E I hf st hg;subst hP hw hK;obtain⟨xs,hq,hx⟩:=hg;obtain⟨its,rv,p,hz⟩:=I.list hq;obtain⟨f0,f1,f2,f3,f4,f5⟩:=hf it (by simp);have hl:=rv.length;exact wpAny_pyNext_list_end (I.ok.hd hc) st p.isList (by simp;lia) fun h' eb=>⟨rfl,I.turned (t':=s.toks) (fun b o hb e=>eb b o hb e) f0 f1 f3 f4 f5⟩
 self:=fun _ _ _ _ _ st h=>wpAny_pyIter_listiter st h
theorem sv{P:L1}{w:P9}{K:F2}{tg:M9}(a it:J7):mF P w K tg (Itt K a) [it] it (fun i h=>h.IsTupleIter it a i) where
 mem:=by simp
 obj:=fun i h st b hb=>by
  have e:b=it:=by simpa using hb
  subst e;obtain⟨o,e,c,d⟩:=st;exact⟨o,e,fun v z=>by rw[d]at z;cases z⟩
 keep:=fun i h h' st k=>st.at fun o e=>k it (by simp) o e
 item:=by
  intro X hP hw hK hc i ae s σ H E I hf st hg;subst hP hw hK;obtain⟨xs,x,hq,hx⟩:=hg;obtain⟨its,rv,p,hz⟩:=I.tuple hq;obtain⟨u,hu,ru⟩:=rv.get hx;obtain⟨f0,f1,f2,f3,f4,f5⟩:=hf it (by simp);refine wpAny_pyNext_tuple_item st (show s.heap.IsTuple a its.toArray from p) (x:=u) (by simpa using hu) fun h' st' sb=>?_;have I1:Inv X ae σ H { s with heap:=h' }:=I.turned (t':=s.toks) (fun b o hb e=>(sb.2 b hb).trans e) f0 f1 f3 f4 f5;obtain⟨o,e,c,d⟩:=id st';exact⟨u,rfl,sW (s:={ s with heap:=h' }) e c d (by decide) ⟨x,H,I1,ru,⟨rfl,fun ys hy=>by rw[I.tuple_inj hy hq];exact hx⟩,st',fun b hb=>(hf b hb).1⟩⟩
 done:=by
  intro X hP hw hK hc i ae s σ H E I hf st hg;subst hP hw hK;obtain⟨xs,hq,hx⟩:=hg;obtain⟨its,rv,p,hz⟩:=I.tuple hq;obtain⟨f0,f1,f2,f3,f4,f5⟩:=hf it (by simp);have hl:=rv.length;exact wpAny_pyNext_tuple_end (I.ok.hd hc) st (show s.heap.IsTuple a its.toArray from p) (by simp;lia) fun h' eb=>⟨rfl,I.turned (t':=s.toks) (fun b o hb e=>eb b o hb e) f0 f1 f3 f4 f5⟩
 self:=fun _ _ _ _ _ st h=>wpAny_pyIter_tupleiter st h
theorem rj{P:L1}{w:P9}{K:F2}{tg:M9}(it:J7) (lo:Int) (n:Nat):mF P w K tg (Itr lo n) [it] it (fun i h=>IsRangeIter h it (lo+(i:Nat)*1) ((n:Int)-(i:Nat)) 1) where
 mem:=by simp
 obj:=fun i h st b hb=>by
  have e:b=it:=by simpa using hb
  subst e;exact⟨_,st,fun v z=>by
   have z':Data.fields _=Data.cell v:=z;cases z'⟩
 keep:=fun i h h' st k=>k it (by simp) _ st
 item:=by
  intro X hP hw hK hc i ae s σ H E I hf st hg;subst hP hw hK;obtain⟨f0,f1,f2,f3,f4,f5⟩:=hf it (by simp);have W:=ap4.range (prog:=X.prog) (w:=X.w) (I.ok.hd hc) it lo 1 n;refine W.item i s _ _ hg st fun v h' tk hv st' kk=>?_;obtain⟨t,rfl⟩:=hv;have I1:Inv X ae σ H { s with heap:=h',toks:=tk }:=I.turned (fun b o hb e=>kk b o (by simpa using hb) e) f0 f1 f3 f4 f5;refine⟨_,rfl,sW (s:={ s with heap:=h',toks:=tk }) (n:="range_iterator") st' rfl rfl (by decide) ⟨.int (lo+i),H,I1,⟨t,?_⟩,⟨rfl,rfl⟩,st',fun b hb=>(hf b hb).1⟩⟩;rw[Int.mul_one]
 done:=by
  intro X hP hw hK hc i ae s σ H E I hf st hg;subst hP hw hK;obtain⟨f0,f1,f2,f3,f4,f5⟩:=hf it (by simp);exact wpAny_pyNext_range_end (I.ok.hd hc) st (by have:n<=i:=hg;lia) fun h' eb=>⟨rfl,I.turned (t':=s.toks) (fun b o hb e=>eb b o hb e) f0 f1 f3 f4 f5⟩
 self:=fun _ _ _ _ _ st h=>wpAny_pyIter_rangeiter st h
section
variable{X:Cx}{tg:M9}
theorem xI{ae:List (J7×Obj)}{σ:St}{H:Hp}{s:F4}{R:It->Hp->Prop}{E:F3->F4->Prop}{lo hi:Int}{t u v:Tok}{tk:Nat}(I:Inv X ae σ H s) (h1:-(2 ^ 62)<=lo) (h2:lo<2 ^ 62) (h3:-(2 ^ 62)<=hi) (h4:hi<2 ^ 62)
  (q:R (Itr lo (hi-lo).toNat) H):K2 (L5 X.prog X.w) X.A (am3 (.ref s.heap.objs.size)) (PIE X ae σ tg R) E { s with heap:=s.heap.push { cls:=.type "range",data:=.fields #[.int lo t,.int hi u,.int 1 v] },toks:=tk }:=by
 refine wpAny_pyIter_range (IsRange.new ..) (small_one h1 h2 h3 h4) ?_;have I1:Inv X ae σ H { s with heap:=s.heap.push { cls:=.type "range",data:=.fields #[.int lo t,.int hi u,.int 1 v] },toks:=tk }:=I.kept fun b o e=>F0 _ e;refine⟨(s.heap.push { cls:=.type "range",data:=.fields #[.int lo t,.int hi u,.int 1 v] }).objs.size,[(s.heap.push { cls:=.type "range",data:=.fields #[.int lo t,.int hi u,.int 1 v] }).objs.size],_,_,H,rfl,
  I1.kept (t':=tk) fun b o e=>F0 _ e,rj _ lo (hi-lo).toNat,?_,fun b hb=>?_,q⟩
 ·have e1:lo+((0:Nat):Int)*1=lo:=by simp
  have e2:(((hi-lo).toNat:Nat):Int)-((0:Nat):Int)=K6.Range.rangeSize lo hi 1:=by rw[rangeSize_one];split<;>lia
  show IsRangeIter _ _ (lo+((0:Nat):Int)*1) ((((hi-lo).toNat:Nat):Int)-((0:Nat):Int)) 1;rw[e1,e2];exact J3 _ rfl
 ·have e:b=(s.heap.push { cls:=.type "range",data:=.fields #[.int lo t,.int hi u,.int 1 v] }).objs.size:=by simpa using hb
  subst e;exact I1.fpOk (F9 _) (I1.hok.fresh (F9 _))
def CV(ta:TA):TI:=fun σ H R=>ta σ H fun vs H1=>∃j:Int,vs=[.int j]/\-(2 ^ 62)<=j/\j<2 ^ 62/\R (Itr 0 j.toNat) H1
theorem ud{a:M9}{ta:TA}{p pos:Pos}(hg:Gl X "range") (hm:X.mg "range"=none) (ha:PA X [a] ta) (hs:K4 [a] X.env=[(false,ad3 a X.env)]:=by rfl):PI X tg (.Call (.Name "range" p) [a] [] pos) (CV ta):=by
 intro ae s σ H R I h;refine Call_ (iF I hg hm boot_range (W9 (thn (ha pos ae s σ H _ I h) fun us s1 hup=>hup.el fun vs H1 I1 r1 q1=>?_) hs rfl));obtain⟨j,e,q1,q2,q⟩:=q1;subst e;cases r1 with
 |cons r rr =>
  cases rr;obtain⟨t,rfl⟩:=r;exact call_range_1 (xI I1 (by lia) (by lia) q1 q2 (by simpa using q))
def ER(wi:TI) (g:TG) (tb:TS):TS:=fun D σ H=>wi σ H fun J H1=>∃W:Nat->Nat->St->Hp->Prop,(∃m,W 0 m σ H1)/\∀i m σ H,W i m σ H ->
 (J.stop i H/\D.nx σ H)∨(J.go i H/\∃N:St->Hp->Prop,(∀ σ' H',N σ' H'->∃m',m'<m/\W (i+1) m' σ' H')/\∀x H',J.yld i H x H'->g x σ H' fun σ2 H2=>tb { D with nx:=N,ct:=N,bk:=D.nx } σ2 H2)
def iU(fp:List J7) (h:K7):List (J7×Obj):=fp.filterMap fun b=>(h.get? b).map fun o=>(b,o)
theorem dD{fp:List J7}{h:K7}{b:J7}{o:Obj}(hb:b∈fp) (e:h.get? b=some o):(b,o)∈iU fp h:=ag9.mpr ⟨b,hb,by rw[e];rfl⟩
theorem nO{fp:List J7}{h:K7}{p:J7×Obj}(hp:p∈iU fp h):p.1∈fp/\h.get? p.1=some p.2:=by
 obtain⟨b,hb,e⟩:=ag9.mp hp;cases q:h.get? b with
 |none=>rw[q]at e;cases e
 |some o =>
  rw[q]at e;have e':(b,o)=p:=Q7 e;subst e';exact⟨hb,q⟩
theorem Inv.pinned{ae:List (J7×Obj)}{σ:St}{H:Hp}{s:F4}{fp:List J7}(I:Inv X ae σ H s) (hf:∀b∈fp,eh X ae H b) (ho:∀b∈fp,∃o,s.heap.get? b=some o/\∀v,o.data≠.cell v):Inv X (ae++iU fp s.heap) σ H s :=
 I.pins_of fun p hp=>(O3.mp hp).elim (fun z=>I.pin p (K8 _ z)) fun z=>by
  obtain⟨hb,e⟩:=nO z;obtain⟨f0,f1,f2,_⟩:=hf p.1 hb;obtain⟨o,e',d⟩:=ho p.1 hb;rw[e]at e';cases e';exact⟨e,f0,f1,f2,d⟩
theorem Inv.unpinned{ae pl:List (J7×Obj)}{σ:St}{H:Hp}{s:F4}(I:Inv X (ae++pl) σ H s):Inv X ae σ H s:=I.pins_of fun p hp=>I.pin p (K8 _ (T6 _ hp))
theorem Cg{iter:M9}{body:List ac2}{wi:TI}{g:TG}{tb:TS}{pos:Pos}(hp:P4 (L5 X.prog X.w) X.A X.env X.xe) (hc:X.calm=true) (hi:PI X tg iter wi) (hg:PG X tg g) (hb:PSs X body tb)
  (hs:∀x,N3 iter X.env x=ad0 x:=by intro _;rfl):PS X (.For tg iter body [] pos) (ER wi g tb):=by
 intro ae s σ H D I h;refine wpAny_For (thn (hi ae s σ H _ I h) fun v s1 h1=>thn h1 fun itv s2 h2=>?_) hs;obtain⟨it,fp,tn,J,H2,e,I2,T,st2,f2,W,⟨m0,w0⟩,turn⟩:=h2;subst e
 -- what stays true of the iterator's objects through the loop
 have stat:∀{H':Hp},(∀b∈fp,H' b=none)->∀b∈fp,eh X ae H' b:=fun hn b hb=>⟨hn b hb,(f2 b hb).2⟩;refine codeAny_forLoop_any (fun n s'=>∃i σ' H',Inv X ae σ' H' s'/\tn i s'.heap/\(∀b∈fp,H' b=none)/\W i n σ' H') ?_ m0 ⟨0,σ,H2,I2,st2,fun b hb=>(f2 b hb).1,w0⟩;rintro n s3 ⟨i,σ3,H3,I3,st3,fr3,w3⟩;rcases turn i n σ3 H3 w3 with⟨stop,qn⟩|⟨go,N,hN,step⟩
 ·refine ab1 hp (thn (T.done X rfl rfl rfl hc i ae s3 σ3 H3 X.xe I3 (stat fr3) st3 stop) fun r s4 ⟨hr,I4⟩=>?_);subst hr;exact ak2 ⟨σ3,H3,I4,qn⟩
 ·refine ab1 hp (thn (T.item X rfl rfl rfl hc i ae s3 σ3 H3 X.xe I3 (stat fr3) st3 go) fun r s4 ⟨u,hr,h4⟩=>?_);subst hr;refine ab1 hp (thn h4 fun _ s5 ⟨x,H5,I5,r5,y5,st5,fr5⟩=>?_);have I5':=I5.pinned (stat fr5) (T.obj _ _ st5);refine ab1 hp (thn (hg _ s5 σ3 H5 x u _ I5' r5 (step x H5 y5)) fun _ s6 ⟨σ6,H6,I6,q6⟩=>?_);refine ab1 hp (thn (hb _ s6 σ6 H6 _ I6 q6) fun f s7 q7=>?_);have again:∀{σ7:St} {H7:Hp},Inv X (ae++iU fp s5.heap) σ7 H7 s7->N σ7 H7->∃m,m<n/\∃i σ' H',Inv X ae σ' H' s7/\tn i s7.heap/\(∀b∈fp,H' b=none)/\W i m σ' H':=fun {σ7 H7} I7 n7=>by
   obtain⟨m',hm,w7⟩:=hN σ7 H7 n7;refine⟨m',hm,i+1,σ7,H7,I7.unpinned,T.keep _ _ _ st5 fun b hb o e=>(I7.pin (b,o) (K8 _ (K8 _ (dD hb e)))).1,fun b hb=>?_,w7⟩;obtain⟨o,e,d⟩:=T.obj _ _ st5 b hb;exact(I7.pin (b,o) (K8 _ (K8 _ (dD hb e)))).2.1
  cases f with
  |next=>obtain⟨σ7,H7,I7,n7⟩:=q7;exact again I7 n7
  |cont=>obtain⟨σ7,H7,I7,n7⟩:=q7;exact again I7 n7
  |brk=>obtain⟨σ7,H7,I7,q7⟩:=q7;exact⟨σ7,H7,I7.unpinned,q7⟩
  |ret v=>obtain⟨x7,σ7,H7,I7,r7,q7⟩:=q7;exact⟨x7,σ7,H7,I7.unpinned,r7,q7⟩
end
abbrev R2:=V->V->Hp->VK->Prop
def OpR(X:Cx) (f:F3->F3->Sem F3) (r:R2):Prop :=
 ∀(ae:List (J7×Obj)) (s:F4) (σ:St) (H:Hp) (x y:V) (v u:F3) (Q:VK),Inv X ae σ H s->aN x v->aN y u->r x y H Q ->
  K2 (L5 X.prog X.w) X.A (f v u) (EP X ae σ Q) X.xe s
def UnR(X:Cx) (f:F3->Sem F3) (r:V->Hp->VK->Prop):Prop :=
 ∀(ae:List (J7×Obj)) (s:F4) (σ:St) (H:Hp) (x:V) (v:F3) (Q:VK),Inv X ae σ H s->aN x v->r x H Q ->
  K2 (L5 X.prog X.w) X.A (f v) (EP X ae σ Q) X.xe s
def dg(X:Cx) (f:F3) (r:List V->Hp->VK->Prop):Prop :=
 ∀(ae:List (J7×Obj)) (s:F4) (σ:St) (H:Hp) (xs:List V) (us:List F3) (Q:VK),Inv X ae σ H s->ay xs us->r xs H Q ->
  K2 (L5 X.prog X.w) X.A (call f us) (EP X ae σ Q) X.xe s
def tOp(r:R2) (ta tb:TE):TE:=fun σ H Q=>ta σ H fun x H1=>tb σ H1 fun y H2=>r x y H2 Q
def tUn(r:V->Hp->VK->Prop) (ta:TE):TE:=fun σ H Q=>ta σ H fun x H1=>r x H1 Q
def rI(C:Int->Int->Prop) (g:Int->Int->V):R2:=fun x y H Q=>∃i j,x=.int i/\y=.int j/\C i j/\Q (g i j) H
def rI0(g:Int->Int->V):R2:=fun x y H Q=>∃i j,x=.int i/\y=.int j/\Q (g i j) H
def rU(g:Int->V):V->Hp->VK->Prop:=fun x H Q=>∃i,x=.int i/\Q (g i) H
section
variable{X:Cx}{a b c:M9}{ta tb tc:TE}{pos:Pos}
theorem Bi(ha:PE X a ta) (hb:PE X b tb) {ae:List (J7×Obj)}{s:F4}{σ:St}{H:Hp}{R:V->V->Hp->Prop}(I:Inv X ae σ H s)
  (h:ta σ H fun x H1=>tb σ H1 fun y H2=>R x y H2) {Q:F3->F4->Prop} {f:F3->F3->Sem F3}
  (hf:∀v u s2 x y H2,Inv X ae σ H2 s2->aN x v->aN y u->R x y H2->K2 (L5 X.prog X.w) X.A (f v u) Q X.xe s2) :
  K2 (L5 X.prog X.w) X.A (ad3 a X.env) (fun v s₁=>K2 (L5 X.prog X.w) X.A (ad3 b X.env) (fun u s₂=>K2 (L5 X.prog X.w) X.A (f v u) Q X.xe s₂) X.xe s₁) X.xe s:=by
 refine thn (ha ae s σ H _ I h) fun v s1 hup=>hup.el fun x H1 I1 r1 q1=>?_;refine thn (hb ae s1 σ H1 _ I1 q1) fun u s2 hup=>hup.el fun y H2 I2 r2 q2=>?_;exact hf v u s2 x y H2 I2 r1 r2 q2
theorem zW{op:ap1}{r:R2}(ho:OpR X (V8 op) r) (ha:PE X a ta) (hb:PE X b tb):PE X (.BinOp a op b pos) (tOp r ta tb):=by
 intro ae s σ H Q I h;exact wpAny_BinOp (Bi ha hb I h fun v u s2 x y H2 I2 rx ry q=>ho ae s2 σ H2 x y v u Q I2 rx ry q)
theorem Dj{op:UnaryOp}{r:V->Hp->VK->Prop}(ho:UnR X (unaryOp op) r) (ha:PE X a ta):PE X (.UnaryOp op a pos) (tUn r ta):=by
 intro ae s σ H Q I h;exact UnaryOp_ (thn (ha ae s σ H _ I h) fun v s1 hup=>hup.el fun x H1 I1 r1 q1=>ho ae s1 σ H1 x v Q I1 r1 q1)
theorem opI{f:F3->F3->Sem F3}{C:Int->Int->Prop}{g:Int->Int->Int}
  (rule:∀(i j:Int) (t u:Tok) (s:F4) (Q:F3->F4->Prop) (E:F3->F4->Prop),C i j->Q (.int (g i j) s.toks) { s with toks:=s.toks+1 }->K2 (L5 X.prog X.w) X.A (f (.int i t) (.int j u)) Q E s) :
  OpR X f (rI C fun i j=>.int (g i j)):=by
 intro ae s σ H x y v u Q I rx ry h;obtain⟨i,j,rfl,rfl,hc,q⟩:=h;obtain⟨t,rfl⟩:=rx;obtain⟨t',rfl⟩:=ry;exact rule i j t t' s _ _ hc ⟨.int (g i j),H,I.tok _,⟨_,rfl⟩,q⟩
theorem C5{f:F3->F3->Sem F3}{g:Int->Int->Int}
  (rule:∀(i j:Int) (t u:Tok) (s:F4) (Q:F3->F4->Prop) (E:F3->F4->Prop),Q (.int (g i j) s.toks) { s with toks:=s.toks+1 }->K2 (L5 X.prog X.w) X.A (f (.int i t) (.int j u)) Q E s) :
  OpR X f (rI0 fun i j=>.int (g i j)):=by
 intro ae s σ H x y v u Q I rx ry h;obtain⟨i,j,rfl,rfl,q⟩:=h;obtain⟨t,rfl⟩:=rx;obtain⟨t',rfl⟩:=ry;exact rule i j t t' s _ _ ⟨.int (g i j),H,I.tok _,⟨_,rfl⟩,q⟩
theorem zK{f:F3->F3->Sem F3}{g:Int->Int->Bool}
  (rule:∀(i j:Int) (t u:Tok) (s:F4) (Q:F3->F4->Prop) (E:F3->F4->Prop),Q (.bool (g i j)) s->K2 (L5 X.prog X.w) X.A (f (.int i t) (.int j u)) Q E s) :
  OpR X f (rI0 fun i j=>.bl (g i j)):=by
 intro ae s σ H x y v u Q I rx ry h;obtain⟨i,j,rfl,rfl,q⟩:=h;obtain⟨t,rfl⟩:=rx;obtain⟨t',rfl⟩:=ry;exact rule i j t t' s _ _ ⟨.bl (g i j),H,I,rfl,q⟩
def lM(i j:Int):Prop:=0<j/\j<1073741824
def mJ(i j:Int):Prop:=0<=j/\j<=1000000/\i.natAbs<2 ^ 64
def iV(i j:Int):Prop:=(-(2 ^ 64)<i/\i<2 ^ 64)∨(-(2 ^ 64)<j/\j<2 ^ 64)
theorem iV.ok{i j:Int}(h:iV i j):IntMulOk i j:=by
 rcases h with⟨h1,h2⟩|⟨h1,h2⟩
 ·exact .of_left (intBits_le_64 h1 h2)
 ·exact .of_right (intBits_le_64 h1 h2)
theorem AY:OpR X (V8 .Add) (rI0 fun i j=>.int (i+j)):=C5 fun _ _ _ _ _ _ _ q=>add_int q
theorem AO:OpR X (V8 .Sub) (rI0 fun i j=>.int (i-j)):=C5 fun _ _ _ _ _ _ _ q=>sub_int q
theorem AJ:OpR X (V8 .Mult) (rI iV fun i j=>.int (i*j)):=opI fun _ _ _ _ _ _ _ hc q=>mul_int q hc.ok
theorem yA:OpR X (V8 .FloorDiv) (rI lM fun i j=>.int (i / j)):=opI fun i j _ _ _ _ _ hc q=>by
 have h1:(0:Int)<j:=hc.1;have h2:j<1073741824:=hc.2;exact floordiv_int (by lia) (by rw[Int.fdiv_eq_ediv_of_nonneg i (by lia)];exact q) (.inl (PyProof.noPylong_small (by lia)))
theorem A5:OpR X (V8 .Mod) (rI (fun _ j=>0<j) fun i j=>.int (i % j)):=opI fun i j _ _ _ _ _ hc q=>by
 have h1:(0:Int)<j:=hc;exact mod_int' (by lia) (by rw[Int.fmod_eq_emod_of_nonneg i (by lia)];exact q)
theorem Ct:OpR X (V8 .Pow) (rI mJ fun i j=>.int (i ^ j.toNat)):=opI fun _ _ _ _ _ _ _ hc q=>pow_int_small hc.1 hc.2.1 hc.2.2 q
theorem zD:OpR X (ao1 .Mult) (rI iV fun i j=>.int (i*j)):=opI fun _ _ _ _ _ _ _ hc q=>imul_int q hc.ok
theorem unI{f:F3->Sem F3}{g:Int->Int}
  (rule:∀(i:Int) (t:Tok) (s:F4) (Q:F3->F4->Prop) (E:F3->F4->Prop),Q (.int (g i) s.toks) { s with toks:=s.toks+1 }->K2 (L5 X.prog X.w) X.A (f (.int i t)) Q E s) :
  UnR X f (rU fun i=>.int (g i)):=by
 intro ae s σ H x v Q I rx h;obtain⟨i,rfl,q⟩:=h;obtain⟨t,rfl⟩:=rx;exact rule i t s _ _ ⟨.int (g i),H,I.tok _,⟨_,rfl⟩,q⟩
theorem Ck:UnR X (unaryOp .USub) (rU fun i=>.int (-i)):=unI fun _ _ _ _ _ q=>neg_int q
end
section
variable{X:Cx}{a b c:M9}{ta tb tc:TE}{pos:Pos}
theorem sf{ae:List (J7×Obj)}{σ:St}{H:Hp}{s:F4}{Q:VK}{k k':Bool}(I:Inv X ae σ H s) (q:Q (.bl k) H) (e:k=k'):EP X ae σ Q (.bool k') s:=by
 subst e;exact⟨.bl k,H,I,rfl,q⟩
theorem Cz:OpR X (Q5 .Lt) (rI0 fun i j=>.bl (decide (i<j))):=zK fun _ _ _ _ _ _ _ q=>lt_int q
theorem DQ:OpR X (Q5 .LtE) (rI0 fun i j=>.bl (decide (i<=j))):=zK fun _ _ _ _ _ _ _ q=>le_int q
theorem DI:OpR X (Q5 .Gt) (rI0 fun i j=>.bl (decide (j<i))):=zK fun _ _ _ _ _ _ _ q=>gt_int q
theorem Dr:OpR X (Q5 .GtE) (rI0 fun i j=>.bl (decide (j<=i))):=zK fun _ _ _ _ _ _ _ q=>ge_int q
theorem uR:OpR X (Q5 .In) (fun x y H Q=>∃i j,x=.str i/\y=.str j/\Q (.bl (!(ac4 j i 0 j.length 1).isEmpty)) H):=by
 intro ae s σ H x y v u Q I rx ry h;obtain⟨i,j,rfl,rfl,q⟩:=h;obtain⟨t,rfl⟩:=rx;obtain⟨t',rfl⟩:=ry;exact in_str (sf I q rfl)
theorem Bj:OpR X (Q5 .Is) (fun x y H Q=>y=.non/\Q (.bl (decide (x=.non))) H):=by
 intro ae s σ H x y v u Q I rx ry h;obtain⟨rfl,q⟩:=h;cases ry;refine is_none_gen (sf I q ?_);cases x<;>first
  |(cases rx;rfl)
  |(obtain⟨t,rfl⟩:=rx;rfl)
theorem pb:OpR X (Q5 .NotIn) (fun x y H Q=>∃i j,x=.str i/\y=.str j/\Q (.bl (!(!(ac4 j i 0 j.length 1).isEmpty))) H):=by
 intro ae s σ H x y v u Q I rx ry h;obtain⟨i,j,rfl,rfl,q⟩:=h;obtain⟨t,rfl⟩:=rx;obtain⟨t',rfl⟩:=ry;exact notIn_str (sf I q rfl)
theorem zu{op:ap3}{r:R2}(ho:OpR X (Q5 op) r) (ha:PE X a ta) (hb:PE X b tb) (hm:af0 op b=false):PE X (.Compare a [op] [b] pos) (tOp r ta tb):=by
 intro ae s σ H Q I h;exact wpAny_Compare1 (Bi ha hb I h fun v u s2 x y H2 I2 rx ry q=>ho ae s2 σ H2 x y v u Q I2 rx ry q) hm
def AE(t:TE):TT:=fun σ H Q=>t σ H fun x H'=>∃k,x=.bl k/\Q k H'
theorem zB{op:ap3}{r:R2}(ho:OpR X (Q5 op) r) (ha:PE X a ta) (hb:PE X b tb) (hm:af0 op b=false):PT X (.Compare a [op] [b] pos) (AE (tOp r ta tb)):=by
 intro ae s σ H Q I h;refine wpAny_isTrue_Compare1 (thn (ha ae s σ H _ I h) fun v s1 hup=>hup.el fun x H1 I1 r1 q1=>thn (hb ae s1 σ H1 _ I1 q1) fun u s2 hup=>hup.el fun y H2 I2 r2 q2 =>
  thn (ho ae s2 σ H2 x y v u _ I2 r1 r2 q2) fun c s3 ⟨z,H3,I3,r3,k,e,q3⟩=>?_) hm
 subst e;cases r3;exact aa8 ⟨H3,I3,q3⟩
def Be(r r':R2) (ta tb tc:TE):TE:=fun σ H Q=>ta σ H fun x H1=>tb σ H1 fun y H2=>r x y H2 fun z H3=>∃k,z=.bl k /\
 (if k=true then tc σ H3 fun w' H4=>r' y w' H4 Q else Q (.bl false) H3)
theorem wH{op op':ap3}{r r':R2}(ho:OpR X (Q5 op) r) (ho':OpR X (Q5 op') r') (ha:PE X a ta) (hb:PE X b tb) (hc:PE X c tc)
  (hm:lastMarks [op,op'] [b,c]=false:=by with_unfolding_all rfl):PE X (.Compare a [op,op'] [b,c] pos) (Be r r' ta tb tc):=by
 intro ae s σ H Q I h;refine Compare_chain (thn (ha ae s σ H _ I h) fun v s1 hup=>hup.el fun x H1 I1 r1 q1=>chain_link (thn (hb ae s1 σ H1 _ I1 q1) fun u s2 hup=>hup.el fun y H2 I2 r2 q2 =>
  thn (ho ae s2 σ H2 x y v u _ I2 r1 r2 q2) fun d s3 ⟨z,H3,I3,r3,k,e,q3⟩=>?_)) hm
 subst e;cases r3;refine aa8 ?_;cases k with
 |false=>exact ite_ff ⟨.bl false,H3,I3,rfl,q3⟩
 |true=>exact ite_tt (chain_last (thn (hc ae s3 σ H3 _ I3 q3) fun w' s4 ⟨z',H4,I4,r4,q4⟩=>ho' ae s4 σ H4 y z' u w' Q I4 r2 r4 q4))
theorem jX:(F7:Nat)<2 ^ 63:=by rw[ae2];decide
theorem rV:OpR X (V8 .Add) (fun x y H Q=>∃i j,x=.str i/\y=.str j/\i.length+j.length<=F7/\Q (.str (i++j)) H):=by
 intro ae s σ H x y v u Q I rx ry h;obtain⟨i,j,rfl,rfl,hz,q⟩:=h;obtain⟨t,rfl⟩:=rx;obtain⟨t',rfl⟩:=ry;exact add_str (fun t' tk=>⟨.str (i++j),H,I.tok _,⟨_,rfl⟩,q⟩) hz
theorem nR{x:V}{us:List F3}(r:ay [x] us):∃u,us=[u]/\aN x u:=by
 cases r with
 |cons r1 r2=>cases r2;exact⟨_,rfl,r1⟩
theorem zX{x y:V}{us:List F3}(r:ay [x,y] us):∃u w',us=[u,w']/\aN x u/\aN y w':=by
 cases r with
 |cons r1 r2 =>
  cases r2 with
  |cons r3 r4=>cases r4;exact⟨_,_,rfl,r1,r3⟩
theorem xG:dg X (.builtin "abs") (fun xs H Q=>∃i,xs=[.int i]/\Q (.int (if i<0 then -i else i)) H):=by
 intro ae s σ H xs us Q I r h;obtain⟨i,rfl,q⟩:=h;obtain⟨u,rfl,t,rfl⟩:=nR r;exact call_abs_int fun u tk=>⟨.int (if i<0 then -i else i),H,I.tok _,⟨_,rfl⟩,q⟩
theorem uA(hc:X.calm=true):dg X (.builtin "max") (fun xs H Q=>∃i j,xs=[.int i,.int j]/\Q (.int (if j > i then j else i)) H):=by
 intro ae s σ H xs us Q I r h;obtain⟨i,j,rfl,q⟩:=h;obtain⟨u,w',rfl,⟨t,rfl⟩,⟨t',rfl⟩⟩:=zX r;refine max_two_ints (I.ok.hd hc) fun h' tk k=>⟨_,H,I.kept k,?_,q⟩
 by_cases hj:j > i
 ·rw[if_pos hj,if_pos hj];exact⟨_,rfl⟩
 ·rw[if_neg hj,if_neg hj];exact⟨_,rfl⟩
theorem tZ(hc:X.calm=true):dg X (.builtin "min") (fun xs H Q=>∃i j,xs=[.int i,.int j]/\Q (.int (if j<i then j else i)) H):=by
 intro ae s σ H xs us Q I r h;obtain⟨i,j,rfl,q⟩:=h;obtain⟨u,w',rfl,⟨t,rfl⟩,⟨t',rfl⟩⟩:=zX r;refine min_two_ints (I.ok.hd hc) fun h' tk k=>⟨_,H,I.kept k,?_,q⟩
 by_cases hj:j<i
 ·rw[if_pos hj,if_pos hj];exact⟨_,rfl⟩
 ·rw[if_neg hj,if_neg hj];exact⟨_,rfl⟩
theorem oN:dg X (.type "str") (fun xs H Q=>∃i,xs=[.int i]/\i.natAbs.log2<1920/\Q (.str (ao2 i)) H):=by
 intro ae s σ H xs us Q I r h;obtain⟨i,rfl,hz,q⟩:=h;obtain⟨u,rfl,t,rfl⟩:=nR r;exact PySem.P.str_of_int hz ⟨.str _,H,I.tok _,⟨_,rfl⟩,q⟩
end
theorem kG.some_of{v:V}{o:Option F3}(r:kG (some v) o):∃u,o=some u/\aN v u:=by
 cases o with
 |none=>exact(show False from r).elim
 |some u=>exact⟨u,rfl,r⟩
structure cU(k:Nat) (A:O0):Prop where
 hd:A.handled=none
 dp:A.depth+3*k+5<recursionLimit
 un:A.units+16*k+200<ai7
theorem cU.mono{j k:Nat}{A:O0}(r:cU k A) (h:j<=k):cU j A:=⟨r.hd,by have:=r.dp;lia,by have:=r.un;lia⟩
theorem cU.deeper{k:Nat}{A:O0}(r:cU (k+1) A) (env:Env):cU k (A.deeper env) :=
 ⟨r.hd,by have:=r.dp;show A.depth+1+3*k+5<_;lia,by have:=r.un;show A.units+3+16*k+200<_;lia⟩
theorem cU.in1{k:Nat}{A:O0}(r:cU (k+1) A):cU k A.in1 :=
 ⟨r.hd,by have:=r.dp;show A.depth+3*k+5<_;lia,by have:=r.un;show A.units+1+16*k+200<_;lia⟩
theorem cU.depth{k:Nat}{A:O0}(r:cU k A):A.depth<recursionLimit:=by have:=r.dp;lia
theorem cU.units{k:Nat}{A:O0}(r:cU k A):A.units+64<ai7:=by have:=r.un;lia
theorem cU.units0{k:Nat}{A:O0}(r:cU k A):A.units<ai7:=by have:=r.un;lia
def Eu:TA:=fun _ H Q=>Q [] H
def DV(ta:TE) (tr:TA):TA:=fun σ H Q=>ta σ H fun x H1=>tr σ H1 fun xs H2=>Q (x::xs) H2
section
variable{X:Cx}{e:M9}{es:List M9}{te:TE}{t:TA}{pos:Pos}
theorem lB:PA X [] Eu:=fun _ _ _ _ H Q I h=>Calls.spliced_nil ⟨[],H,I,.nil,h⟩
theorem ie(ha:PE X e te) (hr:PA X es t) (hs:K4 (e::es) X.env=(false,ad3 e X.env)::K4 es X.env:=by rfl):PA X (e::es) (DV te t):=by
 intro pos ae s σ H Q I h;rw[hs];show K2 _ _ (spliced ((false,ad3 e X.env)::V7 pos (K4 es X.env))) _ _ s;refine Calls.spliced_cons (thn (ha ae s σ H _ I h) fun u s1 hup=>hup.el fun x H1 I1 r1 q1=>?_);exact thn (hr pos ae s1 σ H1 _ I1 q1) fun us s2 hup=>hup.el fun xs H2 I2 r2 q2=>⟨x::xs,H2,I2,.cons r1 r2,q2⟩
def ET(t:TA):TE:=fun σ H Q=>t σ H fun xs H1=>xs.length<=F7/\∀p,H1 p=none->Q (.ref p) (upd H1 p (.tup xs))
def ES(t:TA):TE:=fun σ H Q=>t σ H fun xs H1=>xs.length<=F7/\∀p,H1 p=none->Q (.ref p) (upd H1 p (.lst xs))
theorem Bb{x1}(h:PA X es t):PE X (.Tuple es x1 pos) (ET t):=by
 intro ae s σ H Q I hq;refine wpAny_Tuple_spliced (thn (h pos ae s σ H _ I hq) fun us s1 ⟨xs,H1,I1,r,z,q⟩=>⟨by rw[<-r.length];exact z,?_⟩);have hf:H1 s1.heap.objs.size=none:=I1.hok.fresh (F9 _);refine⟨.ref s1.heap.objs.size,upd H1 s1.heap.objs.size (.tup xs),I1.laid (t':=s1.toks) (fun b u e=>F0 _ e) (F9 _) ?_,rfl,q _ hf⟩;exact⟨z,us,r,⟨_,J3 _ rfl,rfl,⟨_,rfl⟩,rfl⟩⟩
theorem wD(h:PA X es t):PE X (.List es pos) (ES t):=by
 intro ae s σ H Q I hq;refine wpAny_List_spliced (thn (h pos ae s σ H _ I hq) fun us s1 ⟨xs,H1,I1,r,z,q⟩=>⟨by rw[<-r.length];exact z,?_⟩);have hf:H1 s1.heap.objs.size=none:=I1.hok.fresh (F9 _);refine⟨.ref s1.heap.objs.size,upd H1 s1.heap.objs.size (.lst xs),I1.laid (t':=s1.toks) (fun b u e=>F0 _ e) (F9 _) ?_,rfl,q _ hf⟩;exact⟨z,us,0,r,J3 _ rfl⟩
end
abbrev Sp:=List V->Hp->VK->XK->Prop
abbrev CXT:=List Env->Hp->F4->XK->F3->F4->Prop
structure rQ(P:L1) (w:P9) (K:F2) (mg:Str->Option F3) (base:K7) (A:O0) (outer:List Env) (s:F4) (H:Hp):Prop where
 frames:A.frames=some outer
 mod:Mod K mg base
 bs:∀b o,base.get? b=some o->s.heap.get? b=some o/\H b=none
 bsz:base.objs.size<=s.heap.objs.size
 funs:s.heap.FunFrames base outer
 frf:∀b∈frs outer,H b=none
 hok:HOk P w H s.heap
 bare:al7 s.gens
def CE(outer:List Env) (P:L1) (w:P9) (H:Hp) (s:F4) (Q:VK) (u:F3) (s':F4):Prop :=
 ∃v H',s'.os=s.os/\al7 s'.gens/\Un (frs outer) [] H H' s.heap s'.heap/\HOk P w H' s'.heap/\aN v u/\Q v H'
def CR(CX:CXT) (outer:List Env) (P:L1) (w:P9) (H:Hp) (s:F4) (Q:VK) (E:XK) (r:ao3) (s':F4):Prop :=
 match r with
 |.ok (.ret u)=>CE outer P w H s Q u s'
 |.ok _=>False
 |.error e=>CX outer H s E e s'
structure bA(P:L1) (w:P9) (K:F2) (mg:Str->Option F3) (base:K7) (CX:CXT) (k:Nat) (f:J7) (fd:L8) (ps:List Str) (sp:Sp):Prop where
 len:∀vs H Q E,sp vs H Q E->vs.length=ps.length
 run:∀(A:O0) (outer:List Env) (s:F4) (H:Hp) (args:Args) (us:List F3) (vs:List V) (Q:VK) (E:XK),cU k A->rQ P w K mg base A outer s H->ao6 s fd args (ps.zip us)->ay vs us->sp vs H Q E ->
  ad5 (L5 P w) A (.call (.ref f) args) (CR CX outer P w H s Q E) s
theorem rQ.in1{P:L1}{w:P9}{K:F2}{mg:Str->Option F3}{base:K7}{A:O0}{outer:List Env}{s:F4}{H:Hp}(e:rQ P w K mg base A outer s H) :
  rQ P w K mg base A.in1 outer s H:=⟨e.frames,e.mod,e.bs,e.bsz,e.funs,e.frf,e.hok,e.bare⟩
section
variable{X:Cx}{ae:List (J7×Obj)}{σ:St}{H:Hp}{s s':F4}
theorem Inv.env0(I:Inv X ae σ H s):rQ X.prog X.w X.K X.mg X.base X.A X.stack s H :=
 ⟨I.ok.frames,I.ok.mod,I.bs,P7 I.ok.bsz I.sz,I.stack,I.stkFree,I.hok,I.bare⟩
theorem Inv.after{Q:VK}{u:F3}(I:Inv X ae σ H s) (h:CE X.stack X.prog X.w H s Q u s'):EP X ae σ Q u s':=by
 obtain⟨v,H',os,bare,un,hok,r,q⟩:=h;obtain⟨hh,g,d,t,os'⟩:=s';obtain rfl:os'=s.os:=os;exact⟨v,H',I.call (h':=hh) (g':=g) (d':=d) (t':=t) (ch:=[]) un hok bare (fun b z=>absurd z (by simp)),r,q⟩
end
def C0(sp:Sp) (dvs:List V) (E:XK) (t:TA):TE:=fun σ H Q=>t σ H fun vs H1=>sp (vs++dvs) H1 Q E
def fb(K:F2) (fd:L8) (ps:List Str) (ds:List F3):Prop :=
 ∀(s:F4) (us:List F3),K.In s.heap->(us++ds).length=ps.length->ao6 s fd ⟨us,[]⟩ (ps.zip (us++ds))
theorem fb.all{K:F2}{fd:L8}{ps:List Str}(h:∀us:List F3,us.length=ps.length->bindArgs fd ⟨us,[]⟩=ad0 (ps.zip us)):fb K fd ps []:=fun s us _ hl=>by
 rw[V5]at hl ⊢;exact .of_eq (h us hl)
def qV(CX:CXT) (X:Cx) (E:XK):Prop:=∀(ae:List (J7×Obj)) (σ:St) (H:Hp) (s:F4) (e:F3) (s':F4),Inv X ae σ H s->CX X.stack H s E e s'->X.xe e s'
section
variable{X:Cx}{CX:CXT}{k:Nat}{f C:J7}{fd:L8}{ps:List Str}{sp:Sp}{dvs:List V}{ds:List F3}{E:XK}{x m:Str}{p pos dX:Pos}{e o:M9}{es:List M9}{ta:TE}{t:TA}
theorem Bg{ae:List (J7×Obj)}{σ:St}{H:Hp}{s:F4}{Q:VK}{us:List F3}{vs:List V}(F:bA X.prog X.w X.K X.mg X.base CX k f fd ps sp) (hr:cU k X.A) (hb:fb X.K fd ps ds) (hd:ay dvs ds) (hx:qV CX X E)
  (I:Inv X ae σ H s) (r:ay vs us) (h:sp (vs++dvs) H Q E):K2 (L5 X.prog X.w) X.A (call (.ref f) us) (EP X ae σ Q) X.xe s:=by
 have r2:ay (vs++dvs) (us++ds):=r.append hd;have hl:(us++ds).length=ps.length:=by rw[<-r2.length];exact F.len _ _ _ _ h
 refine wpAny_call (ag3 (F.run X.A X.stack s H ⟨us,[]⟩ (us++ds) (vs++dvs) Q E hr I.env0 (hb s us I.kIn hl) r2 h) fun r s' hq=>?_);cases r with
 |error e=>exact hx ae σ H s e s' I hq
 |ok fl =>
  cases fl with
  |ret u=>exact I.after hq
  |next=>exact aa9 hq
  |brk=>exact aa9 hq
  |cont=>exact aa9 hq
theorem yB(F:bA X.prog X.w X.K X.mg X.base CX k f fd ps sp) (hr:cU k X.A) (hg:Gl X x) (hm:X.mg x=some (.ref f)) (hk:af8 X.K (.ref f)=true) (hb:fb X.K fd ps ds) (hd:ay dvs ds) (hx:qV CX X E)
  (ha:PA X (e::es) t) (hdb:(x==("__debug__":Str))=false:=by decide) (he:K4 (e::es) X.env=(false,ad3 e X.env)::K4 es X.env:=by rfl) (hpl:(V7 pos (K4 es X.env)).any (·.1)=false:=by rfl) :
  PE X (.Call (.Name x p) (e::es) [] pos) (C0 sp dvs E t):=by
 intro ae s σ H Q I h;refine ad8 (sS I hg hm ?_ hdb);refine PySem.W.callWith_K (h₀:=X.base) I.ok.mod.kin hk (thn (ha pos ae s σ H _ I h) fun us s1 hup=>hup.el fun vs H1 I1 r q=>⟨I1.kIn,?_⟩) he hpl;exact Bg F hr hb hd hx I1 r q
end
structure aB(N P:List Str) (sc:aa1):Prop where
 kind:sc.kind=.function
 co:sc.isCoroutine=false
 gen:sc.isGenerator=false
 nd:N.Nodup
 pre:N.take P.length=P
 par:∀x∈P,sc.names.lookup x=some .local∨sc.names.lookup x=some .cell
 nofree:∀y∈sc.names,y.2≠.free
theorem m7{ak8:Str->Option T3}{x:Str}:∀{binds:List (Str×F3)}{m:Str->Option F3},(∀v,(x,v)∉binds)->bindL ak8 binds m x=m x
 |[],_,_=>rfl
 |(n,v)::r,m,h=>by
  unfold bindL;rw[m7 fun w hw=>h w (O7 _ hw)]
  split
  ·have:x≠n:=by rintro rfl;exact h v Q8
   simp[this]
  ·rfl
theorem mY{ak8:Str->Option T3}{x:Str}:∀{binds:List (Str×F3)}{m:Str->Option F3},(∀v,(x,v)∉binds)->bindC ak8 binds m x=m x
 |[],_,_=>rfl
 |(n,v)::r,m,h=>by
  unfold bindC;rw[mY fun w hw=>h w (O7 _ hw)]
  split
  ·rfl
  ·have:x≠n:=by rintro rfl;exact h v Q8
   simp[this]
theorem nh{ak8:Str->Option T3}{x:Str}{v:F3}:∀{P:List Str}{vs:List F3}{i:Nat}{m:Str->Option F3},P.Nodup->P[i]?=some x->vs[i]?=some v->ak8 x=some .local ->
  bindL ak8 (P.zip vs) m x=some v
 |[],_,_,_,_,h,_,_=>by simp at h
 |_::_,[],_,_,_,_,h,_=>by simp at h
 |p::P,w::vs,0,m,nd,h1,h2,hk=>by
  simp at h1 h2;subst h1;subst h2;show bindL ak8 ((p,w)::P.zip vs) m p=_;unfold bindL;rw[m7 fun v hv=>(ab2.mp nd).1 (ah0 hv).1,if_pos hk];simp
 |p::P,w::vs,i+1,m,nd,h1,h2,hk=>by
  show bindL ak8 ((p,w)::P.zip vs) m x=_;unfold bindL;exact nh (i:=i) (ab2.mp nd).2 (by simpa using h1) (by simpa using h2) hk
theorem nQ{ak8:Str->Option T3}{x:Str}{v:F3}:∀{P:List Str}{vs:List F3}{i:Nat}{m:Str->Option F3},P.Nodup->P[i]?=some x->vs[i]?=some v->ak8 x≠some .local ->
  bindC ak8 (P.zip vs) m x=some v
 |[],_,_,_,_,h,_,_=>by simp at h
 |_::_,[],_,_,_,_,h,_=>by simp at h
 |p::P,w::vs,0,m,nd,h1,h2,hk=>by
  simp at h1 h2;subst h1;subst h2;show bindC ak8 ((p,w)::P.zip vs) m p=_;unfold bindC;rw[mY fun v hv=>(ab2.mp nd).1 (ah0 hv).1,if_neg hk];simp
 |p::P,w::vs,i+1,m,nd,h1,h2,hk=>by
  show bindC ak8 ((p,w)::P.zip vs) m x=_;unfold bindC;exact nQ (i:=i) (ab2.mp nd).2 (by simpa using h1) (by simpa using h2) hk
def gk(N:List Str) (vs:List V):St:=vs.map some++I0 (N.length-vs.length) none
noncomputable def qa(CX:CXT) (P:L1) (w:P9) (K:F2) (mg:Str->Option F3) (base:K7) (N:List Str) (qual:Str) (scope:aa1) (f:J7) (cd:F3) (A:O0) (outer:List Env) (s:F4) (H:Hp) (E:XK):Cx where
 prog:=P
 w:=w
 K:=K
 mg:=mg
 base:=base
 A:=A.deeper (an0 qual scope s.heap.objs.size f cd)
 N:=N
 s₀:=s
 H₀:=H
 env:=an0 qual scope s.heap.objs.size f cd
 outer:=outer
 stack:=an0 qual scope s.heap.objs.size f cd::outer
 ex:=[]
 calm:=true
 fn:=fun _=>true
 pn:=[]
 xe:=fun e s'=>K2 (L5 P w) (A.deeper (an0 qual scope s.heap.objs.size f cd)) (leaving (an0 qual scope s.heap.objs.size f cd) e) (fun _ s''=>CX outer H s E e s'') (fun e' s''=>CX outer H s E e' s'') s'
theorem qF{sc:aa1}{n:Nat}{x:Str}(h:sc.names.lookup x=some .cell):∃c,(ap5 n sc.names []).lookup x=some c:=by
 have q:=PySem.W.cellsFrom_some sc.names n [] (.inl h);exact ab3.mp q
theorem uv{CX:CXT}{P:L1}{w:P9}{K:F2}{mg:Str->Option F3}{base:K7}{N ps:List Str}{qual:Str}{scope:aa1}{f:J7}{cd:F3}{A:O0}{outer:List Env}{s s1:F4}{H:Hp}{E:XK}{us:List F3}{vs:List V}
  (S:aB N ps scope) (hd:A.handled=none) (e0:rQ P w K mg base A outer s H) (hl:vs.length=ps.length) (r:ay vs us)
  (x:InCallC s s.heap.objs.size (bindL (an0 qual scope s.heap.objs.size f cd).kindOf (ps.zip us) fun _=>none) (ap5 (s.heap.objs.size+1) scope.names []) (bindC (an0 qual scope s.heap.objs.size f cd).kindOf (ps.zip us) fun _=>none) s1) :
  Inv (qa CX P w K mg base N qual scope f cd A outer s H E) [] (gk N vs) H s1:=by
 have hpl:ps.length<=N.length:=by have:=congrArg X0 S.pre;rw[M0]at this;lia
 obtain⟨h1,tk,rfl,hk⟩:=x.done;have noA:∀b:J7,b∉(qa CX P w K mg base N qual scope f cd A outer s H E).ex:=fun b z=>absurd (show b∈([]:List J7)from z) (by simp);refine⟨⟨e0.mod,S.kind,rfl,rfl,F9 _,fun y z c h1 h2=>?_,fun y hy=>?_,fun y c _ h=>?_,fun _=>hd,O0.frames_deeper e0.frames,.inr ⟨rfl,rfl⟩,fun b z=>absurd z (noA b),e0.bs,e0.bsz,fun b _ _=>noA b,fun b z=>absurd z (noA b),e0.funs,e0.frf⟩,
  rfl,e0.bare,Un.kept hk,⟨_,x.toInCall.ns,fun i y v h1 h2 h3=>?_⟩,fun y c h=>⟨_,x.cell y c h⟩,e0.hok.fresh (F9 _),fun y c h=>?_,fun p hp=>absurd (show p∈([]:List (J7×Obj))from hp) (by simp),e0.hok.kept hk,?_⟩
 ·exact name_of_addr x.apart (R1 h1) (R1 h2)
 ·have hy:scope.names.lookup y=some .cell∨scope.names.lookup y=some .free:=hy;rcases hy with hy|hy
  ·exact qF hy
  ·exact absurd rfl (S.nofree _ (R1 hy))
 ·exact ai6 (x.above y c (R1 h))
 ·have hi:i<vs.length:=by
   unfold gk at h2
   by_cases hi:i<vs.length
   ·exact hi
   ·rw[U8 (by simpa using hi)]at h2;rw[U1]at h2
    split at h2<;>cases h2
  have ha:vs[i]?=some v:=by
   unfold gk at h2;rw[O1 (by simpa using hi),J6]at h2;cases e:vs[i]? with
   |none=>rw[e]at h2;cases h2
   |some a=>rw[e]at h2;cases h2;rfl
  obtain⟨u,hu,rv⟩:=r.get ha;have hp:ps[i]?=some y:=by
   rw[<-S.pre,List.getElem?_take_of_lt (by lia)];exact h1
  have ndP:ps.Nodup:=by rw[<-S.pre];exact S.nd.sublist (List.take_sublist _ _)
  refine⟨u,rv,?_⟩;rcases S.par y (J1 hp)with k|k
  ·exact .inl ⟨k,nh ndP hp hu k⟩
  ·obtain⟨c,e⟩:=qF (n:=s.heap.objs.size+1) k;refine .inr ⟨.inl k,c,e,?_⟩;have q:=x.cell y c e;rw[nQ ndP hp hu (by show scope.names.lookup y≠_;rw[k];decide)]at q;exact q
 ·exact e0.hok.fresh (ai6 (x.above y c (R1 h)))
 ·unfold gk;show _=N.length;rw[F6,F1,V6]
  lia
theorem Dn{CX:CXT}{P:L1}{w:P9}{K:F2}{mg:Str->Option F3}{base:K7}{k:Nat}{f:J7}{name qual:Str}{params:Arguments}{body:List ac2}{scope:aa1}{dV kV doc pm cdv ct oc:F3}{an od:Option J7}
  {osl:Array (Option F3)} {N ps:List Str} {sp:Sp} (lk:K.lookup f=some ⟨oc,od,.func (ac3 name qual params body scope dV kV doc pm an cdv ct),osl⟩) (hcd:al0 K cdv qual=true) (S:aB N ps scope)
  (len:∀vs H Q E,sp vs H Q E->vs.length=ps.length)
  (hbody:∀ (A:O0) (outer:List Env) (s:F4) (H:Hp) (vs:List V) (Q:VK) (E:XK),cU k (A.deeper (an0 qual scope s.heap.objs.size f cdv)) → sp vs H Q E →
   ∃t,PSs (qa CX P w K mg base N qual scope f cdv A outer s H E) body t/\t { nx:=fun _ H'=>Q .non H',rt:=Q } (gk N vs) H) :
  bA P w K mg base CX (k+1) f (ac3 name qual params body scope dV kV doc pm an cdv ct) ps sp:=by
 refine⟨len,fun A outer s H args us vs Q E hr e0 hb r hsp=>?_⟩;have hl:=len _ _ _ _ hsp;have KX:K.In s.heap:=e0.mod.kin.keeps fun b o e=>(e0.bs b o e).1;have lim:s.heap.NoLimit:=e0.mod.nolimit.keeps fun b o e=>(e0.bs b o e).1;have hkind:∀y∈ps.zip us,scope.names.lookup y.1=some .local∨(scope.names.lookup y.1=some .cell/\((ap5 (s.heap.objs.size+1) scope.names []).lookup y.1).isSome=true):=fun⟨n,v⟩ hy=>by
  rcases S.par n (ah0 hy).1 with q|q
  ·exact .inl q
  ·exact .inr ⟨q,PySem.W.cellsFrom_some _ _ _ (.inl q)⟩
 refine codeAny_call_function hr.depth (KX _ _ lk) rfl S.co S.gen rfl (PySem.W.codeRec_of KX hcd) (hb _ _ _ _ ?_);refine wpAny_newFunctionEnv_cells S.kind hkind fun env he s1 x=>?_;subst he;refine⟨lim.keeps x.toInCall.keep,codeAny_func ?_⟩;obtain⟨t,ht,hq⟩:=hbody A outer s H vs Q E (hr.deeper _) hsp;have I:Inv (qa CX P w K mg base N qual scope f cdv A outer s H E) [] (gk N vs) H s1:=uv S hr.hd e0 hl r x;refine P0 (ht [] s1 (gk N vs) H _ I hq) (fun fl s' hs=>?_) fun e s' hs=>hs;have fin:∀{σ':St} {H':Hp} {v:V} {u:F3},Inv (qa CX P w K mg base N qual scope f cdv A outer s H E) [] σ' H' s'->aN v u->Q v H'->CE outer P w H s Q u s' :=
  fun {σ' H' v u} J rv q=>⟨v,H',J.os,J.bare,J.base,J.hok,rv,q⟩
 cases fl with
 |ret u =>
  obtain⟨v,σ',H',J,rv,q⟩:=hs;exact fin J rv q
 |next =>
  obtain⟨σ',H',J,q⟩:=hs;exact fin (v:=V.non) (u:=U6) J rfl q
 |brk =>
  obtain⟨_,_,_,q⟩:=hs;exact aa9 q
 |cont =>
  obtain⟨_,_,_,q⟩:=hs;exact aa9 q
section
variable{X:Cx}{x:Str}{p pos:Pos}{e:M9}{es:List M9}{t:TA}{id T:String}{r:List V->Hp->VK->Prop}
def tCB(r:List V->Hp->VK->Prop) (t:TA):TE:=fun σ H Q=>t σ H fun vs H1=>r vs H1 Q
theorem pT(hc:dg X (.builtin id) r) (hg:Gl X x) (hm:X.mg x=none) (hv:W4 x=some (.builtin id)) (ha:PA X (e::es) t) (hn:x≠"__name__":=by decide) (hdb:(x==("__debug__":Str))=false:=by decide)
  (he:K4 (e::es) X.env=(false,ad3 e X.env)::K4 es X.env:=by rfl) (hpl:(V7 pos (K4 es X.env)).any (·.1)=false:=by rfl):PE X (.Call (.Name x p) (e::es) [] pos) (tCB r t):=by
 intro ae s σ H Q I h;refine ad8 (iF I hg hm hv ?_ hn hdb);exact PyProof.Rows.callWith_builtin1 (thn (ha pos ae s σ H _ I h) fun us s1 hup=>hup.el fun vs H1 I1 r1 q1=>hc ae s1 σ H1 vs us Q I1 r1 q1) he hpl
theorem nV(hc:dg X (.type T) r) (hg:Gl X x) (hm:X.mg x=none) (hv:W4 x=some (.type T)) (ha:PA X (e::es) t) (hn:x≠"__name__":=by decide) (hdb:(x==("__debug__":Str))=false:=by decide)
  (he:K4 (e::es) X.env=(false,ad3 e X.env)::K4 es X.env:=by rfl) (hpl:(V7 pos (K4 es X.env)).any (·.1)=false:=by rfl):PE X (.Call (.Name x p) (e::es) [] pos) (tCB r t):=by
 intro ae s σ H Q I h;refine ad8 (iF I hg hm hv ?_ hn hdb);exact W9 (thn (ha pos ae s σ H _ I h) fun us s1 hup=>hup.el fun vs H1 I1 r1 q1=>hc ae s1 σ H1 vs us Q I1 r1 q1) he hpl
end
end L2
namespace HT
open PySem PyProof.Rows
section
open PySem.SeqAt
open PySem.AutoSeq1 (wpAny_loadPart')
open PySem.MeetsSeq PySem.MeetsSeq2 PySem.MeetsSeq3
end
section
variable{prog:L1}{w:P9}{A:O0}{E:F3->F4->Prop}{s:F4}
theorem cat_tup{t b:J7}{vs ws:List F3}{Q:F3->F4->Prop}(ht:al6 s.heap t vs.toArray) (hb:al6 s.heap b ws.toArray) (hv:vs≠[])
  (h1:ws=[]->Q (.ref t) s) (h2:ws≠[]->Q (.ref s.heap.objs.size) { s with heap:=s.heap.push { cls:=.type "tuple",data:=.seq (vs++ws).toArray } })
  (hsz:vs.length+ws.length<=F7):K2 (L5 prog w) A (V8 .Add (.ref t) (.ref b)) Q E s:=by
 obtain⟨⟨cls,dd,data,sl⟩,ho,hc,n,hd⟩:=id ht;obtain⟨⟨cls2,dd2,data2,sl2⟩,ho2,hc2,n2,hd2⟩:=id hb;simp only at hc hd hc2 hd2;subst hc hd hc2 hd2;have e:vs.toArray++ws.toArray=(vs++ws).toArray:=by simp
 by_cases hw:ws=[]
 ·exact concat_meets ⟨_,ho,rfl⟩ ⟨_,ho2,rfl⟩ noFill_tuple_add seq_tuple_add PySem.F.slot_tuple_add PySem.F.entry_tuple_add (PySem.F.args_tuple_add_2 _ _)
   (tuple_addW1 t b vs.toArray ws.toArray n n2 dd dd2 sl sl2 (by simpa using hv) (by simp[hw])) ⟨ho,ho2,h1 hw⟩
 ·refine concat_meets ⟨_,ho,rfl⟩ ⟨_,ho2,rfl⟩ noFill_tuple_add seq_tuple_add PySem.F.slot_tuple_add PySem.F.entry_tuple_add (PySem.F.args_tuple_add_2 _ _)
   (tuple_addW2 t b vs.toArray ws.toArray n n2 dd dd2 sl sl2 (by simpa using hv) (by simpa using hw) (by rw[J0,J0];exact hsz)) ⟨ho,ho2,?_⟩
  rw[e];exact h2 hw
noncomputable def sIx(n d:Nat):Option Int->Nat
 |none=>d
 |some v=>if v<0 then(v+(n:Int)).toNat else min v.toNat n
theorem sIx_none(n d:Nat):sIx n d none=d:=rfl
theorem sIx_nat(n d k:Nat):sIx n d (some (k:Int))=min k n:=by
 show(if(k:Int)<0 then((k:Int)+(n:Int)).toNat else min (k:Int).toNat n)=min k n;rw[if_neg (by lia),N4]
theorem B9(n d:Nat) (hd:d<=n) (o:Option Int):sIx n d o<=n:=by
 cases o with
 |none=>exact hd
 |some v =>
  show(if v<0 then(v+(n:Int)).toNat else min v.toNat n)<=n
  by_cases hv:v<0
  ·rw[if_pos hv];lia
  ·rw[if_neg hv];exact Nat.min_le_right _ _
theorem sP(v:Int) (n d:Nat):(if v<0 then max (v+(n:Int)) 0 else min v (n:Int))=((sIx n d (some v):Nat):Int):=by
 show(if v<0 then max (v+(n:Int)) 0 else min v (n:Int))=(((if v<0 then(v+(n:Int)).toNat else min v.toNat n):Nat):Int)
 by_cases hv:v<0
 ·simp only[if_pos hv];lia
 ·simp only[if_neg hv];lia
theorem qR(lo hi:Option Int) (n:Nat):K6.Slice.sliceAdjust lo hi 1 (n:Int)=(((sIx n 0 lo:Nat):Int),((sIx n n hi:Nat):Int)):=by
 have h1:¬ ((1:Int)<0):=by lia
 unfold K6.Slice.sliceAdjust;simp only[h1,if_false];refine Prod.ext ?_ ?_
 ·cases lo with
  |none=>rfl
  |some v=>exact sP v n 0
 ·cases hi with
  |none=>rfl
  |some v=>exact sP v n n
theorem rH(i j:Nat):aa2 (i:Int) (j:Int) 1=j-i:=by
 unfold aa2;have h1:(1:Int) > 0:=by lia
 simp only[h1,if_true,am4]
 split<;>lia
theorem md{v:F3}{o:Option Int}{Q:Option Int->F4->Prop}(p:ao4 v o) (h:Q o s):K2 (L5 prog w) A (K6.Slice.slicePartIndex v) Q E s:=by
 cases p with
 |none=>exact slicePart_none h
 |int i t=>exact slicePart_int h
theorem fq{sl:J7}{vl vu:F3}{lo hi:Option Int}{n:Nat}{Q:Int×Int×Nat->F4->Prop}(hs:s.heap.IsSliceOf sl vl vu .none) (pl:ao4 vl lo) (pu:ao4 vu hi)
  (h:Q (((sIx n 0 lo:Nat):Int),1,sIx n n hi-sIx n 0 lo) s):K2 (L5 prog w) A (K6.Slice.sliceApplied (.ref sl) (ad0 (n:Int))) Q E s:=by
 obtain⟨os,hos,hcs,hds⟩:=id hs;unfold K6.Slice.sliceApplied K6.Slice.sliceFields;refine o0 (o0 (U2 hos hds (x:=vl) rfl (o0 (U2 hos hds (x:=vu) rfl (o0 (U2 hos hds (x:=.none) rfl (F5 ?_)))))));refine o0 (slicePart_none ?_);show K2 _ _ (if((1:Int)==0)=true then _ else _) _ _ s;rw[if_neg (by decide)];refine o0 (md pl (o0 (md pu (o0 (F5 ?_)))));show K2 _ _ (match K6.Slice.sliceAdjust lo hi 1 (n:Int)with|(lo,hi)=>ad0 (lo,(1:Int),aa2 lo hi 1)) _ _ s;rw[qR lo hi n];show K2 _ _ (ad0 (((sIx n 0 lo:Nat):Int),(1:Int),aa2 ((sIx n 0 lo:Nat):Int) ((sIx n n hi:Nat):Int) 1)) _ _ s;rw[rH];exact F5 h
theorem xV(xs:Array F3) (i k:Nat):((R8 k).filterMap fun(m:Nat)=>xs[((i:Int)+(m:Int)*1).toNat]?).toArray=((xs.toList.drop i).take k).toArray:=by
 have e:(fun(m:Nat)=>xs[((i:Int)+(m:Int)*1).toNat]?)=fun m=>xs[i+m]?:=by
  funext m;have:((i:Int)+(m:Int)*1).toNat=i+m:=by lia
  rw[this]
 rw[e];have:=pick_run xs i k;rw[List.filterMap_map]at this;have e2:((fun x=>xs[x]?)∘fun x=>i+x)=fun m=>xs[i+m]?:=rfl;rw[e2]at this;rw[this]
theorem getItem_tuple_cut{t sl:J7}{items:Array F3}{vl vu:F3}{lo hi:Option Int}{Q:F3->F4->Prop}(ht:al6 s.heap t items) (hs:s.heap.IsSliceOf sl vl vu .none) (pl:ao4 vl lo) (pu:ao4 vu hi)
  (hw:¬ (sIx items.size 0 lo=0/\sIx items.size items.size hi=items.size))
  (h:Q (.ref s.heap.objs.size) { s with heap:=s.heap.push { cls:=.type "tuple",data:=.seq ((items.toList.drop (sIx items.size 0 lo)).take (sIx items.size items.size hi-sIx items.size 0 lo)).toArray } })
  (hsz:items.size<=F7):K2 (L5 prog w) A (al8 (.ref t) (.ref sl)) Q E s:=by
 have htake:sizeOk (.seq ((items.toList.drop (sIx items.size 0 lo)).take (sIx items.size items.size hi-sIx items.size 0 lo)).toArray):=by
  show((items.toList.drop (sIx items.size 0 lo)).take (sIx items.size items.size hi-sIx items.size 0 lo)).toArray.size<=F7;rw[J0,M0,S3,L0]
  lia
 have hj:sIx items.size items.size hi<=items.size:=B9 _ _ (F9 _) hi;obtain⟨os,hos,hcs,hds⟩:=id hs;have hTs:s.TypeIs (.ref sl) "slice":=⟨os,hos,hcs⟩;unfold al8
 try with_reducible refine R5 ?_
 first|refine o0 (F5 ?_)|skip
 refine o0 (wpAny_sequenceKey ht.typeIs (by decide) ?_);refine o0 (P5 (name:=K3 "__getitem__") ht.typeIs R9
  (Q6 R9 ht.typeIs entry_tuple_getitem ?_ (args_tuple_getitem _ _)))
 show K2 _ _ (K6.Tuple.tupleItemsOf (.ref t) >>= _) _ _ s;refine o0 (tupleItemsOf_ ht ?_);refine o0 (ag4 hTs ?_);rw[if_pos (by decide)];refine o0 (fq hs pl pu ?_);have hno:¬ ((((sIx items.size 0 lo:Nat):Int)==0&&(1:Int)==1&&(sIx items.size items.size hi-sIx items.size 0 lo)==items.size)=true):=by
  intro q;rw[N1,N1]at q;have q1:((sIx items.size 0 lo:Nat):Int)=0:=eq_of_beq q.1.1;have q2:sIx items.size items.size hi-sIx items.size 0 lo=items.size:=eq_of_beq q.2;exact hw ⟨by lia,by lia⟩
 show K2 _ _ (if(((sIx items.size 0 lo:Nat):Int)==0&&(1:Int)==1&&(sIx items.size items.size hi-sIx items.size 0 lo)==items.size)=true then _ else _) _ _ s;rw[if_neg hno,xV]
 first
  |exact o0 (m:=T1 _) (N2 (F5 ⟨_,rfl,F5 h⟩) htake)
  |exact o0 (m:=T1 _) (N2 (o0 (F5 (F5 ⟨_,rfl,F5 h⟩))) htake)
  |exact o0 (o0 (m:=T1 _) (N2 (F5 (F5 ⟨_,rfl,F5 h⟩)) htake))
  |exact o0 (o0 (m:=T1 _) (N2 (F5 ⟨_,rfl,F5 h⟩) htake))
end
end HT
namespace L2
open PySem PySem.Spec PyProof.Rows
abbrev TO:=St->Hp->(Option Int->Hp->Prop)->Prop
def PO(X:Cx) (e:Option M9) (t:TO):Prop :=
 ∀(ae:List (J7×Obj)) (s:F4) (σ:St) (H:Hp) (Q:Option Int->Hp->Prop),Inv X ae σ H s->t σ H Q ->
  K2 (L5 X.prog X.w) X.A (evalPart e X.env) (fun u s'=>∃o H',Inv X ae σ H' s'/\ao4 u o/\Q o H') X.xe s
def zN:TO:=fun _ H Q=>Q none H
def C4(t:TE):TO:=fun σ H Q=>t σ H fun x H1=>∃i,x=.int i/\Q (some i) H1
section
variable{X:Cx}{e:M9}{te:TE}{lo hi:Option M9}{tl th:TO}{pos p2:Pos}
theorem yl:PO X none zN:=by
 intro ae s σ H Q I h;rw[evalPart_none];exact F5 ⟨none,H,I,.none,h⟩
theorem zf(h:PE X e te):PO X (some e) (C4 te):=by
 intro ae s σ H Q I hw;rw[evalPart_some];refine thn (h ae s σ H _ I hw) fun u s1 hup=>hup.el fun x H1 I1 r1 q1=>?_;obtain⟨i,rfl,q⟩:=q1;obtain⟨t,rfl⟩:=r1;exact⟨some i,H1,I1,.int i t,q⟩
def SlR(X:Cx) (r:V->Option Int->Option Int->Hp->VK->Prop):Prop :=
 ∀(ae:List (J7×Obj)) (s:F4) (σ:St) (H:Hp) (x:V) (v vl vu:F3) (lo hi:Option Int) (sl:J7) (Q:VK),Inv X ae σ H s->aN x v->s.heap.IsSliceOf sl vl vu .none->ao4 vl lo->ao4 vu hi->r x lo hi H Q ->
  ∃T id,typeLookup (.type T) "__getitem__"=ad0 (some (.builtin id))/\s.TypeIs v T/\K2 (L5 X.prog X.w) X.A (al8 v (.ref sl)) (EP X ae σ Q) X.xe s
theorem SlR.or{r r':V->Option Int->Option Int->Hp->VK->Prop}(h:SlR X r) (h':SlR X r'):SlR X (fun x lo hi H Q=>r x lo hi H Q∨r' x lo hi H Q):=by
 intro ae s σ H x v vl vu lo hi sl Q I rx hs pl pu q;rcases q with q|q
 ·exact h ae s σ H x v vl vu lo hi sl Q I rx hs pl pu q
 ·exact h' ae s σ H x v vl vu lo hi sl Q I rx hs pl pu q
def tSl(r:V->Option Int->Option Int->Hp->VK->Prop) (te:TE) (tl th:TO):TE:=fun σ H Q=>te σ H fun x H1=>tl σ H1 fun l H2=>th σ H2 fun u H3=>r x l u H3 Q
theorem xc{r:V->Option Int->Option Int->Hp->VK->Prop}(hr:SlR X r) (he:PE X e te) (hl:PO X lo tl) (hu:PO X hi th):PE X (.Subscript e (.Slice lo hi none p2) pos) (tSl r te tl th):=by
 intro ae s σ H Q I h;refine ao7 (thn (he ae s σ H _ I h) fun v s1 hup=>hup.el fun x H1 I1 r1 q1=>?_);refine wpAny_Slice (thn (hl ae s1 σ H1 _ I1 q1) fun vl s2 ⟨l,H2,I2,pl,q2⟩=>thn (hu ae s2 σ H2 _ I2 q2) fun vu s3 ⟨u,H3,I3,pu,q3⟩=>?_);rw[evalPart_none];refine F5 ?_;have I4:Inv X ae σ H3 { s3 with heap:=s3.heap.push { cls:=.type "slice",data:=.fields #[vl,vu,.none] } }:=I3.kept (t':=s3.toks) fun b ob q=>F0 _ q;obtain⟨T,id,hT,ht,hg⟩:=hr ae { s3 with heap:=s3.heap.push { cls:=.type "slice",data:=.fields #[vl,vu,.none] } } σ H3 x v vl vu l u s3.heap.objs.size Q I4 r1 (K7.IsSliceOf.new ..) pl pu q3;show K2 (L5 X.prog X.w) X.A (subscriptTail e (.Slice lo hi none p2) v (.ref s3.heap.objs.size)) (EP X ae σ Q) X.xe { s3 with heap:=s3.heap.push { cls:=.type "slice",data:=.fields #[vl,vu,.none] } };exact tail_any (ops:=[.ref s3.heap.objs.size,v]) ht hT hg (by with_unfolding_all rfl)
def o6(xs:List V) (lo hi:Option Int):List V:=(xs.drop (HT.sIx xs.length 0 lo)).take (HT.sIx xs.length xs.length hi-HT.sIx xs.length 0 lo)
theorem kh(xs:List V) (lo hi:Option Int):(o6 xs lo hi).length<=xs.length:=by
 unfold o6;rw[M0,S3]
 lia
def EU(K:F2):V->Option Int->Option Int->Hp->VK->Prop:=fun x lo hi H Q=>∃a xs,x=.ref a/\SqT K H a xs /\
 ¬ (HT.sIx xs.length 0 lo=0/\HT.sIx xs.length xs.length hi=xs.length)/\∀p,H p=none->Q (.ref p) (upd H p (.tup (o6 xs lo hi)))
theorem Br:SlR X (EU X.K):=by
 intro ae s σ H x v vl vu lo hi sl Q I rx hs pl pu h;obtain⟨a,xs,rfl,hx,hw,q⟩:=h;cases rx;obtain⟨its,r,ht,hz⟩:=I.tuple hx;have cS:its.toArray.size=xs.length:=by rw[J0];exact r.length.symm
 refine⟨"tuple",_,R9.lookup,ht.typeIs,?_⟩;refine HT.getItem_tuple_cut ht hs pl pu (by rw[cS];exact hw) ?_ (by rw[cS];exact hz);rw[cS];refine⟨.ref s.heap.objs.size,_,I.laid (t':=s.toks) (o:=.tup (o6 xs lo hi)) (fun b ob q=>F0 _ q) (F9 _) ?_,rfl,q _ (I.hok.fresh (F9 _))⟩;exact⟨P7 (kh xs lo hi) hz,_,(r.drop (HT.sIx xs.length 0 lo)).take (HT.sIx xs.length xs.length hi-HT.sIx xs.length 0 lo),jd.new _ _⟩
def CI(K:F2):R2:=fun x y H Q=>∃a b xs ys,x=.ref a/\y=.ref b/\SqT K H a xs/\SqT K H b ys/\xs≠[]/\xs.length+ys.length<=F7 /\
 (ys=[]->Q (.ref a) H)/\(ys≠[]->∀p,H p=none->Q (.ref p) (upd H p (.tup (xs++ys))))
theorem ay.nil_iff{xs:List V}{us:List F3}(r:ay xs us):us=[]↔xs=[]:=by
 cases r with
 |nil=>simp
 |cons _ _=>simp
theorem zc:OpR X (V8 .Add) (CI X.K):=by
 intro ae s σ H x y v u Q I rx ry h;obtain⟨a,b,xs,ys,rfl,rfl,ha,hb,hx,hz,q1,q2⟩:=h;cases rx;cases ry;obtain⟨its,r1,p1,_⟩:=I.tuple ha;obtain⟨its2,r2,p2,_⟩:=I.tuple hb;refine HT.cat_tup p1 p2 (fun z=>hx (r1.nil_iff.mp z)) (fun z=>⟨.ref a,H,I,rfl,q1 (r2.nil_iff.mp z)⟩) (fun z=>?_) (by rw[<-r1.length,<-r2.length];exact hz);refine⟨.ref s.heap.objs.size,_,I.laid (t':=s.toks) (o:=.tup (xs++ys)) (fun b ob q=>F0 _ q) (F9 _) ?_,rfl,q2 (fun w=>z (r2.nil_iff.mpr w)) _ (I.hok.fresh (F9 _))⟩;exact⟨by rw[F6];exact hz,_,r1.append r2,jd.new _ _⟩
end
noncomputable def ixN(n:Nat) (i:Int):Option Nat:=if 0<=i then(if i<n then some i.toNat else none)else if -(n:Int)<=i then some (i+n).toNat else none
def atI{α:Type}(xs:List α) (i:Int):Option α:=(ixN xs.length i).bind fun j=>xs[j]?
theorem tV{n:Nat}{i:Int}{j:Nat}(h:ixN n i=some j):seqIndex? i n=some j/\j<n/\-(n:Int)<=i/\i<n:=by
 unfold ixN at h
 by_cases h0:0<=i
 ·rw[if_pos h0]at h
  by_cases h1:i<n
  ·rw[if_pos h1]at h;have e:i.toNat=j:=Q7 h;exact⟨by rw[seqIndex_of h0 h1,e],by lia,by lia,h1⟩
  ·rw[if_neg h1]at h;cases h
 ·rw[if_neg h0]at h
  by_cases h1:-(n:Int)<=i
  ·rw[if_pos h1]at h;have e:(i+n).toNat=j:=Q7 h;exact⟨by rw[seqIndex_neg (by lia) h1,e],by lia,h1,by lia⟩
  ·rw[if_neg h1]at h;cases h
theorem pd{α:Type}{xs:List α}{i:Int}{v:α}(h:atI xs i=some v):∃j,seqIndex? i xs.length=some j/\xs[j]?=some v/\j<xs.length/\-(xs.length:Int)<=i/\i<xs.length:=by
 unfold atI at h;cases e:ixN xs.length i with
 |none=>rw[e]at h;cases h
 |some j =>
  rw[e]at h;obtain⟨h1,h2,h3,h4⟩:=tV e;exact⟨j,h1,h,h2,h3,h4⟩
theorem aL{α:Type}{xs:List α}{j:Nat}{v:α}(h:xs[j]?=some v):atI xs (j:Int)=some v:=by
 have hj:j<xs.length:=(F8.mp h).1;have e:ixN xs.length (j:Int)=some j:=by
  unfold ixN;rw[if_pos (by lia),if_pos (by lia)];simp
 unfold atI;rw[e];exact h
def tS(b:M9):Prop:=∀o i,an3 b false o i=operate [o,i] (al8 o i)
def IxR(X:Cx) (r:R2):Prop :=
 ∀(value slice:M9) (ae:List (J7×Obj)) (s:F4) (σ:St) (H:Hp) (x y:V) (v u:F3) (Q:VK),Inv X ae σ H s->aN x v->aN y u->r x y H Q ->
  an3 slice false v u=operate [v,u] (al8 v u)->K2 (L5 X.prog X.w) X.A (subscriptTail value slice v u) (EP X ae σ Q) X.xe s
def MtR(X:Cx) (id:String) (r:V->List V->Hp->VK->Prop):Prop :=
 ∀(ae:List (J7×Obj)) (s:F4) (σ:St) (H:Hp) (x:V) (xs:List V) (v:F3) (us:List F3) (Q:VK),Inv X ae σ H s->aN x v->ay xs us->r x xs H Q ->
  K2 (L5 X.prog X.w) X.A (call (.builtin id) (v::us)) (EP X ae σ Q) X.xe s
section
variable{X:Cx}{a b:M9}{ta tb:TE}{pos:Pos}
theorem Dt{r:R2}(hr:IxR X r) (ha:PE X a ta) (hb:PE X b tb) (hs:tS b):PE X (.Subscript a b pos) (tOp r ta tb):=by
 intro ae s σ H Q I h;exact ao7 (Bi ha hb I h fun v u s2 x y H2 I2 rx ry q=>hr a b ae s2 σ H2 x y v u Q I2 rx ry q (hs _ _))
def EO(K:F2):R2:=fun x y H Q=>∃p xs i v,x=.ref p/\y=.int i/\SqL K H p xs/\atI xs i=some v/\Q v H
def EF(K:F2):R2:=fun x y H Q=>∃p xs i v,x=.ref p/\y=.int i/\SqT K H p xs/\atI xs i=some v/\Q v H
def Ez:R2:=fun x y H Q=>∃z i c,x=.str z/\y=.int i/\z.length<=F7/\atI z.cps.toList i=some c/\Q (.str ⟨#[c]⟩) H
theorem tR:IxR X (EO X.K):=by
 intro value slice ae s σ H x y v u Q I rx ry h hs;obtain⟨p,xs,i,z,rfl,rfl,hq,he,q⟩:=h;cases rx;obtain⟨t,rfl⟩:=ry;obtain⟨its,r,pl,hz⟩:=I.list hq;obtain⟨j,h1,h2,h3,h4,h5⟩:=pd he;obtain⟨w,ew,rw'⟩:=r.get h2;have hl:=r.length;have hn:=jX;have fin:EP X ae σ Q w s:=⟨z,H,I,rw',q⟩
 by_cases h0:0<=i
 ·have hj:i.toNat=j:=by
   rw[seqIndex_of h0 h5]at h1;exact Q7 h1
  exact item_listR pl.isList h0 (by lia) (by rw[hj];simpa using ew) fin hs
 ·have hj:(i+(its.toArray.size:Int)).toNat=j:=by
   rw[seqIndex_neg (by lia) h4]at h1;rw[J0,<-hl];exact Q7 h1
  exact subscriptTail_builtinR (x:=w) pl.isList.typeIs slot_list_getitem.lookup
   (wpAny_getItem_list_neg (Q:=fun r s'=>r=w/\EP X ae σ Q r s') pl.isList (by lia) (by rw[J0]<;>lia) (by lia) (by rw[hj];simpa using ew) ⟨rfl,fin⟩) hs
theorem BX:IxR X (EF X.K):=by
 intro value slice ae s σ H x y v u Q I rx ry h hs;obtain⟨p,xs,i,z,rfl,rfl,hq,he,q⟩:=h;cases rx;obtain⟨t,rfl⟩:=ry;obtain⟨its,r,pl,hz⟩:=I.tuple hq;obtain⟨j,h1,h2,h3,h4,h5⟩:=pd he;obtain⟨w,ew,rw'⟩:=r.get h2;have hl:=r.length;have hn:=jX;have fin:EP X ae σ Q w s:=⟨z,H,I,rw',q⟩;exact subscriptTail_builtinR (x:=w) pl.typeIs slot_tuple_getitem.lookup
  (getItem_tuple (j:=j) (Q:=fun r s'=>r=w/\EP X ae σ Q r s') pl (by lia) (by lia) (by rw[J0,<-hl];exact h1) (by simpa using ew) ⟨rfl,fin⟩) hs
theorem B2:IxR X Ez:=by
 intro value slice ae s σ H x y v u Q I rx ry h hs;obtain⟨z,i,c,rfl,rfl,hz,he,q⟩:=h;obtain⟨t,rfl⟩:=rx;obtain⟨t',rfl⟩:=ry;obtain⟨j,h1,h2,h3,h4,h5⟩:=pd he;have hl:z.cps.toList.length=z.length:=by simp[Str.length]
 rw[hl]at h1 h4 h5;have hn:=jX;exact tail_any (typeIs_str s z t) slot_str_getitem.lookup (getItem_str (c:=c) (by
  have e1:decide (i < -(2 ^ 63:Int))=false:=decide_eq_false (by lia);have e2:decide (i>=2 ^ 63)=false:=decide_eq_false (by lia);rw[e1,e2,al9]) (by rw[h1];simpa using h2) ⟨.str ⟨#[c]⟩,H,I.tok _,⟨_,rfl⟩,q⟩) hs
theorem qX(its:List F3) (n j:Nat) (u:F3):ab4 (·.setIfInBounds j u) { cls:=.type "list",data:=.seq its.toArray n }={ cls:=.type "list",data:=.seq (its.set j u).toArray n }:=by
 simp[ab4]
theorem Inv.lst{ae:List (J7×Obj)}{σ:St}{H:Hp}{s:F4}{p:J7}{xs:List V}(I:Inv X ae σ H s) (h:H p=some (.lst xs)) :
  ∃(its:List F3) (n:Nat),ay xs its/\s.heap.get? p=some { cls:=.type "list",data:=.seq its.toArray n }/\xs.length<=F7:=by
 obtain⟨z,its,n,r,e⟩:=I.hok p _ h;exact⟨its,n,r,e,z⟩
theorem Inv.lstUpd{ae:List (J7×Obj)}{σ:St}{H:Hp}{s:F4}{p:J7}{xs ys:List V}{its its':List F3}{n n':Nat}{f:Obj->Obj}(I:Inv X ae σ H s) (h:H p=some (.lst xs))
  (ho:s.heap.get? p=some { cls:=.type "list",data:=.seq its.toArray n }) (hf:f { cls:=.type "list",data:=.seq its.toArray n }={ cls:=.type "list",data:=.seq its'.toArray n' }) (r:ay ys its') (hz:ys.length<=F7) (t:Nat) :
  Inv X ae σ (upd H p (.lst ys)) { s with heap:=s.heap.update p f,toks:=t }:=by
 have e:(s.heap.update p f).get? p=some { cls:=.type "list",data:=.seq its'.toArray n' }:=by
  rw[S0 f ho (by rw[hf]<;>rfl),hf]
 refine I.write (x:=p) (e:=p) (by rw[h];trivial) (.inl rfl) (fun b u hb q=>(ad6 _ _ (aa7 hb)).trans q) ⟨_,e⟩ ?_;exact⟨hz,its',n',r,e⟩
def CT:V->V->V->Hp->(Hp->Prop)->Prop:=fun o i v H Q=>∃p xs k j,o=.ref p/\i=.int k/\H p=some (.lst xs)/\ixN xs.length k=some j/\Q (upd H p (.lst (xs.set j v)))
theorem xk:Eg X CT:=by
 intro ae s σ H o i v ov iv u Q I ro ri rv h;obtain⟨p,xs,k,j,rfl,rfl,hp,hj,q⟩:=h;cases ro;obtain⟨t,rfl⟩:=ri;obtain⟨its,n,r,ho,hz⟩:=I.lst hp;obtain⟨h1,h2,h3,h4⟩:=tV hj;have hl:=r.length;have hn:=jX;have I':Inv X ae σ (upd H p (.lst (xs.set j v))) { s with heap:=s.heap.update p (ab4 (·.setIfInBounds j u)) } :=
  I.lstUpd hp ho (qX its n j u) (r.set rv j) (by rw[ah1];exact hz) s.toks
 by_cases h0:0<=k
 ·have hk:k.toNat=j:=by
   rw[seqIndex_of h0 h4]at h1;exact Q7 h1
  exact PySem.W.ki_setAt ho h0 (by lia) (by rw[J0,<-hl];exact h4) (by rw[hk];exact⟨_,I',q⟩)
 ·have hk:(k+(its.toArray.size:Int)).toNat=j:=by
   rw[seqIndex_neg (by lia) h3]at h1;rw[J0,<-hl];exact Q7 h1
  exact PySem.W.ki_setBack ho (by lia) (by rw[J0,<-hl];exact h3) (by lia) (by rw[hk];exact⟨_,I',q⟩)
theorem oh(lo hi:Option Int) (n:Nat):(ae3 lo hi none n).1=((HT.sIx n 0 lo:Nat):Int)/\(ae3 lo hi none n).2.1=((HT.sIx n n hi:Nat):Int)/\(ae3 lo hi none n).2.2=1:=by
 refine⟨?_,?_,rfl⟩
 ·cases lo with
  |none=>simp[ae3,HT.sIx]
  |some i =>
   simp only[ae3,HT.sIx,Option.getD_none,show(1:Int) > 0 by decide,if_true]
   by_cases h:i<0
   ·simp only[h,if_true]<;>lia
   ·simp only[h,if_false]<;>lia
 ·cases hi with
  |none=>simp[ae3,HT.sIx]
  |some i =>
   simp only[ae3,HT.sIx,Option.getD_none,show(1:Int) > 0 by decide,if_true]
   by_cases h:i<0
   ·simp only[h,if_true]<;>lia
   ·simp only[h,if_false]<;>lia
theorem mK(its:List F3) (lo hi:Option Int):ap6 its.toArray lo hi none=((its.drop (HT.sIx its.length 0 lo)).take (HT.sIx its.length its.length hi-HT.sIx its.length 0 lo)).toArray:=by
 obtain⟨h1,h2,h3⟩:=oh lo hi its.toArray.size;unfold ap6;rw[h1,h2,h3];simp only[sliceRange_one,pick_run,J0]<;>rfl
def EA(K:F2):V->Option Int->Option Int->Hp->VK->Prop:=fun x lo hi H Q=>∃a xs,x=.ref a/\SqL K H a xs/\∀p,H p=none->Q (.ref p) (upd H p (.lst (o6 xs lo hi)))
theorem yi:SlR X (EA X.K):=by
 intro ae s σ H x v vl vu lo hi sl Q I rx hs pl pu h;obtain⟨a,xs,rfl,hx,q⟩:=h;cases rx;obtain⟨its,r,ht,hz⟩:=I.list hx;have cS:=r.length;refine⟨"list",_,slot_list_getitem.lookup,ht.isList.typeIs,?_⟩;refine wpAny_getItem_list_slice ht.isList hs pl pu .none (by simp) ?_ (by rw[J0]<;>lia);rw[mK,<-cS];refine⟨.ref s.heap.objs.size,_,I.laid (t':=s.toks) (o:=.lst (o6 xs lo hi)) (fun b ob q=>F0 _ q) (F9 _) ?_,rfl,q _ (I.hok.fresh (F9 _))⟩;exact⟨P7 (kh xs lo hi) hz,_,0,(r.drop (HT.sIx xs.length 0 lo)).take (HT.sIx xs.length xs.length hi-HT.sIx xs.length 0 lo),J3 _ rfl⟩
def gD:V->Bool
 |.non=>true
 |.bl _=>true
 |.int _=>true
 |.str _=>true
 |_=>false
noncomputable def eqV:V->V->Bool
 |.non,.non=>true
 |.bl a,.bl b=>a==b
 |.bl a,.int b=>(if a then 1 else 0)==b
 |.int a,.bl b=>a==(if b then 1 else 0)
 |.int a,.int b=>a==b
 |.str a,.str b=>a==b
 |_,_=>false
theorem Bu{A:O0}{s:F4}{y x:V}{u v:F3}(ry:aN y u) (rx:aN x v) (fy:gD y=true) (fx:gD x=true):T5 A s u v (eqV y x):=by
 cases y with
 |non =>
  cases ry;cases x with
  |non=>cases rx;exact T5.same _
  |bl b=>cases rx;exact T5.none_bool b
  |int b=>obtain⟨t,rfl⟩:=rx;exact T5.none_int b t
  |str b=>obtain⟨t,rfl⟩:=rx;exact T5.none_str b t
  |_=>exact absurd (show false=true from fx) Q9
 |bl a =>
  cases ry;cases x with
  |non=>cases rx;exact T5.bool_none a
  |bl b=>cases rx;exact T5.bool_bool a b
  |int b=>obtain⟨t,rfl⟩:=rx;exact T5.bool_int a b t
  |str b=>obtain⟨t,rfl⟩:=rx;exact T5.bool_str a b t
  |_=>exact absurd (show false=true from fx) Q9
 |int a =>
  obtain⟨t',rfl⟩:=ry;cases x with
  |non=>cases rx;exact T5.int_none a t'
  |bl b=>cases rx;exact T5.int_bool a t' b
  |int b=>obtain⟨t,rfl⟩:=rx;exact T5.int_int a t' b t
  |str b=>obtain⟨t,rfl⟩:=rx;exact T5.int_str a t' b t
  |_=>exact absurd (show false=true from fx) Q9
 |str a =>
  obtain⟨t',rfl⟩:=ry;cases x with
  |non=>cases rx;exact T5.str_none a t'
  |bl b=>cases rx;exact T5.str_bool a t' b
  |int b=>obtain⟨t,rfl⟩:=rx;exact T5.str_int a t' b t
  |str b=>obtain⟨t,rfl⟩:=rx;exact T5.str_str a t' b t
  |_=>exact absurd (show false=true from fx) Q9
 |_=>exact absurd (show false=true from fy) Q9
def eqU(x:V) (u:F3):Bool:=match u with
 |.none=>eqV .non x
 |.bool b=>eqV (.bl b) x
 |.int i _=>eqV (.int i) x
 |.str z _=>eqV (.str z) x
 |_=>false
theorem u9{x y:V}{u:F3}(r:aN y u) (f:gD y=true):eqU x u=eqV y x:=by
 cases y with
 |non=>cases r;rfl
 |bl b=>cases r;rfl
 |int i=>obtain⟨t,rfl⟩:=r;rfl
 |str z=>obtain⟨t,rfl⟩:=r;rfl
 |_=>exact absurd (show false=true from f) Q9
theorem jk{x:V}:∀{xs:List V}{us:List F3},ay xs us->xs.all gD=true->us.any (eqU x)=xs.any fun y=>eqV y x
 |_,_,.nil,_=>rfl
 |y::xs,u::us,.cons r t,f=>by
  rw[ah2,N1]at f;rw[V2,V2,u9 r f.1,jk t f.2]
theorem gQ{A:O0}{s:F4}{x:V}{v:F3}(rx:aN x v) (fx:gD x=true):∀{xs:List V}{us:List F3},ay xs us->xs.all gD=true->∀u∈us,T5 A s u v (eqU x u)
 |_,_,.nil,_=>fun u hu=>by cases hu
 |y::xs,u::us,.cons r t,f=>fun u' hu=>by
  rw[ah2,N1]at f;rcases J9.mp hu with rfl|hu
  ·rw[u9 r f.1];exact Bu r rx f.1 fx
  ·exact gQ rx fx t f.2 u' hu
def inV(x:V) (xs:List V):Bool:=xs.any fun y=>eqV y x
def rIn(K:F2) (neg:Bool):R2:=fun x y H Q=>∃p xs,y=.ref p/\(SqL K H p xs∨SqT K H p xs)/\gD x=true/\xs.all gD=true/\Q (.bl (if neg then !inV x xs else inV x xs)) H
theorem t9:OpR X (Q5 .In) (rIn X.K false):=by
 intro ae s σ H x y v u Q I rx ry h;obtain⟨p,xs,rfl,hq,fx,fs,q⟩:=h;cases ry;rcases hq with hq|hq
 ·obtain⟨its,r,pl,hz⟩:=I.list hq;refine SeqAt.in_listAt (eqU x) pl.isList (fun w hw=>gQ rx fx r fs w (by simpa using hw)) ⟨.bl _,H,I,rfl,?_⟩;rw[show its.toArray.any (eqU x)=its.any (eqU x)by simp,jk r fs];exact q
 ·obtain⟨its,r,pl,hz⟩:=I.tuple hq;refine SeqAt.in_tupleAt (eqU x) pl (fun w hw=>gQ rx fx r fs w (by simpa using hw)) ⟨.bl _,H,I,rfl,?_⟩;rw[show its.toArray.any (eqU x)=its.any (eqU x)by simp,jk r fs];exact q
theorem o7:OpR X (Q5 .NotIn) (rIn X.K true):=by
 intro ae s σ H x y v u Q I rx ry h;obtain⟨p,xs,rfl,hq,fx,fs,q⟩:=h;cases ry;rcases hq with hq|hq
 ·obtain⟨its,r,pl,hz⟩:=I.list hq;refine SeqAt.notIn_listAt (eqU x) pl.isList (fun w hw=>gQ rx fx r fs w (by simpa using hw)) ⟨.bl _,H,I,rfl,?_⟩;rw[show its.toArray.any (eqU x)=its.any (eqU x)by simp,jk r fs];exact q
 ·obtain⟨its,r,pl,hz⟩:=I.tuple hq;refine SeqAt.notIn_tupleAt (eqU x) pl (fun w hw=>gQ rx fx r fs w (by simpa using hw)) ⟨.bl _,H,I,rfl,?_⟩;rw[show its.toArray.any (eqU x)=its.any (eqU x)by simp,jk r fs];exact q
theorem o9:dg X (.builtin "len") (fun xs H Q=>∃p ys,xs=[.ref p]/\(SqL X.K H p ys∨SqT X.K H p ys)/\Q (.int ys.length) H):=by
 intro ae s σ H xs us Q I r h;obtain⟨p,ys,rfl,hq,q⟩:=h;obtain⟨u,rfl,rx⟩:=nR r;cases rx;have hn:=jX;rcases hq with hq|hq
 ·obtain⟨its,r',pl,hz⟩:=I.list hq;have cS:=r'.length;exact Calls.call_len_list pl.isList (by simp only[J0]<;>lia) ⟨.int ys.length,H,I.tok _,⟨s.toks+1,by rw[J0,cS]⟩,q⟩
 ·obtain⟨its,r',pl,hz⟩:=I.tuple hq;have cS:=r'.length;exact len_tuple pl (by simp only[J0]<;>lia) ⟨.int ys.length,H,I.tok _,⟨s.toks+1,by rw[J0,cS]⟩,q⟩
theorem oF:dg X (.builtin "len") (fun xs H Q=>∃z,xs=[.str z]/\z.length<=F7/\Q (.int z.length) H):=by
 intro ae s σ H xs us Q I r h;obtain⟨z,rfl,hz,q⟩:=h;obtain⟨u,rfl,t,rfl⟩:=nR r;have hn:=jX;exact len_str (by lia) ⟨.int z.length,H,I.tok _,⟨_,rfl⟩,q⟩
theorem dg.or{f:F3}{r r':List V->Hp->VK->Prop}(h:dg X f r) (h':dg X f r'):dg X f (fun xs H Q=>r xs H Q∨r' xs H Q):=by
 intro ae s σ H xs us Q I rs q;rcases q with q|q
 ·exact h ae s σ H xs us Q I rs q
 ·exact h' ae s σ H xs us Q I rs q
theorem jv:dg X (.type "list") (fun xs H Q=>∃p ys,xs=[.ref p]/\(SqL X.K H p ys∨SqT X.K H p ys)/\∀l,H l=none->Q (.ref l) (upd H l (.lst ys))):=by
 intro ae s σ H xs us Q I r h;obtain⟨p,ys,rfl,hq,q⟩:=h;obtain⟨u,rfl,rx⟩:=nR r;cases rx;have fin:∀(its:List F3),ay ys its->ys.length<=F7->∀(h':K7) (c':Nat),(∀b o',s.heap.get? b=some o'->h'.get? b=some o') ->
   h'.get? s.heap.objs.size=some { cls:=.type "list",dict:=none,data:=.seq its.toArray c',slots:=#[] }->EP X ae σ Q (.ref s.heap.objs.size) { s with heap:=h' }:=fun its r' hz h' c' kp e =>
  ⟨.ref s.heap.objs.size,_,I.laid (t':=s.toks) kp (F9 _) (show bT X.prog X.w _ h' _ (.lst ys)from⟨hz,its,c',r',e⟩),rfl,q _ (I.hok.fresh (F9 _))⟩
 rcases hq with hq|hq
 ·obtain⟨its,r',pl,hz⟩:=I.list hq;have cS:=r'.length;obtain⟨o,ho,hc,n,hd⟩:=pl.isList;exact call_list_seq p (.inl rfl) ho hc hd (fun h' c' kp e=>fin its r' hz h' c' kp e) (by simp only[J0]<;>lia)
 ·obtain⟨its,r',pl,hz⟩:=I.tuple hq;have cS:=r'.length;obtain⟨o,ho,hc,n,hd⟩:=pl;exact call_list_seq p (.inr rfl) ho hc hd (fun h' c' kp e=>fin its r' hz h' c' kp e) (by simp only[J0]<;>lia)
theorem mN:dg X (.type "tuple") (fun xs H Q=>∃p ys,xs=[.ref p]/\((SqL X.K H p ys/\∀l,H l=none->Q (.ref l) (upd H l (.tup ys)))∨(SqT X.K H p ys/\Q (.ref p) H))):=by
 intro ae s σ H xs us Q I r h;obtain⟨p,ys,rfl,h⟩:=h;obtain⟨u,rfl,rx⟩:=nR r;cases rx;rcases h with⟨hq,q⟩|⟨hq,q⟩
 ·obtain⟨its,r',pl,hz⟩:=I.list hq;have cS:=r'.length;refine call_tuple_list pl.isList (fun h' kp=>?_) (by simp only[J0]<;>lia);have I1:Inv X ae σ H { s with heap:=h' }:=I.kept (t':=s.toks) kp;have I2:Inv X ae σ (upd H h'.objs.size (.tup ys)) { s with heap:=h'.push { cls:=.type "tuple",data:=.seq its.toArray } } :=
   I1.laid (t':=s.toks) (fun b o e=>F0 _ e) (F9 _) (show bT X.prog X.w _ _ _ (.tup ys)from⟨hz,its,r',jd.new _ _⟩)
  exact⟨.ref h'.objs.size,_,I2,rfl,q _ (I1.hok.fresh (F9 _))⟩
 ·obtain⟨its,r',pl,hz⟩:=I.tuple hq;exact call_tuple_same pl ⟨.ref p,H,I,rfl,q⟩
def tyV(K:F2) (T:String) (x:V) (H:Hp):Prop:=match x with
 |.str _=>T="str"
 |.int _=>T="int"
 | .ref p => (T = "list" ∧ ∃ xs,SqL K H p xs) ∨ (T = "tuple" ∧ ∃ o,K.lookup p = some o ∧ o.cls = .type "tuple" ∧ o.dict = none) ∨
   (T="dict"/\((∃kvs,H p=some (.dK kvs))∨∃kvs,H p=some (.dT kvs)))∨(T="set"/\∃S n,H p=some (.set S n))
 |_=>False
theorem vL{ae:List (J7×Obj)}{σ:St}{H:Hp}{s:F4}{T:String}{x:V}{v:F3}(I:Inv X ae σ H s) (r:aN x v) (ty:tyV X.K T x H) :
  s.TypeIs v T/\∀a,v=.ref a->∃ob,s.heap.get? a=some ob/\ob.dict=none:=by
 cases x with
 |str z =>
  obtain⟨t,rfl⟩:=r;cases(show T="str" from ty);exact⟨typeIs_str s z t,fun _ e=>nomatch e⟩
 |int i =>
  obtain⟨t,rfl⟩:=r;cases(show T="int" from ty);exact⟨am7 s i t,fun _ e=>nomatch e⟩
 |ref p =>
  cases r;rcases ty with⟨rfl,xs,hq⟩|⟨rfl,o,hk,hc,hd⟩|⟨rfl,hk⟩|⟨rfl,S,n,hk⟩
  ·obtain⟨its,_,pl,_⟩:=I.list hq;refine⟨pl.isList.typeIs,fun a e=>?_⟩;cases e;obtain⟨o,n,e,c,hd,_⟩:=pl;exact⟨o,e,hd⟩
  ·refine⟨⟨o,I.kIn p o hk,hc⟩,fun a e=>?_⟩;cases e;exact⟨o,I.kIn _ o hk,hd⟩
  ·have z:∃o,s.heap.get? p=some o/\o.ExactDict:=by
    rcases hk with⟨kvs,hk⟩|⟨kvs,hk⟩
    ·obtain⟨_,_,_,_,o,_,_,e,ex,_⟩:=I.hok p _ hk;exact⟨o,e,ex⟩
    ·obtain⟨_,_,_,_,o,_,_,e,ex,_⟩:=I.hok p _ hk;exact⟨o,e,ex⟩
   obtain⟨o,e,ex⟩:=z;refine⟨⟨o,e,ex.1⟩,fun a e2=>?_⟩;cases e2;exact⟨o,e,ex.2.1⟩
  ·obtain⟨o,_,_,_,e,ex,_⟩:=I.hok p _ hk;refine⟨⟨o,e,ex.1⟩,fun a e2=>?_⟩;cases e2;exact⟨o,e,ex.2.1⟩
 |_=>exact aa9 ty
def EH(K:F2) (T:String) (r:V->List V->Hp->VK->Prop) (to:TE):TE:=fun σ H Q=>to σ H fun x H1=>tyV K T x H1/\r x [] H1 Q
def tBM(K:F2) (T:String) (r:V->List V->Hp->VK->Prop) (to:TE) (t:TA):TE:=fun σ H Q=>to σ H fun x H1=>tyV K T x H1/\t σ H1 fun xs H2=>r x xs H2 Q
variable{o e:M9}{es:List M9}{to:TE}{t:TA}{name:Str}{dX bJ:Pos}{T id:String}{r:V->List V->Hp->VK->Prop}
theorem B3(pa:PlainAttrs T) (slot:Slot T name id) (hty:typeOf (.builtin id)=ad0 (.type "method_descriptor")) (hm:MtR X id r) (ho:PE X o to)
  (fD:Z0 o name X.env (ad3 o X.env)=ad3 o X.env:=by rfl) (fC:(dX.endLine==bJ.line)=true:=by rfl):PE X (.Call (.Attribute o name dX) [] [] bJ) (EH X.K T r to):=by
 intro ae s σ H Q I h;refine wpAny_Call_method0_late fD fC (thn (ho ae s σ H _ I h) fun v s1 ⟨x,H1,I1,r1,ty,q1⟩=>?_);obtain⟨h1,h2⟩:=vL I1 r1 ty;exact⟨T,id,pa,slot,hty,h1,h2,Calls.callWith_builtin rfl (PySem.evalArgs_none (hm ae s1 σ H1 x [] v [] Q I1 r1 .nil q1))⟩
theorem As(pa:PlainAttrs T) (slot:Slot T name id) (hty:typeOf (.builtin id)=ad0 (.type "method_descriptor")) (hm:MtR X id r) (ho:PE X o to) (ha:PA X (e::es) t)
  (fD:Z0 o name X.env (ad3 o X.env)=ad3 o X.env:=by rfl)
  (mn:((V7 bJ (K4 (e :: es) X.env)).all (fun x => !x.1) && (am8 bJ (ah8 [] X.env)).all (fun x => x.1.isSome)
  &&decide ((e::es).length+([]:List ah9).length+(if([]:List ah9).isEmpty then 0 else 1)<30))=true:=by rfl)
  (fC:(dX.endLine==bJ.line)=true:=by rfl) (hs:K4 (e::es) X.env=(false,ad3 e X.env)::K4 es X.env:=by rfl) (fX:(V7 bJ (K4 es X.env)).any (·.1)=false:=by rfl) :
  PE X (.Call (.Attribute o name dX) (e::es) [] bJ) (tBM X.K T r to t):=by
 intro ae s σ H Q I h;refine wpAny_Call_method_late fD mn fC rfl (thn (ho ae s σ H _ I h) fun v s1 ⟨x,H1,I1,r1,ty,q1⟩=>?_);obtain⟨h1,h2⟩:=vL I1 r1 ty;refine⟨T,id,pa,slot,hty,h1,h2,?_⟩;have hA:=ha bJ ae s1 σ H1 _ I1 q1;rw[hs]at hA ⊢;refine Calls.callWith_builtin (by show(false || (V7 bJ (K4 es X.env)).any (·.1))=false;rw[fX]<;>rfl) (Calls.evalArgs_plain ?_);exact thn hA fun us s2 hup=>hup.el fun vs H2 I2 r2 q2=>hm ae s2 σ H2 x vs v us Q I2 r1 r2 q2
end
def MtM(X:Cx) (id:String) (r:V->List V->Hp->VK->Prop):Prop :=
 ∀(ae:List (J7×Obj)) (s:F4) (σ:St) (H:Hp) (x:V) (xs:List V) (v:F3) (us:List F3) (Q:VK),Inv X ae σ H s->aN x v->ay xs us->r x xs H Q ->
  K2 (L5 X.prog X.w) X.A (call (.builtin id) (v::us)) (EP X ae σ Q) X.xe s
theorem ay.un{x:V}{xs:List V}{us:List F3}(h:ay (x::xs) us):∃u vs,us=u::vs/\aN x u/\ay xs vs:=by
 cases h with
 |cons r t=>exact⟨_,_,rfl,r,t⟩
theorem ay.one{x:V}{us:List F3}(h:ay [x] us):∃u,us=[u]/\aN x u:=by
 obtain⟨u,vs,rfl,r,t⟩:=h.un;cases t;exact⟨u,rfl,r⟩
theorem ay.two{x y:V}{us:List F3}(h:ay [x,y] us):∃u v,us=[u,v]/\aN x u/\aN y v:=by
 obtain⟨u,vs,rfl,r,t⟩:=h.un;obtain⟨v,rfl,q⟩:=t.one;exact⟨u,v,rfl,r,q⟩
theorem ay.zero:∀{us:List F3},ay [] us->us=[]
 |_,.nil=>rfl
theorem ay.dropLast{xs:List V}{us:List F3}(h:ay xs us):ay xs.dropLast us.dropLast:=by
 induction h with
 |nil=>exact .nil
 |cons r t ih =>
  cases t with
  |nil=>exact .nil
  |cons q t'=>exact .cons r ih
theorem ay.reverse{xs:List V}{us:List F3}(h:ay xs us):ay xs.reverse us.reverse:=by
 induction h with
 |nil=>exact .nil
 |cons r t ih=>rw[ai0,ai0];exact ay.append ih (.cons r .nil)
theorem ay.rep{xs:List V}{us:List F3}(h:ay xs us):∀k:Nat,ay (I0 k xs).flatten (I0 k us).flatten
 |0=>.nil
 |k+1=>by
  rw[R3,R3,V0,V0];exact ay.append h (ay.rep h k)
theorem rE{α:Type}(l:List α):l.eraseIdx (l.length-1)=l.dropLast:=by
 induction l with
 |nil=>rfl
 |cons a r ih =>
  cases r with
  |nil=>rfl
  |cons b r =>
   have e:(a::b::r).length-1=((b::r).length-1)+1:=by
    have h1:(a::b::r).length=r.length+2:=rfl;have h2:(b::r).length=r.length+1:=rfl
    lia
   rw[e,List.eraseIdx_cons_succ,ih]
   all_goals rfl
theorem jK(its:List F3):∀(k:Nat) (acc:List F3),
  ao8 (fun x1 x2=>x1++x2) acc.toArray (I0 k its.toArray)=(acc++(I0 k its).flatten).toArray
 |0,acc=>by simp
 |k+1,acc=>by
  have e:acc.toArray++its.toArray=(acc++its).toArray:=by simp
  have e2:(acc++its)++(I0 k its).flatten=acc++(I0 (k+1) its).flatten:=by
   rw[R3,V0,U0]
  rw[<-e2,<-jK its k (acc++its),<-e,R3,ae4]
section
variable{X:Cx}{ae:List (J7×Obj)}{σ:St}{H:Hp}{s:F4}{l b:J7}{xs ys zs:List V}
theorem Inv.lset{its its':List F3}{n:Nat}{f:Array F3->Array F3}{t':Nat}(I:Inv X ae σ H s) (hH:H l=some (.lst xs))
  (e:s.heap.get? l=some { cls:=.type "list",data:=.seq its.toArray n }) (hf:f its.toArray=its'.toArray) (hv:ay ys its') (hz:ys.length<=F7) :
  Inv X ae σ (upd H l (.lst ys)) { s with heap:=s.heap.update l (ab4 f),toks:=t' }:=by
 have q:=PySem.IsL.update e f;rw[hf]at q;refine I.write (x:=l) (e:=l) (by rw[hH];exact trivial) (.inl rfl) (fun b' u hb hu=>(ad6 s.heap (ab4 f) (aa7 hb)).trans hu) ⟨_,q⟩ ?_;exact⟨hz,its',_,hv,q⟩
theorem Inv.lnew{its:List F3}{t':Nat}(I:Inv X ae σ H s) (hv:ay ys its) (hz:ys.length<=F7) :
  Inv X ae σ (upd H s.heap.objs.size (.lst ys)) { s with heap:=s.heap.push { cls:=.type "list",data:=.seq its.toArray },toks:=t' } :=
 I.laid (fun _ _ q=>F0 _ q) (F9 _) ⟨hz,its,0,hv,J3 _ rfl⟩
theorem Inv.fresh(I:Inv X ae σ H s):H s.heap.objs.size=none:=I.hok.fresh (F9 _)
theorem Inv.lstM(I:Inv X ae σ H s) (hH:H l=some (.lst xs)):xs.length<=F7/\∃(its:List F3) (n:Nat),ay xs its/\xs.length=its.length/\s.heap.get? l=some { cls:=.type "list",data:=.seq its.toArray n }:=by
 obtain⟨z,its,n,r,e⟩:=I.hok l _ hH;exact⟨z,its,n,r,r.length,e⟩
theorem qm{n:Nat}(h:n<=F7):ab5 n=false:=by
 unfold ab5;exact decide_eq_false (by lia)
end
section
variable{X:Cx}
def tq:V->List V->Hp->VK->Prop:=fun x vs H Q=>∃l xs y,x=.ref l/\vs=[y]/\H l=some (.lst xs)/\xs.length<F7/\Q .non (upd H l (.lst (xs++[y])))
theorem uI:MtM X "list.append" tq:=by
 intro ae s σ H x vs v us Q I rx rv h;obtain⟨l,xs,y,rfl,rfl,hH,hz,q⟩:=h;cases rx;obtain⟨u,rfl,ru⟩:=rv.one;obtain⟨z,its,n,r,hl,e⟩:=I.lstM hH;refine ag5 F.slot_list_append ⟨_,e,rfl⟩ F.entry_list_append (F.args_list_append_2 _ _) (PySem.list_append l its.toArray n u (by rw[J0];lia)) ⟨e,?_⟩;refine⟨.non,_,I.lset (its':=its++[u]) hH e (by simp) (r.append (.cons ru .nil)) ?_,rfl,q⟩;rw[F6,ae5]
 lia
def tf:V->List V->Hp->VK->Prop:=fun x vs H Q=>∃l b xs zs,x=.ref l/\vs=[.ref b]/\H l=some (.lst xs)/\H b=some (.lst zs)/\xs.length+zs.length<=F7/\Q .non (upd H l (.lst (xs++zs)))
theorem t7:MtM X "list.extend" tf:=by
 intro ae s σ H x vs v us Q I rx rv h;obtain⟨l,b,xs,zs,rfl,rfl,hH,hB,hz,q⟩:=h;cases rx;obtain⟨u,rfl,ru⟩:=rv.one;cases ru;obtain⟨z,its,n,r,hl,e⟩:=I.lstM hH;obtain⟨z2,its2,n2,r2,hl2,e2⟩:=I.lstM hB;have hsz:its.toArray.size+its2.toArray.size<=F7:=by rw[J0,J0];lia
 have hlong:¬ (!its.toArray.isEmpty&&ab5 (its.toArray.size+its2.toArray.size))=true:=by
  rw[qm hsz,ad4];exact Q9
 refine ag5 F.slot_list_extend ⟨_,e,rfl⟩ F.entry_list_extend (F.args_list_extend_2 _ _)
  (AutoSeq1.list_extend_list_list_0 l its.toArray n b its2.toArray n2 hlong (by rw[J0];lia) (by lia)) ⟨e,e2,?_⟩
 refine⟨.non,_,I.lset (its':=its++its2) hH e (by simp) (r.append r2) ?_,rfl,q⟩;rw[F6]
 lia
def C9:V->List V->Hp->VK->Prop:=fun x vs H Q=>∃l xs y,x=.ref l/\vs=[]/\H l=some (.lst xs)/\xs[xs.length-1]?=some y/\Q y (upd H l (.lst xs.dropLast))
theorem B5:MtM X "list.pop" C9:=by
 intro ae s σ H x vs v us Q I rx rv h;obtain⟨l,xs,y,rfl,rfl,hH,hy,q⟩:=h;cases rx;have hus:=rv.zero;subst hus;obtain⟨z,its,n,r,hl,e⟩:=I.lstM hH;obtain⟨u,hu,ru⟩:=r.get hy;have hy':its.toArray[its.toArray.size-1]?=some u:=by
  show its.toArray[its.length-1]?=some u;rw[<-Array.getElem?_toList,<-hl];exact hu
 refine ag5 F.slot_list_pop ⟨_,e,rfl⟩ F.entry_list_pop (F.args_list_pop_1 _) (MeetsSeq.list_pop_last l its.toArray n u hy' (by rw[J0];lia)) ⟨e,?_⟩;refine⟨y,_,I.lset (its':=its.dropLast) hH e ?_ r.dropLast ?_,ru,q⟩
 ·show its.toArray.eraseIdxIfInBounds (its.toArray.size-1)=its.dropLast.toArray;rw[J0,List.eraseIdxIfInBounds_toArray,rE]
 ·rw[af7]
  lia
def EE:R2:=fun x y H Q=>∃l b xs zs,x=.ref l/\y=.ref b/\H l=some (.lst xs)/\H b=some (.lst zs)/\xs.length+zs.length<=F7/\∀p,H p=none->Q (.ref p) (upd H p (.lst (xs++zs)))
theorem B8:OpR X (V8 .Add) EE:=by
 intro ae s σ H x y v u Q I rx ry h;obtain⟨l,b,xs,zs,rfl,rfl,hH,hB,hz,q⟩:=h;cases rx;cases ry;obtain⟨z,its,n,r,hl,e⟩:=I.lstM hH;obtain⟨z2,its2,n2,r2,hl2,e2⟩:=I.lstM hB;refine PySem.P.add_list e e2 ?_ (by rw[J0,J0];lia);have ea:its.toArray++its2.toArray=(its++its2).toArray:=by simp
 rw[ea];exact⟨.ref _,_,I.lnew (t':=s.toks) (r.append r2) (by rw[F6];lia),rfl,q _ I.fresh⟩
def EC:R2:=fun x y H Q=>∃l k xs,x=.ref l/\y=.int k/\H l=some (.lst xs)/\-(2 ^ 63)<=k/\k<2 ^ 63/\xs.length*k.toNat<=F7 /\
 ∀p,H p=none->Q (.ref p) (upd H p (.lst (I0 k.toNat xs).flatten))
theorem pj{α:Type}(xs:List α) (k:Nat):(I0 k xs).flatten.length=k*xs.length:=by
 induction k with
 |zero=>simp
 |succ k ih=>rw[R3,V0,F6,ih,Nat.succ_mul,Nat.add_comm]
theorem wA:OpR X (V8 .Mult) EC:=by
 intro ae s σ H x y v u Q I rx ry h;obtain⟨l,k,xs,rfl,rfl,hH,h1,h2,hz,q⟩:=h;cases rx;obtain⟨t,rfl⟩:=ry;obtain⟨z,its,n,r,hl,e⟩:=I.lstM hH;have cS:its.toArray.size*k.toNat<=F7:=by rw[J0,<-hl];exact hz
 have hcap:¬ its.toArray.size*k.toNat > (2 ^ 63-1) / 8:=by
  have:(F7:Nat)<=(2 ^ 63-1) / 8:=by decide
  lia
 have hfit:¬ (!Builtin.List.listFitsIndex k)=true:=by
  rw[fitsIndex_both h1 h2];exact Q9
 have hlong:¬ ab5 (its.toArray.size*k.toNat)=true:=by
  rw[qm cS];exact Q9
 have hnew:ao8 (fun x1 x2=>x1++x2) #[] (I0 (if its.toArray.isEmpty=true then 0 else k.toNat) its.toArray)=(I0 k.toNat its).flatten.toArray:=by
  have f0:∀m:Nat,ao8 (fun x1 x2=>x1++x2) #[] (I0 m its.toArray)=(I0 m its).flatten.toArray:=fun m=>by
   have:=jK its m [];rw[K5]at this;exact this
  rw[f0];cases its with
  |nil=>simp
  |cons a r'=>rw[if_neg (by simp)]
 refine wpAny_binaryOp_repeat_ref (T:="list") (U:="int") (by decide) ⟨_,e,rfl⟩ (fun s'=>am7 s' k t) noFill_list_mul F.fills_int_mul ak3 repeat_list F.slot_int_index.lookup
  (ag5 ak3 (am7 s k t) F.entry_int_rmul (F.args_int_rmul_2 _ _) (int___rmul___int_list k t l its.toArray n)
   ⟨e,rfl,⟨_,e,rfl⟩,ag5 F.slot_list_mul ⟨_,e,rfl⟩ F.entry_list_mul (F.args_list_mul_2 _ _) (AutoListH.list___mul___list_int_3 l its.toArray n k t hfit hcap hlong) ⟨e,?_⟩⟩)
 rw[hnew];exact⟨.ref _,_,I.lnew (t':=s.toks) (r.rep k.toNat) (by rw[pj,Nat.mul_comm];exact hz),rfl,q _ I.fresh⟩
end
end L2
namespace Att
open PySem PySem.W PySem.Calls PyProof.Rows
theorem kJ{P:Params}{h:K7}:∀(ns:List Int) (vs:List F3),WellAll P h vs (ns.map WData.int)->ap7 vs ns:=by
 intro ns
 induction ns with
 |nil =>
  intro vs w;rw[am5]at w;cases w;exact .nil
 |cons n ns ih =>
  intro vs w;rw[J8]at w;cases w with
  |cons a b =>
   cases a;exact .cons _ _ (ih _ b)
theorem t6{l:OpenLaw}{n:Nat}(hn:l.most=some n) {P:Params}{h:K7}{args:List WData}{vals:List F3}
  (hpre:l.row.toRowW.claim.pre args=true) (hwl:WellAll P h vals args) :
  ∃a vs ns,vals=[V4 a]/\args=[WData.list (ns.map WData.int)]/\h.get? a=some { cls:=.type "list",data:=.seq vs.toArray }/\ap7 vs ns/\ns.length<=n:=by
 have hsh:WShape.hasAll [] args [.list .int]=true:=(pre_splitW hpre).1;have hc:l.pre.holds [] { args:=args }=true:=(pre_splitW hpre).2;obtain⟨d,r,rfl,h1,h2⟩:=hasAllW_cons hsh;obtain rfl:=hasAllW_nil h2;obtain⟨xs,rfl,h3⟩:=hasW_list h1;obtain⟨ns,rfl⟩:=items_int h3;have cS:ns.length<=n:=by
  unfold OpenLaw.pre at hc;have h4:(WTm.not (.lt (.lit (.int (n:Int))) (.len (.arg 0)))).holds [] { args:=[.list (ns.map .int)] }=true:=by
   have h4:=(holds_andW hc).1;rw[hn]at h4;exact h4
  have h5:=condW_of h4 (w_not (w_lt w_lit (w_len_list (w_arg rfl))));rw[F1]at h5;refine Nat.le_of_not_lt fun q=>?_;have q':(n:Int)<((ns.length:Nat):Int):=by lia
  first
   |(rw[decide_eq_true q']at h5;exact absurd h5 (by decide))
   |(simp at h5;lia)
 cases hwl with
 |cons w1 w2 =>
  cases w2;cases w1 with
  |list ho hall=>exact⟨_,_,ns,rfl,rfl,ho,kJ ns _ hall,cS⟩
theorem uG(l:OpenLaw) (args:List WData):l.row.toRowW.claim.post args (.bool true) args=true :=
 postW_of (r:=l.row.toRowW) (X:=(true==true))
  (show WShape.has [] (.bool true) .bool=true by first|rfl|decide|simp[WShape.has,WShape.arms,WShape.armsAll])
  (show(WTm.eq .res (.lit (.bool true))).value [] { args:=args,res:=some (.bool true),after:=args }=some (.bool (true==true))from w_eq_bool (w_res rfl) w_lit) rfl
theorem attach_call{l:OpenLaw}{n:Nat}{q:L1}{loose:List Str}{XP:(Str->Option F3)->K7->Prop}{YP:P9->K7->Prop}{d:DefRec}
  (hn:l.most=some n) (hdf:d.params.defaults=[])
  (call:∀ (w:P9) (s₀ s₁:F4) (mg mb:Str → Option F3) (fa:J7) (o:Obj) (pm cd doc:F3) (a:J7) (vs:List F3) (ns:List Int),
   Ground q loose [] XP w s₀ mg mb s₁.heap->YP w s₁.heap ->
   s₁.heap.get? fa=some o->o.data=.func (docDef d.name d.params d.body d.scope pm cd doc)->s₁.heap.CodeRec cd d.name->mg d.name=some (.ref fa) ->
   s₁.heap.get? a=some { cls:=.type "list",data:=.seq vs.toArray }->ap7 vs ns->ns.length<=n->s₁.gens=#[] ->
   ad5 (L5 l.prog w) an4 (.call (.ref fa) ⟨[.ref a],[]⟩) (fun r s'=>r=.ok (.ret (.bool true))/\OldK s₁.heap s'.heap/\s'.os=s₁.os/\al7 s'.gens) s₁) :
  WalkO q loose XP YP l.row.toRowW d [] (fun f vs=>PySem.call f vs):=by
 intro w s₀ s₁ mg mb G Y fa o pm cd doc dV kV ho hd hcd hD hmg hg args vals as hpre hlay hrd hwl hlo;obtain rfl:dV=.none:=Dflts.none hD hdf;obtain rfl:kV=.none:=Dflts.noKw hD;obtain⟨a,vs,ns,rfl,rfl,hobj,hints,cS⟩:=t6 hn hpre hwl;refine enter_call (ag3 (call w s₀ s₁ mg mb fa o pm cd doc a vs ns G Y ho (fd_plain hd) hcd hmg hobj hints cS hg) fun r s' hq=>?_);obtain⟨rfl,h2,h3,h4⟩:=hq;exact⟨.inl ⟨.bool true,.bool true,[],rfl,fun _=>rfl,.bool true,uG l _,fun _=>⟨List.Pairwise.nil,fun _ hm=>(nomatch hm)⟩⟩,h2,h3,h4⟩
section
variable{prog:L1}{w:P9}{A:O0}{E:F3->F4->Prop}{s:F4}{K:Frag}
end
end Att
namespace L2
open PySem PySem.Spec PyProof.Rows
theorem m8:∀{vs:List F3}{ns:List Int},ap7 vs ns->ay (ns.map V.int) vs
 |_,_,.nil=>.nil
 |_,_,.cons n t h=>.cons ⟨t,rfl⟩ (m8 h)
def zy(H:Hp):Prop:=∀b,H b=none∨∃o xs,H b=some (.frz o (.lst xs))
theorem vk{P:L1}{w:P9}{K:F2}{mg mb:Str->Option F3}{CX:CXT}{k:Nat}{fa a:J7}{fd:L8}{x:Str}{sp:Sp}{s₁:F4}{vs:List F3}{ns:List Int}
  (KX:K.In s₁.heap) (hns:s₁.heap.Ns L3 mg) (hb:s₁.heap.Ns builtinsNs mb) (hbb:∀x:Str,x≠"__name__"->mb x=W4 x) (hlim:s₁.heap.NoLimit) (hg:s₁.gens=#[])
  (ha:s₁.heap.get? a=some { cls:=.type "list",data:=.seq vs.toArray }) (hi:ap7 vs ns) (hl:ns.length<=F7) (hr:cU k an4)
  (F:∀base:K7,K.In base->base.Ns L3 mg->bA P w K mg base CX k fa fd [x] sp) (hbind:∀(s:F4) (u:F3),ao6 s fd ⟨[u],[]⟩ [(x,u)])
  (hsp:∀H:Hp,zy H->SqL K H a (ns.map V.int)->sp [.ref a] H (fun v _=>v=.bl true) fun _ _ _=>False)
  (hCX:∀H e s',CX [] H s₁ (fun _ _ _=>False) e s'->False) :
  ad5 (L5 P w) an4 (.call (.ref fa) ⟨[.ref a],[]⟩) (fun r s'=>r=.ok (.ret (.bool true))/\OldK s₁.heap s'.heap/\s'.os=s₁.os/\al7 s'.gens) s₁:=by
 have rv:=m8 hi;have lenV:=hi.length
 -- from an abstract heap in which nothing but the script may be tracked
 have core:∀H:Hp,zy H->SqL K H a (ns.map V.int)->HOk P w H s₁.heap->(∀b,H b≠none->b=a)->(H a≠none->K.lookup a=none) ->
   ad5 (L5 P w) an4 (.call (.ref fa) ⟨[.ref a],[]⟩) (fun r s'=>r=.ok (.ret (.bool true))/\OldK s₁.heap s'.heap/\s'.os=s₁.os/\al7 s'.gens) s₁:=by
  intro H hO hS hok hA hK;have base_of:∀{b:J7} {o:Obj},s₁.heap.get? b=some o->H b=none->(oW s₁.heap H).get? b=some o:=fun e n=>xw e n;have noA:∀{b:J7} {o:Obj} {es:Array DictEntry} {ep:Nat},s₁.heap.get? b=some o->o.data=.dict es ep->H b=none:=fun {b o es ep} e d=>by
   cases q:H b with
   |none=>rfl
   |some u =>
    have e':b=a:=hA b (by rw[q];simp);subst e';rw[ha]at e;cases e;have d':Data.seq vs.toArray _=Data.dict es ep:=d;cases d'
  have nsK:∀{b:J7} {m:Str->Option F3},s₁.heap.Ns b m->(oW s₁.heap H).Ns b m:=fun {b m} ⟨o,es,ep,e,d,r⟩=>⟨o,es,ep,base_of e (noA e d),d,r⟩;have hKb:K.In (oW s₁.heap H):=fun b o e=>base_of (KX b o e) (by
   cases q:H b with
   |none=>rfl
   |some u =>
    have e':b=a:=hA b (by rw[q];simp);subst e';rw[hK (by rw[q];simp)]at e;cases e)
  have hM:Mod K mg (oW s₁.heap H):=⟨hKb,nsK hns,⟨mb,nsK hb,hbb⟩,let⟨mc,h1,h2⟩:=hlim;⟨mc,nsK h1,h2⟩⟩;have e0:rQ P w K mg (oW s₁.heap H) an4 [] s₁ H:=⟨rfl,hM,fun b o e=>zJ e,Nat.le_of_eq (uj _ _),trivial,fun b hb=>absurd (show b∈([]:List J7)from hb) (by simp),hok,.of_eq hg⟩;refine ag3 ((F _ hKb (nsK hns)).run an4 [] s₁ H ⟨[.ref a],[]⟩ [.ref a] [.ref a] _ _ hr e0 (hbind s₁ (.ref a)) (.cons rfl .nil) (hsp H hO hS)) fun r s' h=>?_;cases r with
  |error e=>exact(hCX H e s' h).elim
  |ok fl =>
   cases fl with
   |next=>exact aa9 h
   |brk=>exact aa9 h
   |cont=>exact aa9 h
   |ret u =>
    obtain⟨v,H',os,bare,un,hok',r',q⟩:=h;have q':v=.bl true:=q;subst q';obtain rfl:u=ak1 true:=r';refine⟨rfl,OldK.of_keep fun b o e=>?_,os,bare⟩;cases q:H b with
    |none=>exact un.keep b o e q (by intro z;exact absurd (show b∈([]:List J7)from z) (by simp)) (by simp)
    |some u =>
     rcases hO b with z|⟨ob,xs,z⟩
     ·rw[q]at z;cases z
     ·have z2:=un.frzs b ob _ z;obtain⟨e1,_⟩:=hok b _ z;obtain⟨e2,_⟩:=hok' b _ z2;rw[e]at e1;cases e1;exact e2
 cases hk:K.lookup a with
 |some o =>
  -- the script is one of the module's own objects
  have e:=KX a o hk;rw[ha]at e;cases e;refine core (fun _=>none) (fun _=>.inl rfl) (.inr ⟨_,vs.toArray,_,hk,rfl,rfl,rfl,by rw[J0,lenV];exact hl,by simpa using rv⟩) (fun b u z=>by have z':(none:Option HO)=some u:=z;cases z') (fun b z=>absurd rfl z) fun z=>absurd rfl z
 |none =>
  refine core (fun b=>if b=a then some (.frz { cls:=.type "list",data:=.seq vs.toArray } (.lst (ns.map V.int)))else none) (fun b=>?_) (.inl (.inr ⟨{ cls:=.type "list",data:=.seq vs.toArray },if_pos rfl⟩)) (fun b u z=>?_) (fun b z=>?_) fun _=>hk
  ·by_cases hb:b=a
   ·exact .inr ⟨_,_,if_pos hb⟩
   ·exact .inl (if_neg hb)
  ·by_cases hb:b=a
   ·have z':=(if_pos hb).symm.trans z;cases z';subst hb;exact⟨ha,by rw[F1];exact hl,vs,_,rv,ha⟩
   ·have z':=(if_neg hb).symm.trans z;cases z'
  ·by_cases hb:b=a
   ·exact hb
   ·exact absurd (if_neg hb) z
theorem sV{l:PySem.W.OpenLaw}{n k:Nat}{q:L1}{loose:List Str}{XP:(Str->Option F3)->K7->Prop}{YP:P9->K7->Prop}{d:DefRec}{K:Params->F2}{CX:P9->CXT}{sp:P9->Sp}{x:Str}
  (hn:l.most=some n) (hn2:n<=F7) (hdf:d.params.defaults=[]) (hr:cU k an4)
  (hY:∀(w:P9) (h:K7),YP w h->(K w.params).In h)
  (F:∀ (w:P9) (mg:Str → Option F3) (fa:J7) (h:K7),(K w.params).In h → h.Ns L3 mg → mg d.name = some (.ref fa) →
   ∃fd:L8,(∀(s:F4) (u:F3),ao6 s fd ⟨[u],[]⟩ [(x,u)]) /\
    ∀base:K7,(K w.params).In base->base.Ns L3 mg->bA l.prog w (K w.params) mg base (CX w) k fa fd [x] (sp w))
  (hsp:∀(w:P9) (H:Hp) (a:J7) (ns:List Int),ns.length<=n->zy H->SqL (K w.params) H a (ns.map V.int)->sp w [.ref a] H (fun v _=>v=.bl true) fun _ _ _=>False)
  (hCX:∀(w:P9) (H:Hp) (s:F4) (e:F3) (s':F4),CX w [] H s (fun _ _ _=>False) e s'->False) :
  PySem.W.WalkO q loose XP YP l.row.toRowW d [] (fun f vs=>PySem.call f vs):=by
 refine Att.attach_call hn hdf fun w s₀ s₁ mg mb fa o pm cd doc a vs ns G Y ho hd hcd hmg hobj hints cS hg=>?_;have KX:=hY w _ Y;obtain⟨fd,hb,hF⟩:=F w mg fa _ KX G.T.g hmg;exact vk KX G.T.g G.T.b G.T.builtins G.T.nolimit hg hobj hints (P7 cS hn2) hr hF hb (fun H hO hS=>hsp w H a ns cS hO hS) fun H e s'=>hCX w H s₁ e s'
end L2
/- THE LAST THEOREM (shape; LID,My.* are yours):
   My.Adr: a structure of the addresses that your layer names (classes,functions);My.Txt K t: a structure (Prop) of the equations over K;
   My.txt_mk:{K} {implicit addresses ..} (e1:nsIn K L3 "law"=some (some (.ref f))) (e2:K.lookup f=some ⟨oc,od,.func (fnOf "law" "law" params body scope dV kV doc pm an cdv ct),sl⟩) (e3:codeIn K cdv "law"=true) ..:∃t,My.Txt K t
set_option maxRecDepth 100000 in
set_option maxHeartbeats 0 in
theorem PySem.Challenge.cw_LID_holds : PySem.Challenge.rw_LID.Holds := by
 w_on;o_law;k_head;(case hw=>w_witness2)
 k_fill
 refine L2.sV (l:=PySem.Challenge.rw_LID) (n:=63) (k:=40) (x:="script") (CX:=fun w=>..) (sp:=fun _=>My.sp_law) rfl (by decide) rfl ⟨rfl,by decide,by decide⟩ (fun w h Y=>PySem.W.kIn_of Y) ?F ?S ?C
 case F =>
  intro w mg fa h KX G hmg;have T:∃t,My.Txt (L2.KOf KX) t:=by
   dsimp only[L2.KOf]                          -- K must stand as «<heap const> w.params» for k_is
   refine' My.txt_mk ?e1 ?e2 ?e3 ..
   (case e1=>PySem.W.k_is)                    -- in the order: a name->its address->its object->its parts
   (case e2=>PySem.W.k_is)
   ..
  obtain⟨t,T⟩:=T;have e0:=hmg.symm.trans (Z1 KX G T.law);cases e0                                       -- fa is the law's own address;exact⟨_,fun s u=>.of_eq rfl,fun base kb nb=>My.law_fn T kb nb⟩     -- if «.of_eq rfl» comes too early: refine' ⟨_,?b,fun base kb nb=>My.law_fn T kb nb⟩;exact fun s u=>.of_eq rfl
 case S=>exact fun w H a ns hl hO hS=>..
 case C=>exact ..
(the tactic k_is has no namespace: write k_is) -/
namespace L2
open PySem PySem.Spec PyProof.Rows
def fR(s:ac2):Arguments:=match s with
 |.FunctionDef _ a _ _ _ _ _ _ _ _=>a
 |_=>{ posonlyargs:=[],args:=[],vararg:=none,kwonlyargs:=[],kw_defaults:=[],kwarg:=none,defaults:=[] }
def dG(s:ac2):List ac2:=match s with
 |.FunctionDef _ _ b _ _ _ _ _ _ _=>b
 |_=>[]
def aj(s:ac2):aa1:=match s with
 |.FunctionDef _ _ _ _ _ _ sc _ _ _=>sc
 |_=>{ kind:=.function,names:=[],isGenerator:=false,isCoroutine:=false }
abbrev CX0:CXT:=fun _ _ _ _ _ _=>False
abbrev E0:XK:=fun _ _ _=>False
theorem CW{X:Cx}:qV CX0 X E0:=fun _ _ _ _ _ _ _ h=>h.elim
structure Fun(K:F2) (x qual:Str) (st:ac2) (f:J7) (fd:L8):Prop where
 ex:∃(oc:F3) (od:Option J7) (kV doc pm:F3) (an:Option J7) (cdv ct:F3) (osl:Array (Option F3)),
  fd=ac3 x qual (fR st) (dG st) (aj st) .none kV doc pm an cdv ct/\K.lookup f=some ⟨oc,od,.func fd,osl⟩/\al0 K cdv qual=true
 kp:af8 K (.ref f)=true
section
variable{P:L1}{w:P9}{K:F2}{mg:Str->Option F3}{base:K7}{f:J7}{fd:L8}
theorem Fun.ok{x qual:Str}{st:ac2}{f:J7}{fd:L8}{N ps:List Str}{k:Nat}{sp:Sp}(F:Fun K x qual st f fd) (S:aB N ps (aj st)) (len:∀vs H Q E,sp vs H Q E->vs.length=ps.length)
  (hbody:∀ (cdv:F3) (A:O0) (outer:List Env) (s:F4) (H:Hp) (vs:List V) (Q:VK) (E:XK),cU k (A.deeper (an0 qual (aj st) s.heap.objs.size f cdv)) → sp vs H Q E →
   ∃t,PSs (qa CX0 P w K mg base N qual (aj st) f cdv A outer s H E).nox (dG st) t/\t { nx:=fun _ H'=>Q .non H',rt:=Q } (gk N vs) H):bA P w K mg base CX0 (k+1) f fd ps sp:=by
 obtain⟨oc,od,kV,doc,pm,an,cdv,ct,osl,rfl,lk,hcd⟩:=F.ex;refine Dn lk hcd S len fun A outer s H vs Q E hr hsp=>?_;obtain⟨t,h,q⟩:=hbody cdv A outer s H vs Q E hr hsp;exact⟨t,h.nox,q⟩
theorem Fun.binds{x qual:Str}{st:ac2}{f:J7}{fd:L8}{ps:List Str}(F:Fun K x qual st f fd)
  (h:∀(kV doc pm:F3) (an:Option J7) (cdv ct:F3) (us:List F3),us.length=ps.length->bindArgs (ac3 x qual (fR st) (dG st) (aj st) .none kV doc pm an cdv ct) ⟨us,[]⟩=ad0 (ps.zip us)):fb K fd ps []:=by
 obtain⟨oc,od,kV,doc,pm,an,cdv,ct,osl,rfl,lk,hcd⟩:=F.ex;exact .all (h kV doc pm an cdv ct)
theorem vy{x qual:Str}{st:ac2}{f:J7}{oc:F3}{od an:Option J7}{osl:Array (Option F3)}{kV doc pm cdv ct:F3}(l:K.lookup f=some ⟨oc,od,.func (ac3 x qual (fR st) (dG st) (aj st) .none kV doc pm an cdv ct),osl⟩)
  (c:al0 K cdv qual=true) (k:af8 K (.ref f)=true):Fun K x qual st f (ac3 x qual (fR st) (dG st) (aj st) .none kV doc pm an cdv ct):=⟨⟨oc,od,kV,doc,pm,an,cdv,ct,osl,rfl,l,c⟩,k⟩
end
theorem bj{c A B:Prop} [Decidable c] (h1:c->A) (h2:¬ c->B):if c then A else B:=by
 by_cases h:c
 ·rw[if_pos h];exact h1 h
 ·rw[if_neg h];exact h2 h
section
variable{κ:Type} [DecidableEq κ]
noncomputable def j9(kvs:List (κ×V)) (k:κ):Option V:=(kvs.find? fun kv=>decide (kv.1=k)).map (·.2)
noncomputable def gA(kvs:List (κ×V)) (k:κ) (v:V):List (κ×V) :=
 if(kvs.any fun kv=>decide (kv.1=k))=true then kvs.map (fun kv=>if kv.1=k then(kv.1,v)else kv)else kvs++[(k,v)]
def E9(kvs:List (κ×V)) (k:κ):List (κ×V):=kvs.filter fun kv=>decide (kv.1≠k)
theorem jA{p:κ×V}{r:List (κ×V)}{k:κ}(e:p.1=k):j9 (p::r) k=some p.2:=by simp[j9,X1,e]
theorem jC{p:κ×V}{r:List (κ×V)}{k:κ}(e:¬ p.1=k):j9 (p::r) k=j9 r k:=by simp[j9,X1,e]
theorem qC(k:κ):∀kvs:List (κ×V),(kvs.any fun kv=>decide (kv.1=k))=(j9 kvs k).isSome
 |[]=>rfl
 |p::r=>by
  rw[V2]
  by_cases e:p.1=k
  ·simp only[jA e,decide_eq_true e,Bool.true_or,Option.isSome_some]
  ·rw[jC e,decide_eq_false e,Bool.false_or];exact qC k r
theorem gG(kvs:List (κ×V)) (k:κ) (v:V):(gA kvs k v).length<=kvs.length+1:=by
 unfold gA
 split
 ·rw[F1];lia
 ·rw[F6,P2,ab6];lia
theorem kG.isSome_eq{o:Option V}{u:Option F3}(r:kG o u):o.isSome=u.isSome:=by
 cases o with
 |none=>cases u with
  |none=>rfl
  |some _=>exact(show False from r).elim
 |some _=>cases u with
  |none=>exact(show False from r).elim
  |some _=>rfl
theorem kG.getD{o:Option V}{u:Option F3}{d:V}{d':F3}(r:kG o u) (rd:aN d d'):aN (o.getD d) (u.getD d'):=by
 cases o with
 |none=>cases u with
  |none=>exact rd
  |some _=>exact(show False from r).elim
 |some _=>cases u with
  |none=>exact(show False from r).elim
  |some _=>exact r
theorem KV.val{kvs:List (κ×V)}{vs:List (κ×F3)}(r:KV kvs vs) (k:κ):kG (j9 kvs k) (ao9 vs k):=by
 unfold KV at r
 induction r with
 |nil=>exact al3
 |@cons p q ps qs h t ih =>
  obtain⟨h1,h2⟩:=h
  by_cases e:p.1=k
  ·have e':q.1=k:=h1.symm.trans e;have b:ao9 (q::qs) k=some q.2:=by simp[ao9,X1,e']
   rw[jA e,b];exact h2
  ·have e':¬ q.1=k:=fun z=>e (h1.trans z);have b:ao9 (q::qs) k=ao9 qs k:=by simp[ao9,X1,e']
   rw[jC e,b];exact ih
theorem KV.any{kvs:List (κ×V)}{vs:List (κ×F3)}(r:KV kvs vs) (k:κ):(kvs.any fun kv=>decide (kv.1=k))=vs.any fun kv=>decide (kv.1=k):=by
 unfold KV at r
 induction r with
 |nil=>rfl
 |cons h t ih=>rw[V2,V2,ih,h.1]
theorem KV.repl{kvs:List (κ×V)}{vs:List (κ×F3)}(r:KV kvs vs) (k:κ) {y:V}{u:F3}(ry:aN y u) :
  KV (kvs.map fun kv=>if kv.1=k then(kv.1,y)else kv) (vs.map fun kv=>if kv.1=k then(kv.1,u)else kv):=by
 unfold KV at r ⊢
 induction r with
 |nil=>exact .nil
 |@cons p q ps qs h t ih =>
  rw[J8,J8];refine .cons ?_ ih;obtain⟨h1,h2⟩:=h
  by_cases e:p.1=k
  ·rw[if_pos e,if_pos (h1.symm.trans e)];exact⟨h1,ry⟩
  ·rw[if_neg e,if_neg (fun z=>e (h1.trans z))];exact⟨h1,h2⟩
theorem KV.put{kvs:List (κ×V)}{vs:List (κ×F3)}(r:KV kvs vs) (k:κ) {y:V}{u:F3}(ry:aN y u):KV (gA kvs k y) (stored vs k u):=by
 unfold gA stored;rw[r.any k]
 by_cases e:(vs.any fun kv=>decide (kv.1=k))=true
 ·rw[if_pos e,if_pos e];exact r.repl k ry
 ·rw[if_neg e,if_neg e];exact X7.snoc r ⟨rfl,ry⟩
theorem KV.keys{kvs:List (κ×V)}{vs:List (κ×F3)}(r:KV kvs vs):kvs.map (·.1)=vs.map (·.1):=by
 unfold KV at r
 induction r with
 |nil=>rfl
 |cons h t ih=>rw[J8,J8,ih,h.1]
theorem KV.length{kvs:List (κ×V)}{vs:List (κ×F3)}(r:KV kvs vs):kvs.length=vs.length:=al5 r
end
theorem pk{P:L1}{w:P9}{k:Key}{u:F3}(r:aN (kV k) u):(bX P w).is k u=true:=by
 cases k with
 |inl i=>obtain⟨t,e⟩:=(show ∃t,u=ai5 i t from r);subst e;exact qA P w i t
 |inr x=>obtain⟨t,e⟩:=(show ∃t,u=ap2 x t from r);subst e;exact pq P w x t
theorem nF{P:L1}{w:P9}:∀{ks:List Key}{us:List F3},ay (ks.map kV) us->ItemsAre (bX P w) ks us
 |[],_,r=>by rw[am5]at r;cases r;exact .nil
 |k::ks,_,r=>by
  rw[J8]at r;cases r with
  |cons h t=>exact .cons (pk h) (nF t)
abbrev KT(H:Hp):List (List Key×V)->List (List Key×J7×F3)->Prop:=X7 fun p q=>p.1=q.1/\H q.2.1=some (.tup (p.1.map kV))/\aN p.2 q.2.2
theorem KT.val{H:Hp}{kvs:List (List Key×V)}{xs:List (List Key×J7×F3)}(r:KT H kvs xs) (k:List Key):kG (j9 kvs k) ((atKey xs k).map (·.2)):=by
 induction r with
 |nil=>exact al3
 |@cons p q ps qs h t ih =>
  obtain⟨h1,_,h2⟩:=h
  by_cases e:p.1=k
  ·have e':q.1=k:=h1.symm.trans e;have b:atKey (q::qs) k=some q.2:=by simp[atKey,X1,e']
   rw[jA e,b];exact h2
  ·have e':¬ q.1=k:=fun z=>e (h1.trans z);have b:atKey (q::qs) k=atKey qs k:=by simp[atKey,X1,e']
   rw[jC e,b];exact ih
theorem KT.repl{H:Hp}{kvs:List (List Key×V)}{xs:List (List Key×J7×F3)}(r:KT H kvs xs) (k:List Key) {y:V}{u:F3}(ry:aN y u) :
  KT H (kvs.map fun kv=>if kv.1=k then(kv.1,y)else kv) (xs.map (putAt k u)):=by
 induction r with
 |nil=>exact .nil
 |@cons p q ps qs h t ih =>
  rw[J8,J8];refine .cons ?_ ih;obtain⟨h1,h2,h3⟩:=h;unfold putAt
  by_cases e:p.1=k
  ·rw[if_pos e,if_pos (h1.symm.trans e)];exact⟨h1,h2,ry⟩
  ·rw[if_neg e,if_neg (fun z=>e (h1.trans z))];exact⟨h1,h2,h3⟩
theorem KT.put{H:Hp}{kvs:List (List Key×V)}{xs:List (List Key×J7×F3)}(r:KT H kvs xs) (k:List Key) {b:J7}{y:V}{u:F3}(hb:H b=some (.tup (k.map kV))) (ry:aN y u) :
  KT H (gA kvs k y) (storedH xs k b u):=by
 have e:(kvs.any fun kv=>decide (kv.1=k))=(atKey xs k).isSome:=by
  rw[qC,(r.val k).isSome_eq,Option.isSome_map]
 unfold gA storedH;rw[e]
 by_cases q:(atKey xs k).isSome=true
 ·rw[if_pos q,if_pos q];exact r.repl k ry
 ·rw[if_neg q,if_neg q];exact X7.snoc r ⟨rfl,hb,ry⟩
theorem KT.keeps{H H':Hp}{kvs:List (List Key×V)}{xs:List (List Key×J7×F3)}(r:KT H kvs xs) (ht:∀b ys,H b=some (.tup ys)->H' b=some (.tup ys)):KT H' kvs xs :=
 X7.mapP r fun _ _ z=>⟨z.1,ht _ _ z.2.1,z.2.2⟩
section
variable{P:L1}{w:P9}{H:Hp}{h:K7}{a:J7}
theorem zU{u:HO}(ok:HOk P w H h) (e:Rd H a u):bT P w H h a u:=e.ok ok
theorem xi{kvs:List (Key×V)}(ok:HOk P w H h) (e:Rd H a (.dK kvs)):kvs.length<=F7/\(a==ae9)=false/\∃vs,KV kvs vs/\h.DictOf (bX P w) a vs :=
 show bT P w H h a (.dK kvs)from zU ok e
theorem tK{kvs:List (Key×V)}(ok:HOk P w H h) (e:H a=some (.dK kvs)):kvs.length<=F7/\(a==ae9)=false/\∃vs,KV kvs vs/\h.DictOf (bX P w) a vs:=xi ok (.inl e)
theorem rY{ks:List Key}(ok:HOk P w H h) (e:H a=some (.tup (ks.map kV))):(an9 (bX P w)).is h ks a:=by
 obtain⟨_,its,r,o,h1,h2,⟨n,h3⟩,_⟩:=(show bT P w H h a (.tup (ks.map kV))from ok a _ e);exact⟨o,its.toArray,n,h1,h2,h3,by simpa using nF r⟩
theorem v9{kvs:List (List Key×V)}(ok:HOk P w H h) (e:Rd H a (.dT kvs)):kvs.length<=F7/\(a==ae9)=false /\
  ∃xs,KT H kvs xs/\h.DictOfH (an9 (bX P w)) a xs:=by
 obtain⟨z,y,xs,r,o,es,ep,h1,h2,h3,h4,h5⟩:=(show bT P w H h a (.dT kvs)from zU ok e);refine⟨z,y,xs,r,o,es,ep,h1,h2,h3,h4,fun x hx=>?_,h5⟩;have all:∀{l:List (List Key×V)} {m:List (List Key×J7×F3)},KT H l m->∀x∈m,(an9 (bX P w)).is h x.1 x.2.1:=by
  intro l m q
  induction q with
  |nil=>intro x hx;exact nomatch hx
  |@cons p q ps qs hq t ih =>
   intro x hx;rcases J9.mp hx with e|hx
   ·subst e;exact rY ok (by rw[<-hq.1];exact hq.2.1)
   ·exact ih x hx
 exact all r x hx
theorem Dw{kvs:List (List Key×V)}(ok:HOk P w H h) (e:H a=some (.dT kvs)):kvs.length<=F7/\(a==ae9)=false /\
  ∃xs,KT H kvs xs/\h.DictOfH (an9 (bX P w)) a xs:=v9 ok (.inl e)
end
def uz(H:Hp) (a:J7) (y:V) (r:Option V):Prop :=
 (∃kvs k,Rd H a (.dK kvs)/\y=kV k/\r=j9 kvs k)∨∃kvs k b,Rd H a (.dT kvs)/\y=.ref b/\H b=some (.tup (k.map kV))/\r=j9 kvs k
def v4(H:Hp) (a:J7) (y v:V) (H':Hp):Prop :=
 (∃kvs k,H a=some (.dK kvs)/\y=kV k/\kvs.length<F7/\H'=upd H a (.dK (gA kvs k v))) ∨
 ∃kvs k b,H a=some (.dT kvs)/\y=.ref b/\H b=some (.tup (k.map kV))/\kvs.length<F7/\H'=upd H a (.dT (gA kvs k v))
theorem uz.k{H:Hp}{a:J7}{kvs:List (Key×V)}{k:Key}(e:H a=some (.dK kvs)):uz H a (kV k) (j9 kvs k):=.inl ⟨kvs,k,.inl e,rfl,rfl⟩
theorem v4.k{H:Hp}{a:J7}{kvs:List (Key×V)}{k:Key}{v:V}(e:H a=some (.dK kvs)) (hl:kvs.length<F7):v4 H a (kV k) v (upd H a (.dK (gA kvs k v))):=.inl ⟨kvs,k,e,rfl,hl,rfl⟩
section
variable{X:Cx}{ae:List (J7×Obj)}{σ:St}{H:Hp}{s:F4}{a:J7}{y v:V}{u r:F3}{o:Option V}{A:O0}{E:F3->F4->Prop}
theorem Inv.big(I:Inv X ae σ H s):ae9<s.heap.objs.size:=by
 have h:L3<s.heap.objs.size:=(I.mod.glob.keeps I.bk).lt;exact ai8 (by decide) h
theorem rF{Q:F3->F4->Prop}(hu:A.units+1<ai7) (I:Inv X ae σ H s) (g:uz H a y (some v)) (ry:aN y u) (h:∀w' s',Inv X ae σ H s'->aN v w'->Q w' s') :
  K2 (L5 X.prog X.w) A (al8 (.ref a) u) Q E s:=by
 rcases g with⟨kvs,k,e,ey,l⟩|⟨kvs,k,b,e,ey,eb,l⟩
 ·subst ey;obtain⟨z,hd,vs,rel,dd⟩:=xi I.hok e;obtain⟨w',hw,rw'⟩:=kG.some_of (v:=v) (o:=ao9 vs k) (by rw[l];exact rel.val k);exact wpAny_getItem_of (pk ry) dd.mapOf hw (h w' _ (I.tok _) rw')
 ·subst ey;cases(show u=V4 b from ry);obtain⟨z,hd,xs,rel,dd⟩:=v9 I.hok e;obtain⟨w',hw,rw'⟩:=kG.some_of (v:=v) (o:=(atKey xs k).map (·.2)) (by rw[l];exact rel.val k);obtain⟨p,hp,hp2⟩:=Option.map_eq_some_iff.mp hw;refine wpAny_getItem_heap (tupleKind_room_in1 hu) (rY I.hok eb) dd hp ?_;rw[hp2];exact h w' _ (I.tok _) rw'
theorem lU{h':K7}{t':Nat}{ob:HO}(I:Inv X ae σ H s) (mu:Mut (H a)) (hs:O4 a s.heap h') (he:∃q,h'.get? a=some q) (new:bT X.prog X.w (upd H a ob) h' a ob) :
  Inv X ae σ (upd H a ob) { s with heap:=h',toks:=t' } :=
 I.write (x:=a) (e:=a) mu (.inl rfl) (fun b q hb z=>(hs.2 b hb).trans z) he new
theorem xD{P:L1}{w:P9}{H':Hp}{h':K7}{kvs:List (Key×V)}{vs:List (Key×F3)}(z:kvs.length<=F7) (hd:(a==ae9)=false) (rel:KV kvs vs) (dd:h'.DictOf (bX P w) a vs) :
  bT P w H' h' a (.dK kvs):=⟨z,hd,vs,rel,dd⟩
theorem rD{H':Hp}{Q:Unit->F4->Prop}(hu:A.units+1<ai7) (I:Inv X ae σ H s) (g:v4 H a y v H') (ry:aN y u) (rv:aN v r) (h:∀s',Inv X ae σ H' s'->Q () s') :
  K2 (L5 X.prog X.w) A (setItem (.ref a) u r) Q E s:=by
 rcases g with⟨kvs,k,e,ey,l,eH⟩|⟨kvs,k,b,e,ey,eb,l,eH⟩
 ·subst ey eH;obtain⟨z,hd,vs,rel,dd⟩:=tK I.hok e;have hz:vs.length<=F7:=by rw[<-rel.length];exact z
  have hl:(gA kvs k v).length<=F7:=by have:=gG kvs k v;lia
  refine wpAny_setItem_pairs (hsz:=hz) (pk ry) dd fun h' dd' hs=>h _ ?_;have he:∃q,h'.get? a=some q:=let⟨q,_,_,hq,_⟩:=dd';⟨q,hq⟩
  exact lU I (by rw[e];exact al3) hs he (xD hl hd (rel.put k rv) dd')
 ·subst ey eH;cases(show u=V4 b from ry);obtain⟨z,hd,xs,rel,dd⟩:=Dw I.hok e;have hz:xs.length<=F7:=by rw[<-al5 rel];exact z
  have hl:(gA kvs k v).length<=F7:=by have:=gG kvs k v;lia
  refine wpAny_setItem_heap (hsz:=hz) (tupleKind_room_in1 hu) (rY I.hok eb) dd fun h' dd' hs=>h _ ?_;obtain⟨q,es,ep,hq,h2,h3,h4,_,h5⟩:=dd';refine lU I (by rw[e];exact al3) hs ⟨q,hq⟩ ⟨hl,hd,_,(rel.put k eb rv).keeps fun c ys ec=>?_,q,es,ep,hq,h2,h3,h4,h5⟩;rw[aZ (CL ec e (fun z=>nomatch z))];exact ec
end
def yI(i:M9):Prop:=∀ov iv,an3 i false ov iv=operate [ov,iv] (al8 ov iv)
theorem ze{prog:L1}{w:P9}{A:O0}{E:F3->F4->Prop}{s:F4}{env:Env}{value slice:M9}{pos:Pos}{T id:String}{Q:F3->F4->Prop}
  (hl:typeLookup (.type T) "__getitem__"=ad0 (some (.builtin id))) (hs:yI slice)
  (h:K2 (L5 prog w) A (ad3 value env) (fun o s₁=>K2 (L5 prog w) A (ad3 slice env) (fun i s₂=>s₂.TypeIs o T/\K2 (L5 prog w) A (al8 o i) Q E s₂) E s₁) E s) :
  K2 (L5 prog w) A (ad3 (.Subscript value slice pos) env) Q E s:=by
 refine ao7 (P0 h (fun o s₁ h₁=>P0 h₁ (fun i s₂ h₂=>?_) fun _ _ x=>x) fun _ _ x=>x);obtain⟨hT,h₂⟩:=h₂;unfold subscriptTail;refine o0 ?_;rw[getitemInPython_of_ne hT.not_modules];refine o0 (wpAny_specialOf hT hl ?_);have fin:K2 (L5 prog w) A (an3 slice false o i) (fun r s₃=>K2 (L5 prog w) A (letTemporaryGo value o r >>= fun _=>ad0 r) Q E s₃) E s₂:=by
  rw[hs o i];exact wpAny_operating (P0 h₂ (fun r s₃ h₃=>o0 (wpAny_letTemporaryGo (F5 h₃))) fun _ _ x=>x)
 first
  |exact F5 (o0 fin)
  |exact o0 (F5 (o0 fin))
  |exact o0 fin
theorem p7{X:Cx}{ae:List (J7×Obj)}{σ:St}{H:Hp}{s:F4}{a:J7}{y:V}{o:Option V}(I:Inv X ae σ H s) (g:uz H a y o):s.TypeIs (.ref a) "dict":=by
 rcases g with⟨kvs,k,e,_,_⟩|⟨kvs,k,b,e,_,_,_⟩
 ·obtain⟨_,_,vs,_,dd⟩:=xi I.hok e;exact dd.typeIs
 ·obtain⟨_,_,xs,_,dd⟩:=v9 I.hok e;exact dd.typeIs
def DB(td ty:TE):TE:=fun σ H Q=>td σ H fun x H1=>ty σ H1 fun y H2=>∃a v,x=.ref a/\uz H2 a y (some v)/\Q v H2
def Dc(td ty tv:TE):TS:=fun D σ H=>tv σ H fun v H1=>td σ H1 fun x H2=>ty σ H2 fun y H3=>∃a H4,x=.ref a/\v4 H3 a y v H4/\D.nx σ H4
section
variable{X:Cx}{o i e value:M9}{pos pos' tpos:Pos}{td ty tv:TE}
theorem sQ(hu:X.A.units+1<ai7) (ho:PE X o td) (hi:PE X i ty) (hs:yI i):PE X (.Subscript o i pos) (DB td ty):=by
 intro ae s σ H Q I h;refine ze PySem.F.slot_dict_getitem.lookup hs (thn (ho ae s σ H _ I h) fun u s1 hup=>hup.el fun x H1 I1 rx q1=>thn (hi ae s1 σ H1 _ I1 q1) fun iv s2 ⟨y,H2,I2,ry,a,v,ex,g,q2⟩=>?_);subst ex;obtain rfl:u=V4 a:=rx;exact⟨p7 I2 g,rF hu I2 g ry fun w' s3 I3 rw'=>⟨v,H2,I3,rw',q2⟩⟩
theorem yD(hu:X.A.units+1<ai7) (ho:PE X o td) (hi:PE X i ty) (hv:PE X value tv) (hs:ae0 value (some (.Subscript o i pos')) pos.line X.env=ad0 false) :
  PS X (.Assign [.Subscript o i pos'] value pos) (Dc td ty tv):=by
 intro ae s σ H D I h;refine wpAny_Assign_Subscript (thn (hv ae s σ H _ I h) fun r s1 hup=>hup.el fun v H1 I1 rv q1=>thn (ho ae s1 σ H1 _ I1 q1) fun u s2 hup=>hup.el fun x H2 I2 rx q2=>thn (hi ae s2 σ H2 _ I2 q2) fun iv s3 ⟨y,H3,I3,ry,a,H4,ex,g,q3⟩=>?_) hs;subst ex;obtain rfl:u=V4 a:=rx;exact rD hu I3 g ry rv fun s4 I4=>⟨σ,H4,I4,q3⟩
end
theorem jm{P:L1}{w:P9}{H:Hp}(h:K7) (hb:ae9<h.objs.size):bT P w H (h.push { cls:=.type "dict",data:=.dict #[] }) h.objs.size (.dK []) :=
 ⟨P6 _,beq_eq_false_iff_ne.mpr (aa7 (K0 hb)),[],.nil,K7.DictOf.new h⟩
def BO:TE:=fun _ H Q=>∀p,H p=none->Q (.ref p) (upd H p (.dK []))
section
variable{X:Cx}{pos:Pos}
theorem xW:PE X (.Dict [] [] pos) BO:=fun ae s σ H Q I h =>
 wpAny_Dict_empty ⟨.ref s.heap.objs.size,_,I.laid (a:=s.heap.objs.size) (o:=.dK []) (t':=s.toks) (fun _ _ q=>F0 _ q) (F9 _) (jm s.heap I.big),rfl,h _ (I.hok.fresh (F9 _))⟩
end
structure M1(X:Cx) (o:M9) (m:Str) (dX:Pos) (e:M9) (bJ:Pos):Prop where
 base:Z0 o m X.env (ad3 o X.env)=ad3 o X.env
 few:((V7 bJ (K4 [e] X.env)).all (fun x=>!x.1)&&(am8 bJ (ah8 [] X.env)).all (fun x=>x.1.isSome)
 &&decide (([e]:List M9).length+([]:List ah9).length+(if([]:List ah9).isEmpty then 0 else 1)<30))=true
 line:(dX.endLine==bJ.line)=true
 trees:V7 bJ (K4 [e] X.env)=[(false,ad3 e X.env)]
structure M2(X:Cx) (o:M9) (m:Str) (dX:Pos) (e f:M9) (bJ:Pos):Prop where
 base:Z0 o m X.env (ad3 o X.env)=ad3 o X.env
 few:((V7 bJ (K4 [e,f] X.env)).all (fun x=>!x.1)&&(am8 bJ (ah8 [] X.env)).all (fun x=>x.1.isSome)
 &&decide (([e,f]:List M9).length+([]:List ah9).length+(if([]:List ah9).isEmpty then 0 else 1)<30))=true
 line:(dX.endLine==bJ.line)=true
 trees:V7 bJ (K4 [e,f] X.env)=[(false,ad3 e X.env),(false,ad3 f X.env)]
noncomputable def ax(X:Cx) (scope:aa1) (cl:List (Str×J7)) (N:List Str) (C:J7) (s:F4) (H:Hp) (ex:List J7):Cx where
 prog:=X.prog
 w:=X.w
 K:=X.K
 mg:=X.mg
 base:=X.base
 A:=X.A
 N:=N
 s₀:=s
 H₀:=H
 env:=am0 scope cl C X.env
 outer:=X.stack
 stack:=X.stack
 ex:=ex
 calm:=X.calm
 fn:=fun _=>false
 pn:=[]
 xe:=fun _ _=>False
noncomputable def bS:List Bool->St->St
 |true::ms,v::σ=>v::bS ms σ
 |false::ms,_::σ=>none::bS ms σ
 |[],_::σ=>none::bS [] σ
 |_,[]=>[]
theorem bY:∀(ms:List Bool) (σ:St),(bS ms σ).length=σ.length
 |true::ms,v::σ=>by simp[bS,bY ms σ]
 |false::ms,_::σ=>by simp[bS,bY ms σ]
 |[],_::σ=>by simp[bS,bY [] σ]
 |[],[]=>by simp[bS]
 |true::_,[]=>by simp[bS]
 |false::_,[]=>by simp[bS]
theorem gZ:∀{ms:List Bool}{σ:St}{i:Nat}{v:V},(bS ms σ)[i]?=some (some v)->ms[i]?=some true/\σ[i]?=some (some v)
 |true::ms,v::σ,0,x,h=>by simpa[bS]using h
 |true::ms,v::σ,i+1,x,h=>by
  have:=gZ (ms:=ms) (σ:=σ) (i:=i) (v:=x) (by simpa[bS]using h);simpa using this
 |false::ms,_::σ,0,x,h=>by simp[bS]at h
 |false::ms,_::σ,i+1,x,h=>by
  have:=gZ (ms:=ms) (σ:=σ) (i:=i) (v:=x) (by simpa[bS]using h);simpa using this
 |[],_::σ,0,x,h=>by simp[bS]at h
 |[],_::σ,i+1,x,h=>by
  have:=gZ (ms:=[]) (σ:=σ) (i:=i) (v:=x) (by simpa[bS]using h);simpa using this
 |[],[],_,_,h=>by simp[bS]at h
 |true::_,[],_,_,h=>by simp[bS]at h
 |false::_,[],_,_,h=>by simp[bS]at h
def fv(ms:List Bool) (k:Nat) (σ:St):St:=bS ms σ++I0 k none
theorem ut{ms:List Bool}{k:Nat}{σ:St}{i:Nat}{v:V}(h:(fv ms k σ)[i]?=some (some v)):i<σ.length/\ms[i]?=some true/\σ[i]?=some (some v):=by
 unfold fv at h
 by_cases hi:i<(bS ms σ).length
 ·rw[O1 hi]at h;exact⟨by rwa [bY]at hi,gZ h⟩
 ·rw[U8 (by lia),U1]at h
  split at h<;>cases h
structure cK(X:Cx) (scope:aa1) (cl:List (Str×J7)) (ms:List Bool) (ai:List Str):Prop where
 kind:scope.kind=.function
 ncell:∀y∈scope.names,y.2≠.cell
 names:∀y∈scope.names,y.2=.local->scope.names.lookup y.1=some .local
 clos:closureFor scope X.env=ad0 cl
 sub:∀x c,cl.lookup x=some c->X.env.cells.lookup x=some c
 has:∀x,scope.names.lookup x=some .free->∃c,cl.lookup x=some c
 fr:∀x,scope.names.lookup x=some .free->X.env.scope.names.lookup x=some .cell∨X.env.scope.names.lookup x=some .free
 mask:∀(i:Nat) (x:Str),ms[i]?=some true->X.N[i]?=some x->scope.names.lookup x=some .free
 mlen:ms.length<=X.N.length
theorem iY{env:Env}:∀{names:List (Str×T3)}{x:Str}{k:T3},
  (names.map fun(n,k)=>if(k==V3&&env.scope.kind==.function&&env.kindOf n==some .cell)then(n,ah3)else(n,k)).lookup x=some k->(∀y∈names,y.2≠.cell)->k=.cell∨k=.free->names.lookup x=some .free
 |[],_,_,h,_,_=>by simp at h
 |(n,k0)::r,x,k,h,hc,hk=>by
  have ih:=@iY env r x k;have h:an5 x ((if(k0==V3&&env.scope.kind==.function&&env.kindOf n==some .cell)=true then(n,ah3)else(n,k0))::_)=some k:=h;cases hx:x==n with
  |true =>
   by_cases hq:(k0==V3&&env.scope.kind==.function&&env.kindOf n==some .cell)=true
   ·have:k0=.free:=by
     simp at hq;exact hq.1.1
    subst this;simp[N8,hx]
   ·rw[if_neg hq]at h;simp only[N8,hx]at h;cases h;rcases hk with rfl|rfl
    ·exact absurd rfl (hc (n,.cell) Q8)
    ·simp[N8,hx]
  |false =>
   by_cases hq:(k0==V3&&env.scope.kind==.function&&env.kindOf n==some .cell)=true
   ·rw[if_pos hq]at h;simp only[N8,hx]at h ⊢;exact ih h (fun y hy=>hc y (O7 _ hy)) hk
   ·rw[if_neg hq]at h;simp only[N8,hx]at h ⊢;exact ih h (fun y hy=>hc y (O7 _ hy)) hk
theorem jq{env:Env}:∀{names:List (Str×T3)}{x:Str},names.lookup x=some .free ->
  (names.map fun(n,k)=>if(k==V3&&env.scope.kind==.function&&env.kindOf n==some .cell)then(n,ah3)else(n,k)).lookup x=some .cell ∨
  (names.map fun(n,k)=>if(k==V3&&env.scope.kind==.function&&env.kindOf n==some .cell)then(n,ah3)else(n,k)).lookup x=some .free
 |[],_,h=>by simp at h
 |(n,k0)::r,x,h=>by
  have ih:=@jq env r x;show an5 x ((if(k0==V3&&env.scope.kind==.function&&env.kindOf n==some .cell)=true then(n,ah3)else(n,k0))::_)=_∨an5 x ((if(k0==V3&&env.scope.kind==.function&&env.kindOf n==some .cell)=true then(n,ah3)else(n,k0))::_)=_;cases hx:x==n with
  |true =>
   simp only[N8,hx]at h;cases h
   split
   ·left;simp[N8,hx]
   ·right;simp[N8,hx]
  |false =>
   simp only[N8,hx]at h
   split<;>(simp only[N8,hx];exact ih h)
section
variable{X:Cx}{ae:List (J7×Obj)}{σ:St}{H H2:Hp}{s s2:F4}{scope:aa1}{cl:List (Str×J7)}{ms:List Bool}{ai:List Str}
theorem qZ(I:Inv X ae σ H s) (S:cK X scope cl ms ai) {fp:List J7}(hfp:∀b∈fp,eh X ae H b) (hlt:∀b∈fp,b<s.heap.objs.size) {C:J7}(hC:s.heap.objs.size<=C) :
  (ax X scope cl (X.N++ai) C s H fp).Ok where
 mod:=I.ok.mod
 kind:=S.kind
 glob:=I.ok.glob
 blt:=I.ok.blt
 above:=hC
 inj:=fun x y c h1 h2=>I.ok.inj x y c (S.sub x c h1) (S.sub y c h2)
 has:=fun x hx=>S.has x (iY (env:=X.env) (k:=if(ax X scope cl (X.N++ai) C s H fp).env.kindOf x=some .cell then .cell else .free) (by
  rcases hx with hx|hx
  ·rw[if_pos hx];exact hx
  ·rw[if_neg (by rw[hx];decide)];exact hx) S.ncell (by split<;>simp))
 cab:=fun x c h=>by cases h
 hd:=I.ok.hd
 frames:=I.ok.frames
 stk:=.inl rfl
 exf:=fun b hb=>⟨K0 (J5 (hlt b hb) hC),fun x c e=>(hfp b hb).2.2.2.2.1 x c (S.sub x c e)⟩
 bs:=I.bs
 bsz:=P7 I.ok.bsz I.sz
 noex:=fun b o e hb=>by
  rcases(hfp b hb).2.2.2.1 with z|z
  ·exact I.ok.noex b o e z
  ·exact absurd (J5 (J4 e) (P7 I.ok.bsz z)) (X8 _)
 exfs:=fun b hb z=>by
  rcases J9.mp (I.stkSub b z)with e|e
  ·exact(hfp b hb).2.1 e
  ·exact(hfp b hb).2.2.1 e
 funs:=I.stack
 frf:=I.stkFree
theorem tL(I:Inv X ae σ H s) (S:cK X scope cl ms ai) {fp:List J7}(hfp:∀b∈fp,eh X ae H b) (hlt:∀b∈fp,b<s.heap.objs.size) {C:J7}(hC:s.heap.objs.size<=C)
  (os:s2.os=s.os) (bare:al7 s2.gens) (keep:∀b o,s.heap.get? b=some o->s2.heap.get? b=some o) {m:Str->Option F3} (hn:s2.heap.Ns C m) :
  Inv (ax X scope cl (X.N++ai) C s H fp) [] (fv ms ai.length σ) H s2 where
 ok:=qZ I S hfp hlt hC
 os:=os
 bare:=bare
 base:=Un.kept keep
 loc:=⟨m,hn,fun i x v h1 h2 h3=>by
  obtain⟨hi,hm,hv⟩:=ut h2;have hiN:i<X.N.length:=by rw[<-I.len];exact hi
  have hx:X.N[i]?=some x:=by
   have h1':(X.N++ai)[i]?=some x:=h1
   rwa [O1 hiN]at h1'
  have hf:=S.mask i x hm hx;obtain⟨m0,hn0,hl⟩:=I.loc;obtain⟨u,r,l⟩:=hl i x v hx hv (by rcases S.fr x hf with z|z<;>simp[Vis,z]);refine⟨u,r,.inr ⟨?_,?_⟩⟩
  ·exact jq (env:=X.env) hf
  ·obtain⟨c,hc⟩:=S.has x hf;have hc':=S.sub x c hc;rcases l with⟨k,_⟩|⟨_,c',e,z⟩
   ·rcases S.fr x hf with z|z<;>(have k':X.env.scope.names.lookup x=some .local:=k;rw[z]at k';cases k')
   ·rw[hc']at e;cases e;obtain⟨o,ho,hd⟩:=z;exact⟨c,hc,o,keep _ _ ho,hd⟩⟩
 cell:=fun x c e=>by
  obtain⟨v,o,ho,hd⟩:=I.cell x c (S.sub x c e);exact⟨v,o,keep _ _ ho,hd⟩
 free:=I.hok.fresh hC
 freeC:=fun x c e=>I.freeC x c (S.sub x c e)
 pin:=fun p hp=>absurd (show p∈([]:List (J7×Obj))from hp) (by simp)
 hok:=I.hok.kept keep
 len:=by
  unfold fv;rw[F6,bY,V6,I.len];show _=(X.N++ai).length;rw[F6]
end
def PIf(X:Cx) (ifs:List M9) (t:TT):Prop :=
 ∀(ae:List (J7×Obj)) (s:F4) (σ:St) (H:Hp) (Q:Bool->Hp->Prop),Inv X ae σ H s->t σ H Q ->
  K2 (L5 X.prog X.w) X.A (forIn ifs true fun c r=>if r=true then do let ok <-isTrue c X.env (ad3 c X.env);ad0 (U3 ok)else ad0 (U3 r)) (TP X ae σ Q) X.xe s
def EY:TT:=fun _ H Q=>Q true H
theorem y0{X:Cx}:PIf X [] EY:=fun _ _ _ H _ I h=>wpAny_tests_nil ⟨H,I,h⟩
theorem yN{X:Cx}{c:M9}{t:TT}(h:PT X c t):PIf X [c] t:=fun ae s σ H Q I q=>wpAny_tests_one (h ae s σ H Q I q)
abbrev fw(its:List F3) (n:Nat):Obj:={ cls:=.type "list",data:=.seq its.toArray n }
theorem thF{α:Type}{t:Sem α}{Q Q':α->F4->Prop}{M:Model}{A:O0}{E:F3->F4->Prop}{s:F4}(hE:E=fun _ _=>False) (h:K2 M A t Q E s) (hQ:∀a s,Q a s->Q' a s):K2 M A t Q' (fun _ _=>False) s:=P0 h hQ fun e s x=>by rw[hE]at x;exact x
abbrev lcE(el:M9) (gs:List aj8) (sc:aa1) (ps:Pos):M9:=.ListComp el gs sc ps
section
variable{prog:L1}{w:P9}{A:O0}{R:ao3->F4->Prop}{s:F4}{el tg elt i:M9}{fs:List M9}{k:Nat}{p:Pos}{it acc:F3}{env:Env}{gs:List aj8}{sc:aa1}{ps:Pos}
abbrev AWt:=(F4->Prop)->F4->Prop
def sE(prog:L1) (w:P9) (A:O0) (elt:M9) (acc:F3) (env:Env):AWt:=fun Ok s=>K2 (L5 prog w) A (ad3 elt env) (fun x s₄=>K2 (L5 prog w) A (call (.builtin "list.append") [acc,x]) (fun _ s₅=>Ok s₅) (fun _ _=>False) s₄) (fun _ _=>False) s
def vW(prog:L1) (w:P9) (A:O0) (ce:M9) (k:Nat) (i:M9) (acc:F3) (env:Env):AWt:=fun Ok s=>K2 (L5 prog w) A (ad3 i env) (fun x s₄=>K2 (L5 prog w) A (am3 x) (fun it2 s₅ =>
 ad5 (L5 prog w) A (.compStart ce k it2 acc env) (fun r s₆=>(∃f,r=.ok f)/\Ok s₆) s₅) (fun _ _=>False) s₄) (fun _ _=>False) s
def zw(ce:M9) (k:Nat) (p:Pos) (tg:M9) (fs:List M9) (bd:F3->F3->Env->Sem Fin):Prop:=∀it acc env,compTurn ce k it acc env=(do
  an2 p
  let r <-ag2 it
  match r with
   |none=>ad0 (Fin.done Flow.next)
   |some v=>do
    ae1 tg it v
    ag8 tg env v
    let ok <-forIn fs true fun c r=>if r=true then do let ok <-PySem.isTrue c env (ad3 c env);ad0 (U3 ok)else ad0 (U3 r)
    if ok=true then bd it acc env else again (af1 ce k it acc env))
def zr(prog:L1) (w:P9) (A:O0) (ce:M9) (k:Nat) (bd:F3->F3->Env->Sem Fin) (it acc:F3) (env:Env) (AW:AWt):Prop :=
 ∀Ok s (R:ao3->F4->Prop) (E:F3->F4->Prop),AW Ok s->K2 (L5 prog w) A (bd it acc env) (fun fin s'=>match fin with|.done f=>R (.ok f) s'|.again c'=>c'=af1 ce k it acc env/\Ok s') E s
theorem mD{bd:F3->F3->Env->Sem Fin}{AW:AWt}(hT:zw (lcE el gs sc ps) k p tg fs bd) (hq:(af1 (lcE el gs sc ps) k it acc env).quiet=true:=by rfl) (hb:zr prog w A (lcE el gs sc ps) k bd it acc env AW) (I:Nat->F4->Prop)
  (turn:∀ n s,I n s → K2 (L5 prog w) A (ag2 it) (fun r s₁ => match r with
   |none=>R (.ok .next) s₁
   | some v => K2 (L5 prog w) A (ae1 tg it v) (fun _ s₁ => K2 (L5 prog w) A (ag8 tg env v) (fun _ s₂ =>
     K2 (L5 prog w) A (forIn fs true fun c r=>if r=true then do let ok <-isTrue c env (ad3 c env);ad0 (U3 ok)else ad0 (U3 r)) (fun ok s₃ =>
      if ok=true then AW (fun s₅=>∃m,m<n/\I m s₅) s₃
      else ∃m,m<n/\I m s₃) (fun _ _=>False) s₂) (fun _ _=>False) s₁) (fun _ _=>False) s₁) (fun _ _=>False) s)
  (n:Nat) (h:I n s) :
  ad5 (L5 prog w) A (.compLoop (lcE el gs sc ps) k it acc env) R s:=by
 refine codeAny_loop hq I (fun n s hI=>?_) n h;show K2 _ A ((compTurn (lcE el gs sc ps) k it acc env).onRaise (fun x=>do noteFrame x env;theTreesLotGoes x)) _ _ s;refine wpAny_noted ?_;rw[hT];refine o0 (X9 (o0 (P0 (turn n s hI) (fun r s₁ h₁=>?_) fun _ _ h'=>h'.elim)));cases r with
 |none=>exact F5 h₁
 |some v =>
  refine o0 (P0 h₁ (fun _ s1 h₁=>?_) fun _ _ h'=>h'.elim);refine o0 (P0 h₁ (fun _ s₂ h₂=>o0 (P0 h₂ (fun ok s₃ h₃=>?_) fun _ _ h'=>h'.elim)) fun _ _ h'=>h'.elim);cases ok with
  |false=>exact F5 ⟨rfl,h₃⟩
  |true=>exact hb _ _ _ _ h₃
noncomputable def Au(ce:M9) (k:Nat) (elt:M9):F3->F3->Env->Sem Fin:=fun it acc env=>bind (bind (ad3 elt env) fun x=>bind (call (F3.builtin "list.append") [acc,x]) fun _=>ad0 ()) fun(_:Unit)=>again (af1 ce k it acc env)
noncomputable def Av(ce:M9) (k:Nat) (i:M9):F3->F3->Env->Sem Fin:=fun it acc env=>do
 let x <-ad3 i env
 an2 i.pos
 let x <-N3 i env x
 let it2 <-ak9 [x] (am3 x)
 let _ <-runOwn (Code.compStart ce (k+1) it2 acc env) env
 again (af1 ce k it acc env)
theorem zk:zr prog w A (lcE el gs sc ps) k (Au (lcE el gs sc ps) k elt) it acc env (sE prog w A elt acc env):=fun Ok s R E h =>
 o0 (o0 (P0 h (fun x s₄ h₄=>o0 (P0 h₄ (fun _ s₅ h₅=>F5 (F5 ⟨rfl,h₅⟩)) fun _ _ h'=>h'.elim)) fun _ _ h'=>h'.elim))
theorem zj(hs:∀x,N3 i env x=ad0 x):zr prog w A (lcE el gs sc ps) k (Av (lcE el gs sc ps) k i) it acc env (vW prog w A (lcE el gs sc ps) (k+1) i acc env):=fun Ok s R E h=>by
 refine o0 (P0 h (fun x s₄ h₄=>o0 (X9 ?_)) fun _ _ h'=>h'.elim);rw[hs x];refine o0 (F5 (o0 (R5 (P0 h₄ (fun it2 s₅ h₅=>?_) fun _ _ h'=>h'.elim))));refine o0 (wpAny_runOwn (ag3 h₅ fun r s₆ h₆=>?_));obtain⟨⟨f,rfl⟩,h₆⟩:=h₆;exact F5 ⟨rfl,h₆⟩
def xY(ce:M9) (k:Nat) (p:Pos):Prop:=∀it acc env,compStart ce k it acc env=(do
  let r <-ask
  if r.params.followText "comprehension-iter-twice"=true then again (af1 ce k it acc env)
   else do
    rule "comprehension.iter-twice"
    an2 p
    let i <-am3 it
    again (af1 ce k i acc env))
theorem me(hS:xY (lcE el gs sc ps) k p) (h:ad5 (L5 prog w) A (.compLoop (lcE el gs sc ps) k it acc env) R s)
  (h2:K2 (L5 prog w) A (am3 it) (fun it' s'=>ad5 (L5 prog w) A (.compLoop (lcE el gs sc ps) k it' acc env) R s') (fun _ _=>False) s) :
  ad5 (L5 prog w) A (.compStart (lcE el gs sc ps) k it acc env) R s:=by
 refine codeAny_of_tree ?_;show K2 _ A ((compStart (lcE el gs sc ps) k it acc env).onRaise (fun x=>do noteFrame x env;an2 theWindowsPlace)) _ _ s;refine aj9 ?_;rw[hS];refine o0 (aj1 ?_);dsimp only
 split
 ·exact F5 ⟨rfl,h⟩
 ·exact o0 (ab0 (o0 (X9 (o0 (P0 h2 (fun it' s' h'=>F5 ⟨rfl,h'⟩) fun _ _ h'=>h'.elim)))))
end
abbrev BK:=List V->St->Hp->(List V->St->Hp->Prop)->Prop
def jU(J:It) (g:TG) (tc:TT) (B:BK) (W:Nat->Nat->List V->St->Hp->Prop) (Z:List V->St->Hp->Prop):Prop :=
 ∀i m ys σ H,W i m ys σ H->ys.length<=F7/\((J.stop i H/\Z ys σ H) ∨
  (J.go i H/\∀x H',J.yld i H x H'->g x σ H' fun σ2 H2=>tc σ2 H2 fun b H3=>if b=true then B ys σ2 H3 (fun ys' σ' H'=>∃m',m'<m/\W (i+1) m' ys' σ' H')else ∃m',m'<m/\W (i+1) m' ys σ2 H3))
def ku(te:TE):BK:=fun ys σ H Z=>te σ H fun y H'=>Z (ys++[y]) σ H'
def qh(wi:TI) (g:TG) (tc:TT) (B:BK):BK:=fun ys σ H Z=>wi σ H fun J H'=>∃W:Nat->Nat->List V->St->Hp->Prop,(∃m,W 0 m ys σ H')/\jU J g tc B W Z
section
variable{Y:Cx}{D:J7}{el tg elt i1:M9}{fs:List M9}{g:TG}{tc:TT}{te:TE}{wi:TI}{B:BK}{k:Nat}{p:Pos}{gs:List aj8}{sc:aa1}{ps:Pos}
def Ap(Y:Cx) (D:J7) (AW:AWt) (B:BK):Prop:=∀(P:List (J7×Obj)) (its:List F3) (nn:Nat) (ys:List V) (σ:St) (H:Hp) (s:F4) (Z:List V->St->Hp->Prop),Inv Y ([(D,fw its nn)]++P) σ H s->ay ys its->ys.length<=F7->(∀p∈P,p.1≠D)->B ys σ H Z ->
 AW (fun s'=>∃ys' its' n' σ' H',Inv Y ([(D,fw its' n')]++P) σ' H' s'/\ay ys' its'/\Z ys' σ' H') s
structure mr(Y:Cx) (D:J7):Prop where
 pn:Y.pn=[]
 calm:Y.calm=true
 xe:Y.xe=fun _ _=>False
 ex:D∈Y.ex∨Y.s₀.heap.objs.size<=D
 cell:∀x c,Y.env.cells.lookup x=some c->c≠D
theorem AWt.mono_leaf{prog:L1}{w:P9}{A:O0}{acc:F3}{env:Env}{Ok Ok':F4->Prop}{s:F4}(h:sE prog w A elt acc env Ok s) (k:∀s,Ok s->Ok' s):sE prog w A elt acc env Ok' s :=
 P0 h (fun _ _ h1=>P0 h1 (fun _ _ h2=>k _ h2) fun _ _ x=>x) fun _ _ x=>x
theorem xU(c:mr Y D) (he:PE Y elt te):Ap Y D (sE Y.prog Y.w Y.A elt (.ref D) Y.env) (ku te):=by
 intro P its nn ys σ H s Z I rv hz hPD q;refine thF c.xe (he _ s σ H _ I q) fun v s9 hup=>hup.el fun y H9 I9 r9 q9=>?_;have pacc:=I9.pin (D,fw its nn) (K8 _ (T6 _ Q8));have hzi:its.toArray.size<=F7:=by rw[J0,<-rv.length];exact hz
 refine PySem.wpAny_list_append_plain (hsz:=hzi) ⟨nn,pacc.1⟩ fun h' hl' hs'=>?_;obtain⟨n',hl'⟩:=hl';have I10:Inv Y [] σ H9 { s9 with heap:=h' } :=
  Inv.turned (t':=s9.toks) (it:=D) (I9.pins_of fun p hp=>absurd hp (by simp)) (fun b o hb e=>(hs'.2 b hb).trans e) pacc.2.1 pacc.2.2.1 c.ex c.cell (fun p hp=>absurd (show p∈([]:List (J7×Obj))from by rw[c.pn]at hp;exact hp) (by simp))
 refine⟨ys++[y],its++[v],n',σ,H9,I10.pins_of fun p hp=>?_,rv.append (.cons r9 .nil),q9⟩;rcases O3.mp hp with z|z
 ·have e:p=(D,fw (its++[v]) n'):=N5.mp z;subst e;refine⟨?_,pacc.2.1,pacc.2.2.1,pacc.2.2.2.1,fun v z=>by cases z⟩;rw[hl'];simp[fw]
 ·obtain⟨b1,b2,b3,b4,b5⟩:=I9.pin p (K8 _ (K8 _ z));exact⟨(hs'.2 _ (hPD p z)).trans b1,b2,b3,b4,b5⟩
structure Lv(Y:Cx) (D:J7) (ce:M9) (k:Nat) (p:Pos) (tg:M9) (fs:List M9) (B:BK):Prop where
 ex:∃bd AW,zw ce k p tg fs bd/\(∀it,zr Y.prog Y.w Y.A ce k bd it (.ref D) Y.env AW)/\Ap Y D AW B/\∀{Ok Ok':F4->Prop} {s:F4},AW Ok s->(∀s,Ok s->Ok' s)->AW Ok' s
theorem oX(c:mr Y D) (he:PE Y elt te) (hT:zw (lcE el gs sc ps) k p tg fs (Au (lcE el gs sc ps) k elt)):Lv Y D (lcE el gs sc ps) k p tg fs (ku te):=⟨_,_,hT,fun _=>zk,xU c he,AWt.mono_leaf⟩
theorem nj(c:mr Y D) (L:Lv Y D (lcE el gs sc ps) k p tg fs B) {it2:J7}
  (hg:PG Y tg g) (hif:PIf Y fs tc) {P:List (J7×Obj)} (hPD:∀p∈P,p.1≠D)
  {its0:List F3} {nn0:Nat} {ys0:List V} {σ:St} {H:Hp} {s:F4} (I:Inv Y ([(D,fw its0 nn0)]++P) σ H s) (rv0:ay ys0 its0) {fp2:List J7} {tn2:Nat->K7->Prop} {J2:It} (T:mF Y.prog Y.w Y.K tg J2 fp2 it2 tn2) (st:tn2 0 s.heap)
  (f:∀b∈fp2,eh Y ([(D,fw its0 nn0)]++P) H b) {W2:Nat->Nat->List V->St->Hp->Prop} {Z2:List V->St->Hp->Prop} {m0:Nat} (w0:W2 0 m0 ys0 σ H) (turn:jU J2 g tc B W2 Z2) {R:ao3->F4->Prop}
  (hR:∀(s':F4) (ys:List V) (its:List F3) (n:Nat) (σ':St) (H':Hp),Inv Y ([(D,fw its n)]++P) σ' H' s'->ay ys its->ys.length<=F7->Z2 ys σ' H'->R (.ok .next) s') :
  ad5 (L5 Y.prog Y.w) Y.A (.compLoop (lcE el gs sc ps) k (.ref it2) (.ref D) Y.env) R s:=by
 obtain⟨bd,AW,hT,hb,hB,hAW⟩:=L.ex;have fpc:∀{H:Hp} {n:Nat} {its:List F3},(∀b∈fp2,H b=none)->∀b∈fp2,eh Y ([(D,fw its n)]++P) H b:=fun hn b hb=>by
  obtain⟨_,a1,a2,a3,a4,a5⟩:=f b hb;refine⟨hn b hb,a1,a2,a3,a4,fun p hp=>?_⟩;rw[c.pn,K5]at hp;rcases O3.mp hp with z|z
  ·obtain rfl:=N5.mp z;exact a5 (D,fw its0 nn0) (by rw[c.pn];simp)
  ·exact a5 p (by rw[c.pn];simp[z])
 refine mD hT rfl (hb _) (fun n s'=>∃i ys its nn σ' H',Inv Y ([(D,fw its nn)]++P) σ' H' s'/\ay ys its/\tn2 i s'.heap/\(∀b∈fp2,H' b=none)/\W2 i n ys σ' H') ?_ m0
  ⟨0,ys0,its0,nn0,σ,H,I,rv0,st,fun b hb=>(f b hb).1,w0⟩
 rintro n s' ⟨i,ys,its,nn,σ',H',I4,rv,st4,fr4,w4⟩;obtain⟨hz,h⟩:=turn i n ys σ' H' w4;rcases h with⟨stop,hZ⟩|⟨go,step⟩
 ·refine thn (T.done Y rfl rfl rfl c.calm i _ s' _ H' (fun _ _=>False) I4 (fpc fr4) st4 stop) fun r s4 ⟨hr,I5⟩=>?_;subst hr;exact hR s4 ys its nn σ' H' I5 rv hz hZ
 ·refine thn (T.item Y rfl rfl rfl c.calm i _ s' _ H' (fun _ _=>False) I4 (fpc fr4) st4 go) fun r s5 ⟨u,hr,h5⟩=>?_;subst hr;refine thn h5 fun _ s6 ⟨x,H6,I6,r6,y6,st6,fr6⟩=>?_;have I6':=I6.pinned (fpc fr6) (T.obj _ _ st6);refine thF c.xe (hg _ s6 _ H6 x u _ I6' r6 (step x H6 y6)) fun _ s7 ⟨σ7,H7,I7,q7⟩=>?_;refine thF c.xe (hif _ s7 σ7 H7 _ I7 q7) fun ok s8 hup=>hup.el fun H8 I8 q8=>?_;have keepfp:∀{its:List F3} {nn:Nat} {σ9:St} {H9:Hp} {s9:F4},Inv Y (([(D,fw its nn)]++P)++iU fp2 s6.heap) σ9 H9 s9->tn2 (i+1) s9.heap/\∀b∈fp2,H9 b=none:=fun {its nn σ9 H9 s9} I9 =>
   ⟨T.keep _ _ _ st6 fun b hb o e=>(I9.pin (b,o) (K8 _ (K8 _ (dD hb e)))).1,fun b hb=>by
    obtain⟨o,e,d⟩:=T.obj _ _ st6 b hb;exact(I9.pin (b,o) (K8 _ (K8 _ (dD hb e)))).2.1⟩
  cases ok with
  |false =>
   obtain⟨m',hm,w8⟩:=q8;obtain⟨a8,b8⟩:=keepfp I8;exact⟨m',hm,i+1,ys,its,nn,σ7,H8,I8.unpinned,rv,a8,b8,w8⟩
  |true =>
   have hPD2:∀p∈P++iU fp2 s6.heap,p.1≠D:=fun p hp=>by
    rcases O3.mp hp with z|z
    ·exact hPD p z
    ·have hb:=(nO z).1;intro e;exact(f _ hb).2.2.2.2.2 (D,fw its0 nn0) (by rw[c.pn];simp) e.symm
   refine hAW (hB (P++iU fp2 s6.heap) its nn ys σ7 H8 s8 _ (by rw[<-U0];exact I8) rv hz hPD2 q8) ?_;rintro s9 ⟨ys',its',n',σ',H',I',rv',m',hm,w'⟩;rw[<-U0]at I';obtain⟨a9,b9⟩:=keepfp I';exact⟨m',hm,i+1,ys',its',n',σ',H',I'.unpinned,rv',a9,b9,w'⟩
theorem sk{prog:L1}{w:P9}{A:O0}{acc:F3}{env:Env}{Ok Ok':F4->Prop}{s:F4}(h:vW prog w A (lcE el gs sc ps) k i1 acc env Ok s) (h':∀s,Ok s->Ok' s):vW prog w A (lcE el gs sc ps) k i1 acc env Ok' s :=
 P0 h (fun _ _ h1=>P0 h1 (fun _ _ h2=>ag3 h2 fun _ _ h3=>⟨h3.1,h' _ h3.2⟩) fun _ _ x=>x) fun _ _ x=>x
theorem oY{tg1:M9}{fs1:List M9}{p1:Pos}(c:mr Y D) (L:Lv Y D (lcE el gs sc ps) (k+1) p1 tg1 fs1 B) (hS:xY (lcE el gs sc ps) (k+1) p1) (hs:∀x,N3 i1 Y.env x=ad0 x) (hi:PI Y tg1 i1 wi) (hg:PG Y tg1 g) (hif:PIf Y fs1 tc)
  (hT:zw (lcE el gs sc ps) k p tg fs (Av (lcE el gs sc ps) k i1)):Lv Y D (lcE el gs sc ps) k p tg fs (qh wi g tc B):=by
 refine⟨_,_,hT,fun _=>zj hs,?_,sk⟩;intro P its nn ys σ H s Z I rv hz hPD q;refine thF c.xe (hi _ s σ H _ I q) fun v s9 h9=>thF c.xe h9 fun itv s10 h10=>?_;obtain⟨it2,fp2,tn2,J2,H10,e,I10,T2,st10,f10,W2,⟨m2,w2⟩,cin⟩:=h10;subst e;have loop:=nj c L hg hif hPD I10 rv T2 st10 f10 w2 cin (R:=fun r s₆=>(∃f,r=.ok f)/\∃ys' its' n' σ' H',Inv Y ([(D,fw its' n')]++P) σ' H' s₆/\ay ys' its'/\Z ys' σ' H')
  (fun s' ys its n σ' H' I' rv' _ hZ=>⟨⟨_,rfl⟩,ys,its,n,σ',H',I',rv',hZ⟩)
 exact me hS loop (T2.self _ 0 _ _ _ st10 loop)
end
section
variable{X:Cx}{ae:List (J7×Obj)}{σ σ':St}{H2 H':Hp}{s2 s':F4}{scope:aa1}{cl:List (Str×J7)}{ms:List Bool}{ai:List Str}{elt t0 i0:M9}{f0:List M9}{gs:List aj8}{g0:TG}{tc0:TT}{B:BK}{p pos:Pos}
theorem nG(S:cK X scope cl ms ai) (cp:X.calm=true)
  (hg0:∀C s H ex,PG (ax X scope cl (X.N++ai) C s H ex) t0 g0) (hif0:∀C s H ex,PIf (ax X scope cl (X.N++ai) C s H ex) f0 tc0)
  (hL:∀C s H ex D,mr (ax X scope cl (X.N++ai) C s H ex) D->Lv (ax X scope cl (X.N++ai) C s H ex) D (lcE elt (⟨t0,i0,f0,0⟩::gs) scope pos) 0 p t0 f0 B)
  (I2:Inv X ae σ H2 s2) {it:J7} {fp:List J7} {tn:Nat->K7->Prop} {J:It} (T:mF X.prog X.w X.K t0 J fp it tn) (st2:tn 0 s2.heap) (fz:∀b∈fp,eh X ae H2 b)
  {W:Nat->Nat->List V->St->Hp->Prop} {Z:List V->St->Hp->Prop} {m0:Nat} (w0:W 0 m0 [] (fv ms ai.length σ) H2) (turn:jU J g0 tc0 B W Z)
  {RR:F3->J7->ao3->F4->Prop} {E:F3->F4->Prop}
  (hRR:∀ (s':F4) (ys:List V) (its:List F3) (n:Nat) (σ':St) (H':Hp),Inv (ax X scope cl (X.N ++ ai) (s2.heap.objs.size + 1) s2 H2 fp) [(s2.heap.objs.size,fw its n)] σ' H' s' → ay ys its → ys.length ≤ F7 → Z ys σ' H' →
   RR (.ref s2.heap.objs.size) (s2.heap.objs.size+1) (.ok .next) s') :
  K2 (L5 X.prog X.w) X.A (newList []) (fun acc s₃=>K2 (L5 X.prog X.w) X.A (newFunctionEnv scope X.env.globals cl [] X.env.qual none .none (some X.env)) (fun cenv s₄ =>
   ad5 (L5 X.prog X.w) X.A (.compStart (lcE elt (⟨t0,i0,f0,0⟩::gs) scope pos) 0 (.ref it) acc { cenv with scope:=relabel scope X.env }) (RR acc cenv.locals) s₄) E s₃) E s2:=by
 refine N2 (wpAny_newFunctionEnv S.ncell (by intro y hy;simp at hy) (fun h₁ hns₁ hsb₁=>?_) S.kind);dsimp only at hns₁ hsb₁ ⊢;have hsz:(s2.heap.push { cls:=.type "list",dict:=none,data:=.seq ([]:List F3).toArray }).objs.size=s2.heap.objs.size+1:=by rw[R4]
 rw[hsz]at hns₁ hsb₁ ⊢;have hlt:∀b∈fp,b<s2.heap.objs.size:=fun b hb=>by
  obtain⟨o,e,_⟩:=T.obj _ _ st2 b hb;exact J4 e
 have old:∀b o,s2.heap.get? b=some o->h₁.get? b=some o:=fun b o e=>hsb₁.extBut b o (K0 (P1 (J4 e))) (F0 _ (F0 _ e));have hacc:h₁.get? s2.heap.objs.size=some (fw [] 0):=hsb₁.extBut _ _ (K0 (ad1 _)) (F0 _ (J3 _ rfl));have hDn:H2 s2.heap.objs.size=none:=I2.hok.fresh (F9 _);have hDfs:∀b,s2.heap.objs.size<=b->b∉(ax X scope cl (X.N++ai) (s2.heap.objs.size+1) s2 H2 fp).fs:=fun b hb z=>by
  rcases J9.mp (I2.stkSub b z)with e|e
  ·subst e;exact absurd (J5 I2.lt hb) (X8 _)
  ·exact I2.nofs hb e
 have loop:∀s₃:F4,s₃={ s2 with heap:=h₁,toks:=s2.toks+([]:List (Str×F3)).length } ->
   ad5 (L5 X.prog X.w) X.A (.compLoop (lcE elt (⟨t0,i0,f0,0⟩::gs) scope pos) 0 (.ref it) (.ref s2.heap.objs.size) (am0 scope cl (s2.heap.objs.size+1) X.env)) (RR (.ref s2.heap.objs.size) (s2.heap.objs.size+1)) s₃:=by
  rintro s₃ rfl;have I3:Inv (ax X scope cl (X.N++ai) (s2.heap.objs.size+1) s2 H2 fp) [] (fv ms ai.length σ) H2 { s2 with heap:=h₁,toks:=s2.toks+([]:List (Str×F3)).length } :=
   tL I2 S fz hlt (ai1 _) rfl I2.bare old hns₁
  have c:mr (ax X scope cl (X.N++ai) (s2.heap.objs.size+1) s2 H2 fp) s2.heap.objs.size:=⟨rfl,cp,rfl,.inr (F9 _),fun x c e=>by
   obtain⟨v,o,ho,_⟩:=I2.cell x c (S.sub x c e);exact K0 (J4 ho)⟩
  refine nj c (hL _ _ _ _ _ c) (hg0 _ _ _ _) (hif0 _ _ _ _) (P:=[]) (fun p hp=>nomatch hp) (its0:=[]) (nn0:=0) (I3.pins_of fun p hp=>?_) .nil T (T.keep _ _ _ st2 fun b _ o e=>old b o e) (fun b hb=>?_) w0 turn ?_
  ·have e:p=(s2.heap.objs.size,fw [] 0):=N5.mp hp;subst e;exact⟨hacc,hDn,K0 (ad1 _),hDfs _ (F9 _),fun v z=>by cases z⟩
  ·exact⟨(fz b hb).1,K0 (P1 (hlt b hb)),(qZ I2 S fz hlt (ai1 _)).exfs b hb,.inl hb,fun x c e=>(fz b hb).2.2.2.2.1 x c (S.sub x c e),fun p hp=>by
    have:p=(s2.heap.objs.size,_):=N5.mp (show p∈[(s2.heap.objs.size,_)]from hp);subst this;exact W5 (hlt b hb)⟩
  ·exact fun s' ys its n σ' H' I' rv hz hZ=>hRR s' ys its n σ' H' I' rv hz hZ
 exact codeAny_compStart_list (loop _ rfl) (T.self _ 0 _ _ _ (T.keep _ _ _ st2 fun b _ o e=>old b o e) (loop _ rfl))
end
section
variable{X:Cx}{ae:List (J7×Obj)}{σ σ':St}{H2 H':Hp}{s2 s':F4}{scope:aa1}{cl:List (Str×J7)}{ms:List Bool}{ai:List Str}{tg iter elt:M9}{ifs:List M9}{g:TG}{tc:TT}{te:TE}{pos p:Pos}{B:BK}{gs:List aj8}
theorem mZ(I2:Inv X ae σ H2 s2) {fp:List J7}(f2:∀b∈fp,eh X ae H2 b) {its:List F3}{n:Nat}{ys:List V}
  (I':Inv (ax X scope cl (X.N++ai) (s2.heap.objs.size+1) s2 H2 fp) [(s2.heap.objs.size,fw its n)] σ' H' s') (rv:ay ys its) (hz:ys.length<=F7) {h':K7} (hs:O4 (s2.heap.objs.size+1) s'.heap h') :
  Inv X ae σ (upd H' s2.heap.objs.size (.lst ys)) { s' with heap:=h' }/\H' s2.heap.objs.size=none:=by
 have pacc:=I'.pin (s2.heap.objs.size,fw its n) (K8 _ Q8);have hC:H' (s2.heap.objs.size+1)=none:=I'.free;have hD:H' s2.heap.objs.size=none:=pacc.2.1;have up:∀b o,b≠s2.heap.objs.size+1->s'.heap.get? b=some o->h'.get? b=some o:=fun b o hb e=>(hs.2 b hb).trans e;have nD:∀b u,H' b=some u->b≠s2.heap.objs.size:=fun b u e z=>by rw[z,hD]at e;cases e
 have nC:∀b u,H' b=some u->b≠s2.heap.objs.size+1:=fun b u e z=>by rw[z,hC]at e;cases e
 have hacc:h'.get? s2.heap.objs.size=some (fw its n):=up _ _ (K0 (ad1 _)) pacc.1;have hok:HOk X.prog X.w (upd H' s2.heap.objs.size (.lst ys)) h':=fun b u e=>by
  by_cases hb:b=s2.heap.objs.size
  ·subst hb;rw[bg]at e;cases e;exact⟨hz,its,n,rv,hacc⟩
  ·rw[aZ hb]at e;refine(I'.hok b u e).stay (fun c v hc q=>up c v ?_ q) (fun c q=>by rw[aZ (nD c _ q)];exact q) fun c xs q=>by rw[aZ (nD c _ q)];exact q
   rcases hc with rfl|hc
   ·exact nC _ _ e
   ·exact nC _ _ hc
 have un:Un (frs X.stack) fp H2 (upd H' s2.heap.objs.size (.lst ys)) s2.heap h':=by
  have U:=I'.base;have ltD:∀b o,s2.heap.get? b=some o->b≠s2.heap.objs.size:=fun b o e=>K0 (J4 e);have ltC:∀b o,s2.heap.get? b=some o->b≠s2.heap.objs.size+1:=fun b o e=>K0 (P1 (J4 e));refine⟨fun b o e nb hb hx=>up b o (ltC b o e) (U.keep b o e nb hb hx),fun b o e nb hb hx=>?_,fun b o e nb hx=>by rw[aZ (ltD b o e)];exact U.free b o e nb hx,fun b o e hx=>?_,
   fun b xs e=>by have q:=U.tups b xs e;rw[aZ (nD b _ q)];exact q,fun b o u e=>by have q:=U.frzs b o u e;rw[aZ (nD b _ q)];exact q,fun b ps e=>?_⟩
  ·obtain⟨sl,q⟩:=U.slot b o e nb hb hx;exact⟨sl,up b _ (ltC b o e) q⟩
  ·obtain⟨o',q⟩:=U.there b o e hx;exact⟨o',up b _ (ltC b o e) q⟩
  ·obtain⟨more,q⟩:=U.tbls b ps e;exact⟨more,by rw[aZ (nD b _ q)];exact q⟩
 exact⟨I2.call' (s':={ s' with heap:=h' }) (ch:=fp) I'.os un hok I'.bare fun b hb=>⟨(f2 b hb).2.2.2.1,(f2 b hb).2.1,(f2 b hb).2.2.2.2.1,(f2 b hb).2.2.2.2.2⟩,hD⟩
def yg(ms:List Bool) (k:Nat) (wi:TI) (g:TG) (tc:TT) (B:BK):TE:=fun σ H Q=>wi σ H fun J H1=>∃(W:Nat->Nat->List V->St->Hp->Prop) (Z:List V->St->Hp->Prop),(∃m,W 0 m [] (fv ms k σ) H1)/\jU J g tc B W Z /\
 ∀ys σ' H p,Z ys σ' H->H p=none->Q (.ref p) (upd H p (.lst ys))
abbrev tLc(ms:List Bool) (k:Nat) (wi:TI) (g:TG) (tc:TT) (te:TE):TE:=yg ms k wi g tc (ku te)
abbrev LvC(X:Cx) (scope:aa1) (cl:List (Str×J7)) (ai:List Str) (ce:M9) (p:Pos) (tg:M9) (ifs:List M9) (B:BK):Prop:=∀C s H ex D,mr (ax X scope cl (X.N++ai) C s H ex) D->Lv (ax X scope cl (X.N++ai) C s H ex) D ce 0 p tg ifs B
theorem Cn(S:cK X scope cl ms ai) (cp:X.calm=true) {wi:TI}(hi:PI X tg iter wi)
  (hg:∀C s H ex,PG (ax X scope cl (X.N++ai) C s H ex) tg g) (hif:∀C s H ex,PIf (ax X scope cl (X.N++ai) C s H ex) ifs tc) (hL:LvC X scope cl ai (lcE elt (⟨tg,iter,ifs,0⟩::gs) scope pos) p tg ifs B)
  (hs:∀x,N3 iter X.env x=ad0 x:=by intro _;rfl):PE X (lcE elt (⟨tg,iter,ifs,0⟩::gs) scope pos) (yg ms ai.length wi g tc B):=by
 intro ae s σ H Q I h;rw[eval_ListComp];refine ab7 (use:=none) rfl hs S.clos S.kind S.names (thn (hi ae s σ H _ I h) fun v s1 h1=>thn h1 fun itv s2 h2=>?_);obtain⟨it,fp,tn,J,H2,e,I2,T,st2,f2,W,Z,⟨m0,w0⟩,turn,q⟩:=h2;subst e;refine nG S cp hg hif hL I2 T st2 f2 w0 turn (RR:=fun acc C=>compPost (L5 X.prog X.w) X.A X.xe none (EP X ae σ Q) acc C) ?_;intro s' ys its n σ' H' I' rv hz hZ;obtain⟨m,hm,_⟩:=I'.loc;refine⟨m,hm,fun h' hs'=>?_⟩;obtain⟨I3,hD⟩:=mZ I2 f2 I' rv hz hs';exact⟨.ref s2.heap.objs.size,_,I3,rfl,q ys _ H' _ hZ hD⟩
theorem jV{i:Nat}{x:Str}{spos pos':Pos}(hN:X.N.Nodup) (hix:X.N[i]?=some x) (hx:X.env.scope.names.lookup x=some .local)
  (hsw:ae0 (lcE elt (⟨tg,iter,ifs,0⟩::gs) scope pos) (some (.Name x pos')) spos.line X.env=ad0 true)
  (S:cK X scope cl ms ai) (cp:X.calm=true) {wi:TI} (hi:PI X tg iter wi)
  (hg:∀C s H ex,PG (ax X scope cl (X.N++ai) C s H ex) tg g) (hif:∀C s H ex,PIf (ax X scope cl (X.N++ai) C s H ex) ifs tc) (hL:LvC X scope cl ai (lcE elt (⟨tg,iter,ifs,0⟩::gs) scope pos) p tg ifs B)
  (hs:∀x,N3 iter X.env x=ad0 x:=by intro _;rfl):PS X (.Assign [.Name x pos'] (lcE elt (⟨tg,iter,ifs,0⟩::gs) scope pos) spos) (zO (yg ms ai.length wi g tc B) (nk i)):=by
 intro ae s σ H D I h;rw[exec_Assign_Name_used _ _ _ _ hsw];refine o0 (X9 (o0 ?_));show K2 _ _ (do let _ <-comprehension (lcE elt (⟨tg,iter,ifs,0⟩::gs) scope pos) scope X.env _ (newList []) false (ad3 iter X.env) (some (ag8 (.Name x pos') X.env))) _ _ s;refine o0 (P0 (ab7 (use:=some (ag8 (.Name x pos') X.env)) (Q:=fun _ s'=>SP X ae D .next s') rfl hs S.clos S.kind S.names
  (thn (hi ae s σ H _ I h) fun v s1 h1=>thn h1 fun itv s2 h2=>?_)) (fun _ s' hq=>F5 (F5 hq)) fun _ _ e=>e)
 obtain⟨it,fp,tn,J,H2,e,I2,T,st2,f2,W,Z,⟨m0,w0⟩,turn,q⟩:=h2;subst e;refine nG S cp hg hif hL I2 T st2 f2 w0 turn (RR:=fun acc C=>compPost (L5 X.prog X.w) X.A X.xe (some (ag8 (.Name x pos') X.env)) (fun _ s'=>SP X ae D .next s') acc C) ?_;intro s' ys its n σ' H' I' rv hz hZ;obtain⟨m,hm,_⟩:=I'.loc;obtain⟨I3,hD⟩:=mZ I2 f2 I' rv hz (O4.refl (s2.heap.objs.size+1) s'.heap);have hq:=q ys _ H' _ hZ hD;show K2 _ _ (ag8 (.Name x pos') X.env (.ref s2.heap.objs.size)) _ _ _;refine wpAny_assign_Name (jQ I3 hN hix (.inl hx) (v:=.ref s2.heap.objs.size) rfl (fun s4 I4 hsame=>?_) (.inr hx));obtain⟨a,hsb,ha⟩:=hsame;have hLC:s2.heap.objs.size+1≠X.env.locals:=W5 (P1 I2.lt);have haC:s2.heap.objs.size+1≠a:=by
  rcases ha with rfl|ha
  ·exact hLC
  ·intro z;obtain⟨v,o,ho,_⟩:=I2.cell x a ha;exact absurd (P1 (J4 ho)) (by rw[<-z];exact X8 _)
 have hCn:upd H' s2.heap.objs.size (.lst ys) (s2.heap.objs.size+1)=none:=by rw[aZ (W5 (ad1 _))];exact I'.free
 refine⟨m,hm.sameBut hsb haC,fun h' hs'=>?_⟩;refine⟨_,_,?_,hq⟩;have hL:∀b o,b≠s2.heap.objs.size+1->s4.heap.get? b=some o->h'.get? b=some o:=fun b o hb e=>(hs'.2 b hb).trans e;have I5:=Inv.turned (t':=s4.toks) (h':=h') (it:=s2.heap.objs.size+1) I4 (fun b o hb e=>hL b o hb e) hCn hLC (.inr (Nat.le_succ_of_le I2.sz)) (fun y c e=>by
  obtain⟨v,o,ho,_⟩:=I2.cell y c e;exact K0 (P1 (J4 ho))) (fun p hp=>by
  exact K0 (P1 (J4 (I2.pin p hp).1)))
 exact I5
theorem xO(he:∀C s H ex,PE (ax X scope cl (X.N++ai) C s H ex) elt te):LvC X scope cl ai (lcE elt [⟨tg,iter,ifs,0⟩] scope pos) iter.pos tg ifs (ku te):=fun _ _ _ _ _ c=>oX c (he _ _ _ _) fun _ _ _=>rfl
end
inductive Bx where
 |dk (ks:List Key)|dt (ks:List (List Key))|ins (C:J7) (fs:List Str)|key
 deriving Inhabited
inductive D where
 |non|bl (b:Bool)|int (i:Int)|str (x:Str)|tup (ds:List D)|lst (ds:List D)|scr (ds:List D)|emp|ref (a:J7)|box (t:Bx) (ds:List D)
 deriving Inhabited
inductive HD where
 |lst (ds:List D)|dK (kvs:List (Key×D))|dT (kvs:List (List Key×D))|dKr (o:Obj) (ks:List (Key×V)) (kvs:List (Key×D))|ins (C:J7) (fs:List (Str×D))
 |ext (φ:List V->K7->Prop) (ds:List D)
 deriving Inhabited
abbrev DH:=J7->Option HD
def aH(M:DH) (a:J7) (o:HD):DH:=fun b=>if b=a then some o else M b
def iq(M:DH) (a:J7):DH:=fun b=>if b=a then none else M b
abbrev noM:DH:=fun _=>none
theorem aP{M:DH}{a:J7}{o:HD}:aH M a o a=some o:=if_pos rfl
theorem cQ{M:DH}{a b:J7}{o:HD}(h:b≠a):aH M a o b=M b:=if_neg h
theorem cf{M:DH}{a:J7}{o u:HD}:aH (aH M a o) a u=aH M a u:=by
 funext b;unfold aH;split<;>rfl
theorem fK{M:DH}{a:J7}:iq M a a=none:=if_pos rfl
theorem tM{M:DH}{a b:J7}(h:b≠a):iq M a b=M b:=if_neg h
theorem dM{M:DH}{a:J7}{o:HD}(h:M a=none):iq (aH M a o) a=M:=by
 funext b;unfold iq aH;split
 ·rename_i e;rw[e,h]
 ·rfl
def nr(K:F2) (M:DH) (H:Hp) (a:J7) (vs:List V):Prop:=(Rd H a (.tup vs)/\M a=none)∨SqT K (fun _=>none) a vs
def sM(M:DH) (H:Hp) (a:J7) (vs:List V):Prop:=H a=some (.lst vs)/\M a=none
def nK(K:F2) (M:DH) (H:Hp) (a:J7) (vs:List V):Prop:=((∃o,H a=some (.frz o (.lst vs)))/\M a=none)∨SqL K (fun _=>none) a vs
def Dg(M:DH) (H:Hp) (a:J7):Prop:=H a=some (.dK [])/\M a=none
def lI(M:DH) (H:Hp) (a:J7):Bx->List V->Prop
 |.dk ks,vs=>ks.length=vs.length/\(∃o,H a=some (.frz o (.dK (ks.zip vs))))/\M a=none
 |.dt ks,vs=>ks.length=vs.length/\(∃o,H a=some (.frz o (.dT (ks.zip vs))))/\M a=none
 |.ins C fs,vs=>fs.length=vs.length/\(∃dx,H a=some (.ins C dx (fs.zip vs)))/\M a=none
 |.key,vs=>True/\(∃_u:Unit,H a=some (.tup vs))/\M a=none
mutual
def Rep(K:F2) (M:DH) (H:Hp):D->V->Prop
 |.non,v=>v=.non
 |.bl b,v=>v=.bl b
 |.int i,v=>v=.int i
 |.str x,v=>v=.str x
 |.tup ds,v=>∃a vs,v=.ref a/\nr K M H a vs/\ao K M H ds vs
 |.lst ds,v=>∃a vs,v=.ref a/\sM M H a vs/\ao K M H ds vs
 |.scr ds,v=>∃a vs,v=.ref a/\nK K M H a vs/\ao K M H ds vs
 |.emp,v=>∃a,v=.ref a/\Dg M H a
 |.ref a,v=>v=.ref a
 |.box t ds,v=>∃a vs,v=.ref a/\lI M H a t vs/\ao K M H ds vs
def ao(K:F2) (M:DH) (H:Hp):List D->List V->Prop
 |[],vs=>vs=[]
 |d::ds,vs=>∃v ws,vs=v::ws/\Rep K M H d v/\ao K M H ds ws
end
def Ext(M:DH) (H:Hp) (M':DH) (H':Hp):Prop:=∀a o,H a=some o->M a=none->H' a=some o/\M' a=none
theorem Ext.refl(M:DH) (H:Hp):Ext M H M H:=fun _ _ h n=>⟨h,n⟩
theorem Ext.trans{M M1 M2:DH}{H H1 H2:Hp}(a:Ext M H M1 H1) (b:Ext M1 H1 M2 H2):Ext M H M2 H2:=fun c o h n=>b c o (a c o h n).1 (a c o h n).2
variable{K:F2}{M M' M1 M2:DH}{H H' H1 H2:Hp}
theorem nr.ext{a:J7}{vs:List V}(h:nr K M H a vs) (e:Ext M H M' H'):nr K M' H' a vs:=by
 rcases h with⟨r|⟨o,r⟩,n⟩|h
 ·exact .inl ⟨.inl (e a _ r n).1,(e a _ r n).2⟩
 ·exact .inl ⟨.inr ⟨o,(e a _ r n).1⟩,(e a _ r n).2⟩
 ·exact .inr h
theorem sM.ext{a:J7}{vs:List V}(h:sM M H a vs) (e:Ext M H M' H'):sM M' H' a vs:=e a _ h.1 h.2
theorem nK.ext{a:J7}{vs:List V}(h:nK K M H a vs) (e:Ext M H M' H'):nK K M' H' a vs:=by
 rcases h with⟨⟨o,r⟩,n⟩|h
 ·exact .inl ⟨⟨o,(e a _ r n).1⟩,(e a _ r n).2⟩
 ·exact .inr h
theorem lI.ext{a:J7}{t:Bx}{vs:List V}(h:lI M H a t vs) (e:Ext M H M' H'):lI M' H' a t vs:=by
 cases t<;>(obtain⟨l,⟨o,r⟩,n⟩:=h;exact⟨l,⟨o,(e a _ r n).1⟩,(e a _ r n).2⟩)
mutual
theorem Rep.ext:∀{d:D}{v:V},Rep K M H d v->Ext M H M' H'->Rep K M' H' d v
 |.non,_,h,_=>h
 |.bl _,_,h,_=>h
 |.int _,_,h,_=>h
 |.str _,_,h,_=>h
 |.ref _,_,h,_=>h
 |.emp,_,h,e=>by
  simp only[Rep]at h ⊢;obtain⟨a,rfl,h1,h2⟩:=h;exact⟨a,rfl,e a _ h1 h2⟩
 |.tup ds,_,h,e=>by
  simp only[Rep]at h ⊢;obtain⟨a,vs,rfl,h1,h2⟩:=h;exact⟨a,vs,rfl,h1.ext e,ao.ext h2 e⟩
 |.lst ds,_,h,e=>by
  simp only[Rep]at h ⊢;obtain⟨a,vs,rfl,h1,h2⟩:=h;exact⟨a,vs,rfl,h1.ext e,ao.ext h2 e⟩
 |.scr ds,_,h,e=>by
  simp only[Rep]at h ⊢;obtain⟨a,vs,rfl,h1,h2⟩:=h;exact⟨a,vs,rfl,h1.ext e,ao.ext h2 e⟩
 |.box t ds,_,h,e=>by
  simp only[Rep]at h ⊢;obtain⟨a,vs,rfl,h1,h2⟩:=h;exact⟨a,vs,rfl,h1.ext e,ao.ext h2 e⟩
theorem ao.ext:∀{ds:List D}{vs:List V},ao K M H ds vs->Ext M H M' H'->ao K M' H' ds vs
 |[],_,h,_=>h
 |d::ds,_,h,e=>by
  simp only[ao]at h ⊢;obtain⟨v,ws,rfl,h1,h2⟩:=h;exact⟨v,ws,rfl,Rep.ext h1 e,ao.ext h2 e⟩
end
theorem ao.length:∀{ds:List D}{vs:List V},ao K M H ds vs->ds.length=vs.length
 |[],_,h=>by simp only[ao]at h;subst h;rfl
 |d::ds,_,h=>by
  simp only[ao]at h;obtain⟨v,ws,rfl,h1,h2⟩:=h;simp[ao.length h2]
theorem ao.nil:ao K M H [] []:=by simp[ao]
theorem ao.cons{d:D}{v:V}{ds:List D}{vs:List V}(h:Rep K M H d v) (t:ao K M H ds vs):ao K M H (d::ds) (v::vs):=by
 simp only[ao];exact⟨v,vs,rfl,h,t⟩
theorem ao.append:∀{ds es:List D}{vs ws:List V},ao K M H ds vs->ao K M H es ws->ao K M H (ds++es) (vs++ws)
 |[],_,_,_,h,t=>by simp only[ao]at h;subst h;exact t
 |d::ds,es,_,ws,h,t=>by
  simp only[ao]at h;obtain⟨v,us,rfl,h1,h2⟩:=h;exact ao.cons h1 (ao.append h2 t)
theorem ao.get:∀{ds:List D}{vs:List V}{i:Nat}{d:D},ao K M H ds vs->ds[i]?=some d->∃v,vs[i]?=some v/\Rep K M H d v
 |[],_,_,_,_,e=>by simp at e
 |d::ds,_,0,x,h,e=>by
  simp only[ao]at h;obtain⟨v,us,rfl,h1,h2⟩:=h;simp at e;subst e;exact⟨v,rfl,h1⟩
 |d::ds,_,i+1,x,h,e=>by
  simp only[ao]at h;obtain⟨v,us,rfl,h1,h2⟩:=h;obtain⟨w,a,b⟩:=ao.get (i:=i) (d:=x) h2 (by simpa using e);exact⟨w,by simpa using a,b⟩
theorem ao.take:∀{ds:List D}{vs:List V}(n:Nat),ao K M H ds vs->ao K M H (ds.take n) (vs.take n)
 |ds,vs,0,_=>by simp[ao]
 |[],_,n+1,h=>by simp only[ao]at h;subst h;simp[ao]
 |d::ds,_,n+1,h=>by
  simp only[ao]at h;obtain⟨v,us,rfl,h1,h2⟩:=h;exact ao.cons h1 (ao.take n h2)
theorem ao.drop:∀{ds:List D}{vs:List V}(n:Nat),ao K M H ds vs->ao K M H (ds.drop n) (vs.drop n)
 |ds,vs,0,h=>h
 |[],_,n+1,h=>by simp only[ao]at h;subst h;simp[ao]
 |d::ds,_,n+1,h=>by
  simp only[ao]at h;obtain⟨v,us,rfl,h1,h2⟩:=h;exact ao.drop n h2
theorem ao.set:∀{ds:List D}{vs:List V}{d:D}{v:V}(n:Nat),ao K M H ds vs->Rep K M H d v->ao K M H (ds.set n d) (vs.set n v)
 |[],_,_,_,n,h,r=>by simp only[ao]at h;subst h;simp[ao]
 |d::ds,_,_,_,0,h,r=>by
  simp only[ao]at h;obtain⟨v,us,rfl,h1,h2⟩:=h;exact ao.cons r h2
 |d::ds,_,_,_,n+1,h,r=>by
  simp only[ao]at h;obtain⟨v,us,rfl,h1,h2⟩:=h;exact ao.cons h1 (ao.set n h2 r)
theorem ao.one{d:D}{vs:List V}(h:ao K M H [d] vs):∃v,vs=[v]/\Rep K M H d v:=by
 simp only[ao]at h;obtain⟨v,us,rfl,h1,rfl⟩:=h;exact⟨v,rfl,h1⟩
def KR(K:F2) (M:DH) (H:Hp) {κ:Type}:List (κ×D)->List (κ×V)->Prop:=X7 fun p q=>p.1=q.1/\Rep K M H p.2 q.2
theorem KR.ext{κ:Type}{kvs:List (κ×D)}{ks:List (κ×V)}(h:KR K M H kvs ks) (e:Ext M H M' H'):KR K M' H' kvs ks:=X7.imp' (fun _ _ r=>⟨r.1,r.2.ext e⟩) h
def lT(K:F2) (M:DH) (H:Hp) (a:J7):HD->Prop
 |.lst ds=>∃vs,H a=some (.lst vs)/\ao K M H ds vs
 |.dK kvs=>∃ks,H a=some (.dK ks)/\KR K M H kvs ks
 |.dT kvs=>∃ks,H a=some (.dT ks)/\KR K M H kvs ks
 |.dKr o ks kvs=>∃_u:Unit,H a=some (.frz o (.dK ks))/\KR K M H kvs ks
 |.ins C fs=>∃gs,(∃dx,H a=some (.ins C dx gs))/\KR K M H fs gs
 |.ext φ ds=>∃vs,H a=some (.ext (φ vs))/\ao K M H ds vs
def HR(K:F2) (M:DH) (H:Hp):Prop:=∀a o,M a=some o->lT K M H a o
theorem lT.some{a:J7}{o:HD}(h:lT K M H a o):∃u,H a=R7 u/\∀xs,u≠.tup xs/\∀ob,u≠.frz ob (.tup xs):=by
 cases o with
 |ins C fs=>obtain⟨gs,⟨dx,r⟩,_⟩:=h;exact⟨_,r,fun xs=>⟨(by intro z;cases z),(by intro ob z;cases z)⟩⟩
 |_=>obtain⟨vs,r,_⟩:=h;exact⟨_,r,fun xs=>⟨(by intro z;cases z),(by intro ob z;cases z)⟩⟩
theorem lT.keep{a:J7}{o:HD}(h:lT K M H a o) (e:Ext M H M' H') (q:H' a=H a):lT K M' H' a o:=by
 cases o with
 |ins C fs=>obtain⟨gs,⟨dx,r⟩,t⟩:=h;exact⟨gs,⟨dx,by rw[q];exact r⟩,t.ext e⟩
 |_=>obtain⟨vs,r,t⟩:=h;exact⟨vs,by rw[q];exact r,t.ext e⟩
theorem HR.fresh(h:HR K M H) {p:J7}(e:H p=none):M p=none:=by
 cases q:M p with
 |none=>rfl
 |some o =>
  obtain⟨u,r,_⟩:=(h p _ q).some;rw[e]at r;cases r
theorem HR.nil:HR K noM H:=fun _ _ h=>nomatch h
theorem Ext.new{p:J7}{o:HO}(hr:HR K M H) (h:H p=none):Ext M H M (upd H p o):=fun a u e n=>by
 have:a≠p:=cT e h;rw[aZ this];exact⟨e,n⟩
theorem HR.ext1(h:HR K M H) (e:Ext M H M H') (keep:∀a o,M a=some o->H' a=H a):HR K M H':=fun a o q=>(h a o q).keep e (keep a o q)
theorem HR.new{p:J7}{o:HO}(hr:HR K M H) (h:H p=none):HR K M (upd H p o):=hr.ext1 (Ext.new hr h) fun a u q=>by
 have:a≠p:=fun z=>by rw[z,hr.fresh h]at q;cases q
 rw[aZ this]
theorem Ext.own{p:J7}{o:HO}{u:HD}(h:H p=none):Ext M H (aH M p u) (upd H p o):=fun a x e n=>by
 have:a≠p:=cT e h;rw[aZ this,cQ this];exact⟨e,n⟩
theorem HR.put{p:J7}{o:HO}{u:HD}(hr:HR K M H) (e:Ext M H (aH M p u) (upd H p o)) (c:lT K (aH M p u) (upd H p o) p u):HR K (aH M p u) (upd H p o):=fun a w q=>by
 by_cases z:a=p
 ·subst z;rw[aP]at q;cases q;exact c
 ·rw[cQ z]at q;exact(hr a w q).keep e (aZ z)
theorem HR.own{p:J7}{ds:List D}{vs:List V}(hr:HR K M H) (h:H p=none) (r:ao K M H ds vs):HR K (aH M p (.lst ds)) (upd H p (.lst vs)) :=
 hr.put (Ext.own h) ⟨vs,bg,r.ext (Ext.own h)⟩
theorem Ext.write{a:J7}{o:HO}{u w:HD}(h:M a=some w):Ext M H (aH M a u) (upd H a o):=fun b x e n=>by
 have:b≠a:=fun z=>by rw[z,h]at n;cases n
 rw[aZ this,cQ this];exact⟨e,n⟩
theorem HR.write{a:J7}{w:HD}{ds:List D}{vs:List V}(hr:HR K M H) (h:M a=some w) (r:ao K M H ds vs):HR K (aH M a (.lst ds)) (upd H a (.lst vs)) :=
 hr.put (Ext.write h) ⟨vs,bg,r.ext (Ext.write h)⟩
def LeM(M1 M:DH):Prop:=∀a o,M1 a=some o->M a=some o
theorem LeM.none(h:LeM M1 M) {a:J7}(n:M a=none):M1 a=none:=by
 cases q:M1 a with
 |none=>rfl
 |some o=>rw[h a o q]at n;cases n
theorem LeM.no:LeM noM M:=fun _ _ h=>nomatch h
theorem LeM.del{a:J7}:LeM (iq M a) M:=fun b o h=>by
 unfold iq at h;split at h
 ·cases h
 ·exact h
theorem Ext.le(h:LeM M1 M):Ext M H M1 H:=fun a o e n=>⟨e,h.none n⟩
theorem HR.le(hr:HR K M H) (h:LeM M1 M):HR K M1 H:=fun a o q=>(hr a o (h a o q)).keep (Ext.le h) rfl
theorem Rep.froze(hr:HR K M H) (h:LeM M1 M) {a:J7}{ds:List D}(e:M a=some (.lst ds)) (n:M1 a=none):Rep K M1 H (.lst ds) (.ref a):=by
 obtain⟨vs,r,t⟩:=hr a _ e;simp only[Rep];exact⟨a,vs,rfl,⟨r,n⟩,t.ext (Ext.le h)⟩
mutual
def noL:D->Bool
 |.tup ds=>yx ds
 |.lst _=>false
 |.scr _=>false
 |.emp=>false
 |.box _ _=>false
 |_=>true
def yx:List D->Bool
 |[]=>true
 |d::ds=>noL d&&yx ds
end
mutual
theorem Rep.hard:∀{d:D}{v:V},noL d=true->Rep K M H d v->(∀a xs,Rd H a (.tup xs)->M' a=none)->Rep K M' H d v
 |.non,_,_,h,_=>h
 |.bl _,_,_,h,_=>h
 |.int _,_,_,h,_=>h
 |.str _,_,_,h,_=>h
 |.ref _,_,_,h,_=>h
 |.emp,_,n,_,_=>by simp[noL]at n
 |.box _ _,_,n,_,_=>by simp[noL]at n
 |.lst _,_,n,_,_=>by simp[noL]at n
 |.scr _,_,n,_,_=>by simp[noL]at n
 |.tup ds,_,n,h,e=>by
  simp only[Rep]at h ⊢;obtain⟨a,vs,rfl,h1,h2⟩:=h;refine⟨a,vs,rfl,?_,ao.hard (by simpa[noL]using n) h2 e⟩;rcases h1 with⟨r,_⟩|r
  ·exact .inl ⟨r,e a vs r⟩
  ·exact .inr r
theorem ao.hard:∀{ds:List D}{vs:List V},yx ds=true->ao K M H ds vs->(∀a xs,Rd H a (.tup xs)->M' a=none)->ao K M' H ds vs
 |[],_,_,h,_=>h
 |d::ds,_,n,h,e=>by
  simp only[ao]at h ⊢;obtain⟨v,ws,rfl,h1,h2⟩:=h;simp only[yx,N1]at n;exact⟨v,ws,rfl,Rep.hard n.1 h1 e,ao.hard n.2 h2 e⟩
end
abbrev DE:=List (Option D)
def SR(K:F2) (M:DH) (H:Hp) (σ:St) (Δ:DE):Prop:=σ.length=Δ.length/\∀(i:Nat) (d:D),Δ[i]?=some (some d)->∃v,σ[i]?=some (some v)/\Rep K M H d v
theorem SR.ext{σ:St}{Δ:DE}(h:SR K M H σ Δ) (e:Ext M H M' H'):SR K M' H' σ Δ:=⟨h.1,fun i d q=>let⟨v,a,r⟩:=h.2 i d q;⟨v,a,r.ext e⟩⟩
theorem SR.set{σ:St}{Δ:DE}{d:D}{v:V}(h:SR K M H σ Δ) (i:Nat) (r:Rep K M H d v):SR K M H (σ.set i (some v)) (Δ.set i (some d)):=by
 refine⟨by simp[h.1],fun j e q=>?_⟩
 by_cases hj:j=i
 ·subst hj
  by_cases hl:j<Δ.length
  ·rw[S8 hl]at q;cases q;exact⟨v,S8 (by rw[h.1];exact hl),r⟩
  ·rw[Z3 (by simp;lia)]at q;cases q
 ·rw[W0 (aa7 hj)]at q ⊢;exact h.2 j e q
abbrev TEd:=DE->DH->(D->DH->Prop)->Prop
abbrev TAd:=DE->DH->(List D->DH->Prop)->Prop
abbrev TTd:=DE->DH->(Bool->DH->Prop)->Prop
structure gj where
 nx:DE->DH->Prop
 rt:D->DH->Prop
 bk:DE->DH->Prop:=fun _ _=>False
 ct:DE->DH->Prop:=fun _ _=>False
abbrev TSd:=gj->DE->DH->Prop
def up(K:F2) (t:TEd):TE:=fun σ H Q=>∃(Δ:DE) (M:DH) (R:D->DH->Prop),SR K M H σ Δ/\HR K M H/\t Δ M R /\
 ∀d M' v H',R d M'->Ext M H M' H'->HR K M' H'->Rep K M' H' d v->Q v H'
def upA(K:F2) (t:TAd):TA:=fun σ H Q=>∃(Δ:DE) (M:DH) (R:List D->DH->Prop),SR K M H σ Δ/\HR K M H/\t Δ M R /\
 ∀ds M' vs H',R ds M'->Ext M H M' H'->HR K M' H'->ao K M' H' ds vs->Q vs H'
def upT(K:F2) (t:TTd):TT:=fun σ H Q=>∃(Δ:DE) (M:DH) (R:Bool->DH->Prop),SR K M H σ Δ/\HR K M H/\t Δ M R /\
 ∀b M' H',R b M'->Ext M H M' H'->HR K M' H'->Q b H'
theorem upT.el{K:F2}{t:TTd}{σ:St}{H:Hp}{Q:Bool->Hp->Prop}{P:Prop}(h:upT K t σ H Q) (f:∀(Δ:DE) (M:DH) (R:Bool->DH->Prop),SR K M H σ Δ->HR K M H->t Δ M R->(∀b M' H',R b M'->Ext M H M' H'->HR K M' H'->Q b H')->P):P:=by
 obtain⟨x1,x2,x3,a,b,c,d⟩:=h;exact f x1 x2 x3 a b c d
theorem up.el{K:F2}{t:TEd}{σ:St}{H:Hp}{Q:VK}{P:Prop}(h:up K t σ H Q) (f:∀(Δ:DE) (M:DH) (R:D->DH->Prop),SR K M H σ Δ->HR K M H->t Δ M R->(∀d M' v H',R d M'->Ext M H M' H'->HR K M' H'->Rep K M' H' d v->Q v H')->P):P:=by
 obtain⟨x1,x2,x3,a,b,c,d⟩:=h;exact f x1 x2 x3 a b c d
theorem upA.el{K:F2}{t:TAd}{σ:St}{H:Hp}{Q:List V->Hp->Prop}{P:Prop}(h:upA K t σ H Q) (f:∀(Δ:DE) (M:DH) (R:List D->DH->Prop),SR K M H σ Δ->HR K M H->t Δ M R->(∀ds M' vs H',R ds M'->Ext M H M' H'->HR K M' H'->ao K M' H' ds vs->Q vs H')->P):P:=by
 obtain⟨x1,x2,x3,a,b,c,d⟩:=h;exact f x1 x2 x3 a b c d
structure UpE(K:F2) (E:gj) (D:pU) (M:DH) (H:Hp):Prop where
 nx:∀ Δ' M' σ' H',E.nx Δ' M'->Ext M H M' H'->HR K M' H'->SR K M' H' σ' Δ'->D.nx σ' H'
 bk:∀ Δ' M' σ' H',E.bk Δ' M'->Ext M H M' H'->HR K M' H'->SR K M' H' σ' Δ'->D.bk σ' H'
 ct:∀ Δ' M' σ' H',E.ct Δ' M'->Ext M H M' H'->HR K M' H'->SR K M' H' σ' Δ'->D.ct σ' H'
 rt:∀d M' v H',E.rt d M'->Ext M H M' H'->HR K M' H'->Rep K M' H' d v->D.rt v H'
theorem UpE.ext{E:gj}{D:pU}(u:UpE K E D M H) (e:Ext M H M' H'):UpE K E D M' H' :=
 ⟨fun a b c d h x=>u.nx a b c d h (e.trans x),fun a b c d h x=>u.bk a b c d h (e.trans x),fun a b c d h x=>u.ct a b c d h (e.trans x),fun a b c d h x=>u.rt a b c d h (e.trans x)⟩
def upS(K:F2) (t:TSd):TS:=fun D σ H=>∃(Δ:DE) (M:DH) (E:gj),SR K M H σ Δ/\HR K M H/\t E Δ M/\UpE K E D M H
theorem upS.el{K:F2}{t:TSd}{E:pU}{σ:St}{H:Hp}{P:Prop}(h:upS K t E σ H) (f:∀(Δ:DE) (M:DH) (R:gj),SR K M H σ Δ->HR K M H->t R Δ M->UpE K R E M H->P):P:=by
 obtain⟨x1,x2,x3,a,b,c,d⟩:=h;exact f x1 x2 x3 a b c d
def PEd(X:Cx) (e:M9) (t:TEd):Prop:=PE X e (up X.K t)
def PAd(X:Cx) (es:List M9) (t:TAd):Prop:=PA X es (upA X.K t)
def PTd(X:Cx) (e:M9) (t:TTd):Prop:=PT X e (upT X.K t)
def PWd(X:Cx) (e:M9) (t:TTd):Prop:=PW X e (upT X.K t)
def PSd(X:Cx) (st:ac2) (t:TSd):Prop:=PS X st (upS X.K t)
def ym(X:Cx) (st:List ac2) (t:TSd):Prop:=PSs X st (upS X.K t)
theorem PE.conv{X:Cx}{e:M9}{t t':TE}(h:PE X e t) (k:∀ σ H Q,t' σ H Q->t σ H Q):PE X e t':=fun p s σ H Q I q=>h p s σ H Q I (k σ H Q q)
theorem PT.conv{X:Cx}{e:M9}{t t':TT}(h:PT X e t) (k:∀ σ H Q,t' σ H Q->t σ H Q):PT X e t':=fun p s σ H Q I q=>h p s σ H Q I (k σ H Q q)
theorem PA.conv{X:Cx}{e:List M9}{t t':TA}(h:PA X e t) (k:∀ σ H Q,t' σ H Q->t σ H Q):PA X e t':=fun ps p s σ H Q I q=>h ps p s σ H Q I (k σ H Q q)
theorem PS.conv{X:Cx}{e:ac2}{t t':TS}(h:PS X e t) (k:∀D σ H,t' D σ H->t D σ H):PS X e t':=fun p s σ H D I q=>h p s σ H D I (k D σ H q)
theorem PSs.conv{X:Cx}{e:List ac2}{t t':TS}(h:PSs X e t) (k:∀D σ H,t' D σ H->t D σ H):PSs X e t':=fun p s σ H D I q=>h p s σ H D I (k D σ H q)
section
variable{X:Cx}{a b c:M9}{es:List M9}{ta tb:TEd}{pos:Pos}
def rA(i:Nat):TEd:=fun Δ M Q=>∃d,Δ[i]?=some (some d)/\Q d M
def dC(d:D):TEd:=fun _ M Q=>Q d M
theorem zF{x:Str}{i:Int}{t:Tok}{pos:Pos}(hg:Gl X x) (hm:X.mg x=some (.int i t)) (hd:(x==("__debug__":Str))=false:=by decide):PEd X (.Name x pos) (dC (.int i)) :=
 (tP (v:=.int i) hg hm ⟨t,rfl⟩ hd).conv fun σ H Q hup=>hup.el fun Δ M R sr hr q k=>k _ M _ H q (Ext.refl _ _) hr (by simp[Rep])
theorem zA{x y:Str}{t:Tok}{pos:Pos}(hg:Gl X x) (hm:X.mg x=some (.str y t)) (hd:(x==("__debug__":Str))=false:=by decide):PEd X (.Name x pos) (dC (.str y)) :=
 (tP (v:=.str y) hg hm ⟨t,rfl⟩ hd).conv fun σ H Q hup=>hup.el fun Δ M R sr hr q k=>k _ M _ H q (Ext.refl _ _) hr (by simp[Rep])
def Do:TAd:=fun _ M Q=>Q [] M
def Aw(ta:TEd) (tr:TAd):TAd:=fun Δ M Q=>ta Δ M fun x M1=>tr Δ M1 fun xs M2=>Q (x::xs) M2
def DD(t:TAd):TEd:=fun Δ M Q=>t Δ M fun ds M1=>ds.length<=F7/\Q (.tup ds) M1
def Dv(t:TAd):TEd:=fun Δ M Q=>t Δ M fun ds M1=>ds.length<=F7/\Q (.lst ds) M1
def Aa(t:TAd):TEd:=fun Δ M Q=>t Δ M fun ds M1=>ds.length<=F7/\∀p,M1 p=none->Q (.ref p) (aH M1 p (.lst ds))
def rdM(M:DH):D->D
 |.ref a=>match M a with|some (.lst ds)=>.lst ds|_=>.ref a
 |d=>d
def aT(K:F2) (M:DH) (H:Hp) (d:D) (v:V):Prop:=match d with
 |.tup ds=>∃a vs,v=.ref a/\SqT K H a vs/\ao K M H ds vs
 |.lst ds=>∃a vs,v=.ref a/\H a=some (.lst vs)/\ao K M H ds vs
 |.scr ds=>∃a vs,v=.ref a/\SqL K H a vs/\ao K M H ds vs
 |d=>Rep K M H d v
theorem nr.sq{K:F2}{M:DH}{H:Hp}{a:J7}{vs:List V}(h:nr K M H a vs):SqT K H a vs:=by
 rcases h with⟨h,_⟩|h
 ·exact .inl h
 ·rcases h with(h|⟨_,h⟩)|h
  ·cases h
  ·cases h
  ·exact .inr h
theorem nK.sq{K:F2}{M:DH}{H:Hp}{a:J7}{vs:List V}(h:nK K M H a vs):SqL K H a vs:=by
 rcases h with⟨⟨o,h⟩,_⟩|h
 ·exact .inl (.inr ⟨o,h⟩)
 ·rcases h with(h|⟨_,h⟩)|h
  ·cases h
  ·cases h
  ·exact .inr h
theorem Rep.rd{K:F2}{M:DH}{H:Hp}{d:D}{v:V}(hr:HR K M H) (h:Rep K M H d v):aT K M H (rdM M d) v:=by
 cases d with
 |tup ds=>simp only[Rep]at h;obtain⟨a,vs,e,t,r⟩:=h;exact⟨a,vs,e,t.sq,r⟩
 |lst ds=>simp only[Rep]at h;obtain⟨a,vs,e,t,r⟩:=h;exact⟨a,vs,e,t.1,r⟩
 |scr ds=>simp only[Rep]at h;obtain⟨a,vs,e,t,r⟩:=h;exact⟨a,vs,e,t.sq,r⟩
 |ref a =>
  simp only[rdM];cases q:M a with
  |none=>exact h
  |some o =>
   cases o with
   |lst ds =>
    obtain⟨vs,e,r⟩:=hr a _ q;simp only[Rep]at h;exact⟨a,vs,h,e,r⟩
   |dK _=>exact h
   |dT _=>exact h
   |dKr _ _ _=>exact h
   |ins _ _=>exact h
   |ext _ _=>exact h
 |non=>exact h
 |bl b=>exact h
 |int i=>exact h
 |str x=>exact h
 |emp=>exact h
 |box _ _=>exact h
def cw(X:Cx) (f:F3->F3->Sem F3) (r:D->D->Option D):Prop :=
 ∀(ae:List (J7×Obj)) (s:F4) (σ:St) (H:Hp) (M:DH) (x y:V) (v u:F3) (dx dy dz:D) (Q:VK),Inv X ae σ H s->HR X.K M H->aN x v->aN y u->aT X.K M H dx x->aT X.K M H dy y->r dx dy=some dz ->
  (∀w H',Ext M H M H'->HR X.K M H'->Rep X.K M H' dz w->Q w H')->K2 (L5 X.prog X.w) X.A (f v u) (EP X ae σ Q) X.xe s
def DC(X:Cx) (f:F3->Sem F3) (r:D->Option D):Prop :=
 ∀(ae:List (J7×Obj)) (s:F4) (σ:St) (H:Hp) (M:DH) (x:V) (v:F3) (dx dz:D) (Q:VK),Inv X ae σ H s->HR X.K M H->aN x v->aT X.K M H dx x->r dx=some dz ->
  (∀w H',Ext M H M H'->HR X.K M H'->Rep X.K M H' dz w->Q w H')->K2 (L5 X.prog X.w) X.A (f v) (EP X ae σ Q) X.xe s
def bH(X:Cx) (f:F3) (r:List D->Option D):Prop :=
 ∀(ae:List (J7×Obj)) (s:F4) (σ:St) (H:Hp) (M:DH) (xs:List V) (us:List F3) (ds:List D) (dz:D) (Q:VK),Inv X ae σ H s->HR X.K M H->ay xs us->X7 (aT X.K M H) ds xs->r ds=some dz ->
  (∀w H',Ext M H M H'->HR X.K M H'->Rep X.K M H' dz w->Q w H')->K2 (L5 X.prog X.w) X.A (call f us) (EP X ae σ Q) X.xe s
def dOp(r:D->D->Option D) (ta tb:TEd):TEd:=fun Δ M Q=>ta Δ M fun x M1=>tb Δ M1 fun y M2=>∃z,r (rdM M2 x) (rdM M2 y)=some z/\Q z M2
def dUn(r:D->Option D) (ta:TEd):TEd:=fun Δ M Q=>ta Δ M fun x M1=>∃z,r (rdM M1 x)=some z/\Q z M1
def opV(K:F2) (r:D->D->Option D):R2:=fun x y H Q=>∃dx dy dz M,HR K M H/\aT K M H dx x/\aT K M H dy y/\r dx dy=some dz/\∀w H',Ext M H M H'->HR K M H'->Rep K M H' dz w->Q w H'
theorem cw.v{f:F3->F3->Sem F3}{r:D->D->Option D}(h:cw X f r):OpR X f (opV X.K r):=fun ae s σ H x y v u Q I rx ry ⟨dx,dy,dz,M,hr,r1,r2,e,k⟩=>h ae s σ H M x y v u dx dy dz Q I hr rx ry r1 r2 e k
theorem vn{K:F2}{r:D->D->Option D}{ta tb:TEd}:∀ σ H Q,up K (dOp r ta tb) σ H Q->tOp (opV K r) (up K ta) (up K tb) σ H Q:=fun σ H Q hup=>hup.el fun Δ M R sr hr q k =>
 ⟨Δ,M,_,sr,hr,q,fun x M1 v H1 q1 e1 hr1 rv=>⟨Δ,M1,_,sr.ext e1,hr1,q1,fun y M2 u H2 ⟨z,ez,q2⟩ e2 hr2 ru=>⟨_,_,z,M2,hr2,(rv.ext e2).rd hr2,ru.rd hr2,ez,fun w H' e3 hr3 rw_=>k z M2 w H' q2 ((e1.trans e2).trans e3) hr3 rw_⟩⟩⟩
def yR(t:TEd):TTd:=fun Δ M Q=>t Δ M fun x M1=>∃k,x=.bl k/\Q k M1
theorem Ea{K:F2}{t:TEd}:∀ σ H Q,upT K (yR t) σ H Q->AE (up K t) σ H Q:=fun σ H Q hup=>hup.el fun Δ M R sr hr q k =>
 ⟨Δ,M,_,sr,hr,q,fun d M1 v H1 ⟨b,e,q1⟩ e1 hr1 rv=>⟨b,by subst e;simpa only[Rep]using rv,k b M1 H1 q1 e1 hr1⟩⟩
def Ag(t:TTd):TTd:=fun Δ M Q=>t Δ M fun c M1=>Q (!c) M1
def AA(t u:TTd):TTd:=fun Δ M Q=>t Δ M fun c M1=>if c=true then u Δ M1 Q else Q false M1
def D2(t u:TTd):TTd:=fun Δ M Q=>t Δ M fun c M1=>if c=true then Q true M1 else u Δ M1 Q
variable{tA tB':TTd}{rest:List M9}
theorem PW.conv{X:Cx}{e:M9}{t t':TT}(h:PW X e t) (k:∀ σ H Q,t' σ H Q->t σ H Q):PW X e t':=fun w p s σ H Q I q=>h w p s σ H Q I (k σ H Q q)
theorem PWd.pt{e:M9}{t:TTd}(h:PWd X e t):PTd X e t:=PW.pt h
def DG(ta tb:TEd):TEd:=fun Δ M Q=>ta Δ M fun x M1=>∃c,x=.bl c/\if c=true then tb Δ M1 Q else Q (.bl false) M1
def Dq(ta:TEd):TEd:=fun Δ M Q=>ta Δ M fun x M1=>∃c,x=.bl c/\Q (.bl (!c)) M1
def dIf(t:TTd) (ta tb:TEd):TEd:=fun Δ M Q=>t Δ M fun c M1=>if c=true then ta Δ M1 Q else tb Δ M1 Q
def vm(r r':D->D->Option D) (ta tb tc:TEd):TEd:=fun Δ M Q=>ta Δ M fun x M1=>tb Δ M1 fun y M2=>∃k,r (rdM M2 x) (rdM M2 y)=some (.bl k)/\if k=true then tc Δ M2 fun z M3=>∃w,r' (rdM M3 y) (rdM M3 z)=some w/\Q w M3 else Q (.bl false) M2
theorem sN{K:F2}{M:DH}{H:Hp}(hr:HR K M H):∀{ds:List D}{vs:List V},ao K M H ds vs->X7 (aT K M H) (ds.map (rdM M)) vs
 |[],_,h=>by simp only[ao]at h;subst h;exact .nil
 |d::ds,_,h=>by
  simp only[ao]at h;obtain⟨v,ws,rfl,h1,h2⟩:=h;exact .cons (h1.rd hr) (sN hr h2)
def dCB(r:List D->Option D) (t:TAd):TEd:=fun Δ M Q=>t Δ M fun ds M1=>∃z,r (ds.map (rdM M1))=some z/\Q z M1
theorem AF{K:F2}{r:List D->Option D}{t:TAd}:∀ σ H Q,up K (dCB r t) σ H Q->tCB (fun xs H Q=>∃ds dz M,HR K M H/\X7 (aT K M H) ds xs/\r ds=some dz/\∀w H',Ext M H M H'->HR K M H'->Rep K M H' dz w->Q w H') (upA K t) σ H Q:=fun σ H Q hup=>hup.el fun Δ M R sr hr q k =>
 ⟨Δ,M,_,sr,hr,q,fun ds M1 vs H1 ⟨z,ez,q1⟩ e1 hr1 rv=>⟨_,z,M1,hr1,sN hr1 rv,ez,fun w H' e2 hr2 r2=>k z M1 w H' q1 (e1.trans e2) hr2 r2⟩⟩
theorem bH.v{f:F3}{r:List D->Option D}(h:bH X f r):dg X f (fun xs H Q=>∃ds dz M,HR X.K M H/\X7 (aT X.K M H) ds xs/\r ds=some dz/\∀w H',Ext M H M H'->HR X.K M H'->Rep X.K M H' dz w->Q w H') :=
 fun ae s σ H xs us Q I rv ⟨ds,dz,M,hr,rr,e,k⟩=>h ae s σ H M xs us ds dz Q I hr rv rr e k
end
section
variable{X:Cx}
theorem cw.of{f:F3->F3->Sem F3}{r2:R2}{r:D->D->Option D}(h:OpR X f r2)
  (k:∀(H:Hp) (M:DH) (x y:V) (dx dy dz:D) (Q:VK),HR X.K M H->aT X.K M H dx x->aT X.K M H dy y->r dx dy=some dz->(∀w H',Ext M H M H'->HR X.K M H'->Rep X.K M H' dz w->Q w H')->r2 x y H Q):cw X f r :=
 fun ae s σ H M x y v u dx dy dz Q I hr rx ry r1 r2 e q=>h ae s σ H x y v u Q I rx ry (k H M x y dx dy dz Q hr r1 r2 e q)
theorem bH.of{f:F3}{r2:List V->Hp->VK->Prop}{r:List D->Option D}(h:dg X f r2)
  (k:∀(H:Hp) (M:DH) (xs:List V) (ds:List D) (dz:D) (Q:VK),HR X.K M H->X7 (aT X.K M H) ds xs->r ds=some dz->(∀w H',Ext M H M H'->HR X.K M H'->Rep X.K M H' dz w->Q w H')->r2 xs H Q):bH X f r :=
 fun ae s σ H M xs us ds dz Q I hr rv r1 e q=>h ae s σ H xs us Q I rv (k H M xs ds dz Q hr r1 e q)
theorem fG{K:F2}{M:DH}{H:Hp}{i:Int}{v:V}(h:aT K M H (.int i) v):v=.int i:=by simpa[aT,Rep]using h
theorem mG{K:F2}{M:DH}{H:Hp}{i:Str}{v:V}(h:aT K M H (.str i) v):v=.str i:=by simpa[aT,Rep]using h
theorem ED{K:F2}{M:DH}{H:Hp}{v:V}(h:aT K M H .non v):v=.non:=by simpa[aT,Rep]using h
def iOp(f:Int->Int->Option D):D->D->Option D
 |.int a,.int b=>f a b
 |_,_=>none
theorem pH{f:Int->Int->Option D}{x y z:D}(h:iOp f x y=some z):∃a b,x=.int a/\y=.int b/\f a b=some z:=by
 cases x<;>first|cases h|skip
 rename_i a;cases y<;>first|cases h|skip
 rename_i b;exact⟨a,b,rfl,rfl,h⟩
noncomputable def bI:D->Bool
 |.non=>true|.bl _=>true|.int _=>true|.str _=>true|_=>false
def toV:D->V
 |.bl b=>.bl b|.int i=>.int i|.str x=>.str x|_=>.non
theorem pz{K:F2}{M:DH}{H:Hp}{d:D}(h:bI d=true):Rep K M H d (toV d):=by
 cases d<;>first|(simp[Rep,toV];done)|cases h
theorem pX{f:F3->F3->Sem F3}{C:Int->Int->Prop} [∀i j,Decidable (C i j)] {g:Int->Int->D}(hs:∀i j,bI (g i j)=true) (h:OpR X f (rI C fun i j=>toV (g i j))) :
  cw X f (iOp fun i j=>if C i j then some (g i j)else none) :=
 cw.of h fun H M x y dx dy dz Q hr r1 r2 e q=>by
  obtain⟨a,b,rfl,rfl,e'⟩:=pH e;clear e;have e:=e'
  by_cases hc:C a b
  ·rw[if_pos hc]at e;cases e;exact⟨a,b,fG r1,fG r2,hc,q _ _ (Ext.refl _ _) hr (pz (hs a b))⟩
  ·rw[if_neg hc]at e;cases e
theorem lA{f:F3->F3->Sem F3}{g:Int->Int->D}(hs:∀i j,bI (g i j)=true) (h:OpR X f (rI0 fun i j=>toV (g i j))) :
  cw X f (iOp fun i j=>some (g i j)) :=
 cw.of h fun H M x y dx dy dz Q hr r1 r2 e q=>by
  obtain⟨a,b,rfl,rfl,e⟩:=pH e;cases e;exact⟨a,b,fG r1,fG r2,q _ _ (Ext.refl _ _) hr (pz (hs a b))⟩
instance:∀i j,Decidable (lM i j):=fun i j=>by unfold lM;exact inferInstance
instance:∀i j,Decidable (iV i j):=fun i j=>by unfold iV;exact inferInstance
instance:∀i j,Decidable (mJ i j):=fun i j=>by unfold mJ;exact inferInstance
theorem gn:cw X (V8 .Sub) (iOp fun i j=>some (.int (i-j))):=lA (fun _ _=>rfl) AO
theorem BG:cw X (V8 .Mult) (iOp fun i j=>if iV i j then some (.int (i*j))else none):=pX (fun _ _=>rfl) AJ
theorem dB:cw X (V8 .FloorDiv) (iOp fun i j=>if lM i j then some (.int (i / j))else none):=pX (fun _ _=>rfl) yA
theorem bh:cw X (V8 .Mod) (iOp fun i j=>if 0<j then some (.int (i % j))else none):=pX (C:=fun _ j=>0<j) (fun _ _=>rfl) A5
theorem iZ:cw X (V8 .Pow) (iOp fun i j=>if mJ i j then some (.int (i ^ j.toNat))else none):=pX (fun _ _=>rfl) Ct
theorem oE:cw X (Q5 .Lt) (iOp fun i j=>some (.bl (decide (i<j)))):=lA (fun _ _=>rfl) Cz
theorem pB:cw X (Q5 .LtE) (iOp fun i j=>some (.bl (decide (i<=j)))):=lA (fun _ _=>rfl) DQ
theorem Ci:cw X (Q5 .Gt) (iOp fun i j=>some (.bl (decide (j<i)))):=lA (fun _ _=>rfl) DI
theorem EV:cw X (Q5 .GtE) (iOp fun i j=>some (.bl (decide (j<=i)))):=lA (fun _ _=>rfl) Dr
theorem ao.at_{K:F2}{M:DH}{H:Hp}{ds:List D}{vs:List V}{i:Int}{d:D}(h:ao K M H ds vs) (e:atI ds i=some d):∃v,atI vs i=some v/\Rep K M H d v:=by
 unfold atI at e ⊢;rw[<-h.length];cases q:ixN ds.length i with
 |none=>rw[q]at e;cases e
 |some j =>
  rw[q]at e;have e':ds[j]?=some d:=e;obtain⟨v,a,b⟩:=h.get e';exact⟨v,a,b⟩
def ixD:D->D->Option D
 |.tup ds,.int i=>atI ds i
 |.lst ds,.int i=>atI ds i
 |.scr ds,.int i=>atI ds i
 |.str z,.int i=>if z.length<=F7 then(atI z.cps.toList i).map fun c=>.str ⟨#[c]⟩else none
 |_,_=>none
theorem aE:IxR X (opV X.K ixD):=by
 intro value slice ae s σ H x y v u Q I rx ry h hs;obtain⟨dx,dy,dz,M,hr,r1,r2,e,k⟩:=h;cases dx with
 |tup ds =>
  cases dy with
  |int i =>
   obtain⟨a,vs,rfl,sq,rl⟩:=r1;obtain⟨w,e2,rw_⟩:=rl.at_ e;exact BX value slice ae s σ H _ _ v u Q I rx ry ⟨a,vs,i,w,rfl,fG r2,sq,e2,k w H (Ext.refl _ _) hr rw_⟩ hs
  |_=>cases e
 |lst ds =>
  cases dy with
  |int i =>
   obtain⟨a,vs,rfl,sq,rl⟩:=r1;obtain⟨w,e2,rw_⟩:=rl.at_ e;exact tR value slice ae s σ H _ _ v u Q I rx ry ⟨a,vs,i,w,rfl,fG r2,SqL.of sq,e2,k w H (Ext.refl _ _) hr rw_⟩ hs
  |_=>cases e
 |scr ds =>
  cases dy with
  |int i =>
   obtain⟨a,vs,rfl,sq,rl⟩:=r1;obtain⟨w,e2,rw_⟩:=rl.at_ e;exact tR value slice ae s σ H _ _ v u Q I rx ry ⟨a,vs,i,w,rfl,fG r2,sq,e2,k w H (Ext.refl _ _) hr rw_⟩ hs
  |_=>cases e
 |str z =>
  cases dy with
  |int i =>
   simp only[ixD]at e
   by_cases hz:z.length<=F7
   ·rw[if_pos hz]at e;cases q:atI z.cps.toList i with
    |none=>rw[q]at e;cases e
    |some c =>
     rw[q]at e;cases e;exact B2 value slice ae s σ H _ _ v u Q I rx ry ⟨z,i,c,mG r1,fG r2,hz,q,k _ H (Ext.refl _ _) hr (by simp[Rep])⟩ hs
   ·rw[if_neg hz]at e;cases e
  |_=>cases e
 |_=>cases e
noncomputable def mR:D->D->Option D
 |.int a,.int b=>some (.int (a+b))
 |.str a,.str b=>if a.length+b.length<=F7 then some (.str (a++b))else none
 |.lst a,.lst b=>if a.length+b.length<=F7 then some (.lst (a++b))else none
 |.tup a,.tup b=>if a.length+b.length<=F7 then some (.tup (a++b))else none
 |_,_=>none
theorem eM{K:F2}{M:DH}{H:Hp}{p:J7}{ds:List D}{vs:List V}{Q:VK}(hr:HR K M H) (hp:H p=none) (r:ao K M H ds vs) (q:∀w H',Ext M H M H'->HR K M H'->Rep K M H' (.lst ds) w->Q w H'):Q (.ref p) (upd H p (.lst vs)) :=
 q _ _ (Ext.new hr hp) (hr.new hp) (by simp only[Rep];exact⟨p,vs,rfl,⟨bg,hr.fresh hp⟩,r.ext (Ext.new hr hp)⟩)
theorem nZ{K:F2}{M:DH}{H:Hp}{p:J7}{ds:List D}{vs:List V}{Q:VK}(hr:HR K M H) (hp:H p=none) (r:ao K M H ds vs) (q:∀w H',Ext M H M H'->HR K M H'->Rep K M H' (.tup ds) w->Q w H'):Q (.ref p) (upd H p (.tup vs)) :=
 q _ _ (Ext.new hr hp) (hr.new hp) (by simp only[Rep];exact⟨p,vs,rfl,.inl ⟨.inl bg,hr.fresh hp⟩,r.ext (Ext.new hr hp)⟩)
theorem aT.tup{K:F2}{M:DH}{H:Hp}{ds:List D}{v:V}(hr:HR K M H) (h:aT K M H (.tup ds) v):Rep K M H (.tup ds) v:=by
 obtain⟨a,vs,rfl,sq,rl⟩:=h;simp only[Rep];refine⟨a,vs,rfl,?_,rl⟩;rcases sq with r|k
 ·refine .inl ⟨r,?_⟩;cases q:M a with
  |none=>rfl
  |some o =>
   obtain⟨u,z,m⟩:=(hr a _ q).some;rcases r with r|⟨ob,r⟩
   ·rw[z]at r;exact absurd (Q7 r) (m _).1
   ·rw[z]at r;exact absurd (Q7 r) ((m _).2 ob)
 ·exact .inr (.inr k)
theorem ya{prog:L1}{w:P9}{A:O0}{E:F3->F4->Prop}{s:F4}{t b:J7}{ws:List F3}{Q:F3->F4->Prop}(ht:al6 s.heap t ([]:List F3).toArray) (hb:al6 s.heap b ws.toArray)
  (h:Q (.ref b) s):K2 (L5 prog w) A (V8 .Add (.ref t) (.ref b)) Q E s:=by
 obtain⟨⟨cls,dd,data,sl⟩,ho,hc,n,hd⟩:=id ht;obtain⟨⟨cls2,dd2,data2,sl2⟩,ho2,hc2,n2,hd2⟩:=id hb;simp only at hc hd hc2 hd2;subst hc hd hc2 hd2;exact concat_meets ⟨_,ho,rfl⟩ ⟨_,ho2,rfl⟩ noFill_tuple_add seq_tuple_add PySem.F.slot_tuple_add PySem.F.entry_tuple_add (PySem.F.args_tuple_add_2 _ _)
   (tuple_addW0 t b ([]:List F3).toArray ws.toArray n n2 dd dd2 sl sl2 (by simp)) ⟨ho,ho2,h⟩
theorem bq:cw X (V8 .Add) mR:=by
 intro ae s σ H M x y v u dx dy dz Q I hr rx ry r1 r2 e k;cases dx with
 |int a =>
  cases dy with
  |int b =>
   cases e;exact AY ae s σ H x y v u Q I rx ry ⟨a,b,fG r1,fG r2,k _ H (Ext.refl _ _) hr (by simp[Rep])⟩
  |_=>cases e
 |str a =>
  cases dy with
  |str b =>
   simp only[mR]at e
   by_cases hz:a.length+b.length<=F7
   ·rw[if_pos hz]at e;cases e;exact rV ae s σ H x y v u Q I rx ry ⟨a,b,mG r1,mG r2,hz,k _ H (Ext.refl _ _) hr (by simp[Rep])⟩
   ·rw[if_neg hz]at e;cases e
  |_=>cases e
 |lst a =>
  cases dy with
  |lst b =>
   simp only[mR]at e
   by_cases hz:a.length+b.length<=F7
   ·rw[if_pos hz]at e;cases e;obtain⟨l1,vs,rfl,h1,l1r⟩:=r1;obtain⟨l2,ws,rfl,h2,l2r⟩:=r2;exact B8 ae s σ H _ _ v u Q I rx ry ⟨l1,l2,vs,ws,rfl,rfl,h1,h2,by rw[<-l1r.length,<-l2r.length];exact hz,fun p hp=>eM hr hp (l1r.append l2r) k⟩
   ·rw[if_neg hz]at e;cases e
  |_=>cases e
 |tup a =>
  cases dy with
  |tup b =>
   simp only[mR]at e
   by_cases hz:a.length+b.length<=F7
   ·rw[if_pos hz]at e;cases e;have t1:=aT.tup hr r1;have t2:=aT.tup hr r2;obtain⟨l1,vs,rfl,h1,l1r⟩:=r1;obtain⟨l2,ws,rfl,h2,l2r⟩:=r2
    by_cases hv:vs=[]
    ·subst hv;have ea:a=[]:=by
      have:=l1r.length;cases a with
      |nil=>rfl
      |cons _ _=>simp at this
     subst ea;cases rx;cases ry;obtain⟨its,q1,p1,_⟩:=I.tuple h1;obtain⟨its2,q2,p2,_⟩:=I.tuple h2;cases q1;exact ya p1 p2 ⟨.ref l2,H,I,rfl,k _ H (Ext.refl _ _) hr t2⟩
    ·refine zc ae s σ H _ _ v u Q I rx ry ⟨l1,l2,vs,ws,rfl,rfl,h1,h2,hv,by rw[<-l1r.length,<-l2r.length];exact hz,fun hw=>?_,fun _ p hp=>nZ hr hp (l1r.append l2r) k⟩;subst hw;have eb:b=[]:=by
      have:=l2r.length;cases b with
      |nil=>rfl
      |cons _ _=>simp at this
     subst eb;rw[V5]at k;exact k _ H (Ext.refl _ _) hr t1
   ·rw[if_neg hz]at e;cases e
  |_=>cases e
 |_=>cases e
mutual
def eqD:D->D->Bool
 |.non,.non=>true
 |.bl a,.bl b=>a==b
 |.bl a,.int b=>(if a then 1 else 0)==b
 |.int a,.bl b=>a==(if b then 1 else 0)
 |.int a,.int b=>a==b
 |.str a,.str b=>a==b
 |.tup a,.tup b=>eA a b
 |.lst a,.lst b=>eA a b
 |_,_=>false
def eA:List D->List D->Bool
 |[],[]=>true
 |a::as,b::bs=>eqD a b&&eA as bs
 |_,_=>false
end
mutual
def dLe:D->Nat->Bool
 |.tup _,0=>false
 |.tup ds,n+1=>dF ds n
 |.lst _,0=>false
 |.lst ds,n+1=>dF ds n
 |.scr _,_=>false
 |.emp,_=>false
 |.box _ _,_=>false
 |.ref _,_=>false
 |_,_=>true
def dF:List D->Nat->Bool
 |[],_=>true
 |d::ds,n=>dLe d n&&dF ds n
end
theorem i3:∀{ds:List D}{n i:Nat}{d:D},dF ds n=true->ds[i]?=some d->dLe d n=true
 |[],_,_,_,_,e=>by simp at e
 |d::ds,n,0,x,h,e=>by
  simp only[dF,N1]at h;simp at e;subst e;exact h.1
 |d::ds,n,i+1,x,h,e=>by
  simp only[dF,N1]at h;exact i3 h.2 (by simpa using e)
theorem fP:∀{ds:List D}{n:Nat},dF ds n=true↔∀d∈ds,dLe d n=true
 |[],n=>by simp[dF]
 |d::ds,n=>by simp[dF,fP (ds:=ds)]
def eqN(ds es:List D) (j:Nat):Bool:=match ds[j]?,es[j]? with|some a,some b=>eqD a b|_,_=>false
theorem qD:∀{ds es:List D},eA ds es=true->ds.length=es.length
 |[],[],_=>rfl
 |[],_::_,h=>by simp[eA]at h
 |_::_,[],h=>by simp[eA]at h
 |_::ds,_::es,h=>by
  simp only[eA,N1]at h;simp[qD h.2]
theorem lr:∀{ds es:List D},eA ds es=((R8 (min ds.length es.length)).all (eqN ds es)&&ds.length==es.length)
 |[],[]=>by simp[eA]
 |[],_::_=>by simp[eA]
 |_::_,[]=>by simp[eA]
 |a::ds,b::es=>by
  have ih:=@lr ds es;simp only[eA,P2,Nat.add_min_add_right,List.range_succ_eq_map,ah2,R0];have e0:eqN (a::ds) (b::es) 0=eqD a b:=by simp[eqN]
  have e1:(eqN (a::ds) (b::es))∘Nat.succ=eqN ds es:=by
   funext j;simp[eqN]
  rw[e0,e1,ih];have e2:(ds.length+1==es.length+1)=(ds.length==es.length):=by
   rw[ab8];simp
  rw[e2,Bool.and_assoc]
theorem uS{ds es:List D}(h:ds.length=es.length):eA ds es=(R8 ds.length).all (eqN ds es):=by
 rw[lr,<-h,Nat.min_self];simp
theorem Rep.r{K:F2}{M:DH}{H:Hp}{d:D}{v:V}(h:Rep K M H d v):aT K M H d v:=by
 cases d with
 |tup ds=>simp only[Rep]at h;obtain⟨a,vs,e,t,r⟩:=h;exact⟨a,vs,e,t.sq,r⟩
 |lst ds=>simp only[Rep]at h;obtain⟨a,vs,e,t,r⟩:=h;exact⟨a,vs,e,t.1,r⟩
 |scr ds=>simp only[Rep]at h;obtain⟨a,vs,e,t,r⟩:=h;exact⟨a,vs,e,t.sq,r⟩
 |_=>exact h
theorem Az{ae:List (J7×Obj)}{σ:St}{H:Hp}{s:F4}{a:J7}{vs ws:List V}(I:Inv X ae σ H s) (h:SqT X.K H a vs) (h':H a=some (.lst ws)):False:=by
 obtain⟨its,r,⟨o,e,c,n,d⟩,_⟩:=I.tuple h;obtain⟨_,its',n',_,e'⟩:=I.hok a _ h';rw[e]at e';cases e';exact absurd (show ag1 "list"=ag1 "tuple" from c) (by decide)
theorem vj{ae:List (J7×Obj)}{σ:St}{H:Hp}{s:F4}(I:Inv X ae σ H s) {M M':DH}:∀(n:Nat) {d e:D}{v:V},dLe d n=true->dLe e n=true->aT X.K M H d v->aT X.K M' H e v->eqD d e=true:=by
  intro n
  induction n with
  | zero =>
    intro d e v hd he r1 r2;cases d<;>first|(simp[dLe]at hd;done)|skip
    all_goals cases e<;>first|(simp[dLe]at he;done)|skip
    all_goals (simp only[aT,Rep]at r1 r2;subst r1;first|(cases r2;simp[eqD];done)|cases r2)
  | succ n ih =>
    intro d e v hd he r1 r2;have lists:∀{ds es:List D} {vs:List V},dF ds n=true->dF es n=true->ao X.K M H ds vs->ao X.K M' H es vs->eA ds es=true:=by
      intro ds
      induction ds with
      | nil =>
        intro es vs _ _ h1 h2;simp only[ao]at h1;subst h1;cases es with
        |nil=>simp[eA]
        |cons _ _=>simp[ao]at h2
      | cons a ds ihl =>
        intro es vs d1 d2 h1 h2;simp only[ao]at h1;obtain⟨v,ws,rfl,h3,h4⟩:=h1;cases es with
        |nil=>simp[ao]at h2
        | cons b es =>
          simp only[ao]at h2;obtain⟨v',ws',e',h5,h6⟩:=h2;cases e';simp only[dF,N1]at d1 d2;simp only[eA,N1];exact⟨ih d1.1 d2.1 h3.r h5.r,ihl d1.2 d2.2 h4 h6⟩
    cases d with
    | tup ds =>
      obtain⟨a,vs,rfl,sq,rl⟩:=r1;cases e with
      | tup es =>
        obtain⟨b,ws,e',sq',rl'⟩:=r2;cases e';have:=I.tuple_inj sq sq';subst this;simp only[eqD];exact lists (by simpa[dLe]using hd) (by simpa[dLe]using he) rl rl'
      | lst es =>
        obtain⟨b,ws,e',sq',rl'⟩:=r2;cases e';exact(Az I sq sq').elim
      |_=>first|(simp[dLe]at he;done)|(simp only[aT,Rep]at r2;cases r2)
    | lst ds =>
      obtain⟨a,vs,rfl,sq,rl⟩:=r1;cases e with
      | lst es =>
        obtain⟨b,ws,e',sq',rl'⟩:=r2;cases e';rw[sq]at sq';cases sq';simp only[eqD];exact lists (by simpa[dLe]using hd) (by simpa[dLe]using he) rl rl'
      | tup es =>
        obtain⟨b,ws,e',sq',rl'⟩:=r2;cases e';exact(Az I sq' sq).elim
      |_=>first|(simp[dLe]at he;done)|(simp only[aT,Rep]at r2;cases r2)
    | _ =>
      first
      |(simp[dLe]at hd;done)
      | (cases e with
         |tup es=>(obtain⟨b,ws,e',sq',rl'⟩:=r2;subst e';simp only[aT,Rep]at r1;cases r1)
         |lst es=>(obtain⟨b,ws,e',sq',rl'⟩:=r2;subst e';simp only[aT,Rep]at r1;cases r1)
         |_=>first|(simp[dLe]at he;done)|(simp only[aT,Rep]at r1 r2;subst r1;first|(cases r2;simp[eqD];done)|cases r2))
theorem aT.at{K:F2}{M:DH}{H:Hp}{d:D}{v:V}{u:F3}(r:aT K M H d v) (q:aN v u):match d with|.non=>u=.none|.bl b=>u=.bool b|.int i=>∃t,u=.int i t|.str x=>∃t,u=.str x t|_=>True:=by
 cases d<;>first|trivial|(simp only[aT,Rep]at r;subst r;exact q)
open PySem.SeqAt in
theorem qW{ae:List (J7×Obj)}{σ:St}{H:Hp}{s:F4}(I:Inv X ae σ H s) {M M':DH}:∀(n:Nat) {A:O0}{d e:D}{v w:V}{u1 u2:F3},A.units+n<ai7->dLe d n=true->dLe e n=true ->
  aT X.K M H d v->aT X.K M' H e w->aN v u1->aN w u2->EqAt A s u1 u2 (eqD d e)/\RcAt A s u1 u2 (eqD d e)/\RcNeAt A s u1 u2 (!(eqD d e)):=by
 intro n
 induction n with
 |zero =>
  intro A d e v w u1 u2 hu hd he r1 r2 q1 q2;have hu0:A.units<ai7:=by lia
  cases d<;>first|(simp[dLe]at hd;done)|skip
  all_goals cases e<;>first|(simp[dLe]at he;done)|skip
  all_goals simp only[aT,Rep]at r1 r2
  all_goals subst r1
  all_goals subst r2
  all_goals simp only[aN]at q1 q2
  all_goals first|(obtain⟨t1,rfl⟩:=q1)|subst q1
  all_goals first|(obtain⟨t2,rfl⟩:=q2)|subst q2
  all_goals simp only[eqD]
  ·exact⟨EqAt.same _,RcAt.none_none,RcNeAt.none_none⟩
  ·exact⟨EqAt.none_bool _,RcAt.none_bool _,RcNeAt.none_bool _⟩
  ·exact⟨EqAt.none_int _ _,RcAt.none_int _ _,RcNeAt.none_int _ _⟩
  ·exact⟨EqAt.none_str _ _,RcAt.none_str _ _,RcNeAt.none_str _ _⟩
  ·exact⟨EqAt.bool_none _,RcAt.bool_none _,RcNeAt.bool_none _⟩
  ·exact⟨EqAt.bool_bool _ _,RcAt.bool_bool _ _,RcNeAt.bool_bool _ _⟩
  ·exact⟨EqAt.bool_int _ _ _,RcAt.bool_int _ _ _,RcNeAt.bool_int _ _ _⟩
  ·exact⟨EqAt.bool_str _ _ _,RcAt.bool_str _ _ _,RcNeAt.bool_str _ _ _⟩
  ·exact⟨EqAt.int_none _ _,RcAt.int_none _ _,RcNeAt.int_none _ _⟩
  ·exact⟨EqAt.int_bool _ _ _,RcAt.int_bool _ _ _,RcNeAt.int_bool _ _ _⟩
  ·exact⟨EqAt.int_int _ _ _ _,RcAt.int_int _ _ _ _,RcNeAt.int_int _ _ _ _⟩
  ·exact⟨EqAt.int_str _ _ _ _,RcAt.int_str _ _ _ _,RcNeAt.int_str _ _ _ _⟩
  ·exact⟨EqAt.str_none _ _,RcAt.str_none _ _,RcNeAt.str_none _ _⟩
  ·exact⟨EqAt.str_bool _ _ _,RcAt.str_bool _ _ _,RcNeAt.str_bool _ _ _⟩
  ·exact⟨EqAt.str_int _ _ _ _,RcAt.str_int _ _ _ _,RcNeAt.str_int _ _ _ _⟩
  ·exact⟨EqAt.str_str _ _ _ _,RcAt.str_str _ _ _ _,RcNeAt.str_str _ _ _ _⟩
 |succ n ih =>
  intro A d e v w u1 u2 hu hd he r1 r2 q1 q2;have hu0:A.units<ai7:=by lia
  have hu1:A.in1.units+n<ai7:=by show A.units+1+n<ai7;lia
  have item:∀{ds es:List D} {vs ws:List V} {us us2:List F3},dF ds n=true->dF es n=true->ao X.K M H ds vs->ao X.K M' H es ws->ay vs us->ay ws us2 ->
    ∀j (h1:j<us.toArray.size) (h2:j<us2.toArray.size),EqAt A.in1 s us.toArray[j] us2.toArray[j] (eqN ds es j):=by
   intro ds es vs ws us us2 d1 d2 h1 h2 h3 h4 j hj1 hj2;have l1:=h1.length;have l2:=h2.length;have l3:=h3.length;have l4:=h4.length;have j1:j<ds.length:=by simp at hj1;lia
   have j2:j<es.length:=by simp at hj2;lia
   obtain⟨v1,g1,p1⟩:=h1.get (i:=j) (d:=ds[j]) (by simp[j1]);obtain⟨v2,g2,p2⟩:=h2.get (i:=j) (d:=es[j]) (by simp[j2]);obtain⟨u1,k1,m1⟩:=h3.get g1;obtain⟨u2,k2,m2⟩:=h4.get g2;have e1:us.toArray[j]=u1:=by
    simp at hj1;simpa[u8 hj1]using k1
   have e2:us2.toArray[j]=u2:=by
    simp at hj2;simpa[u8 hj2]using k2
   rw[e1,e2];have e3:eqN ds es j=eqD ds[j] es[j]:=by simp[eqN,j1,j2]
   rw[e3];exact(ih hu1 (i3 d1 (i:=j) (by simp[j1])) (i3 d2 (i:=j) (by simp[j2])) p1.r p2.r m1 m2).1
  have both:∀{a b:J7},v=.ref a->w=.ref b->RcAt A s (.ref a) (.ref b) (eqD d e)->EqAt A s (.ref a) (.ref b) (eqD d e):=by
   intro a b ea eb rc
   by_cases hab:a=b
   ·subst hab;subst ea;subst eb;rw[vj I (n+1) hd he r1 r2];exact EqAt.same _
   ·exact EqAt.of_refs hab rc
  cases d with
  |tup ds =>
   obtain⟨a,vs,rfl,sq,rl⟩:=id r1;cases q1;obtain⟨its,rv,pt,_⟩:=I.tuple sq;have hd':dF ds n=true:=by simpa[dLe]using hd
   cases e with
   |tup es =>
    obtain⟨b,ws,rfl,sq',rl'⟩:=id r2;cases q2;obtain⟨its2,rv2,pt2,_⟩:=I.tuple sq';have he':dF es n=true:=by simpa[dLe]using he
    have it:=item hd' he' rl rl' rv rv2;have t1:=RcAt.tuples (e:=eqN ds es) pt pt2 hu0 it;have t2:=RcNeAt.tuples (e:=eqN ds es) pt pt2 hu0 it;rw[J0,J0,<-rv.length,<-rv2.length,<-rl.length,<-rl'.length,<-lr]at t1 t2;have rc:RcAt A s (.ref a) (.ref b) (eqD (.tup ds) (.tup es)):=by simpa only[eqD]using t1
    exact⟨both rfl rfl rc,rc,by simpa only[eqD]using t2⟩
   |lst es =>
    obtain⟨b,ws,rfl,sq',rl'⟩:=id r2;cases q2;obtain⟨its2,rv2,pt2,_⟩:=I.list (SqL.of sq');simp only[eqD];exact⟨EqAt.tuple_list pt pt2.isList hu0,RcAt.tuple_list pt pt2.isList hu0,RcNeAt.tuple_list pt pt2.isList hu0⟩
   |non=>obtain rfl:=r2.at q2;simp only[eqD];exact⟨EqAt.tuple_none pt hu0,RcAt.tuple_none pt hu0,RcNeAt.tuple_none pt hu0⟩
   |bl b=>obtain rfl:=r2.at q2;simp only[eqD];exact⟨EqAt.tuple_bool _ pt hu0,RcAt.tuple_bool _ pt hu0,RcNeAt.tuple_bool _ pt hu0⟩
   |int b=>obtain⟨t,rfl⟩:=r2.at q2;simp only[eqD];exact⟨EqAt.tuple_int _ _ pt hu0,RcAt.tuple_int _ _ pt hu0,RcNeAt.tuple_int _ _ pt hu0⟩
   |str b=>obtain⟨t,rfl⟩:=r2.at q2;simp only[eqD];exact⟨EqAt.tuple_str _ _ pt hu0,RcAt.tuple_str _ _ pt hu0,RcNeAt.tuple_str _ _ pt hu0⟩
   |_=>simp[dLe]at he
  |lst ds =>
   obtain⟨a,vs,rfl,sq,rl⟩:=id r1;cases q1;obtain⟨its,rv,pt,_⟩:=I.list (SqL.of sq);have hd':dF ds n=true:=by simpa[dLe]using hd
   cases e with
   |lst es =>
    obtain⟨b,ws,rfl,sq',rl'⟩:=id r2;cases q2;obtain⟨its2,rv2,pt2,_⟩:=I.list (SqL.of sq');have he':dF es n=true:=by simpa[dLe]using he
    have hs:its.toArray.size=ds.length/\its2.toArray.size=es.length:=by rw[J0,J0,<-rv.length,<-rv2.length,<-rl.length,<-rl'.length];exact⟨rfl,rfl⟩
    have rc:RcAt A s (.ref a) (.ref b) (eqD (.lst ds) (.lst es))/\RcNeAt A s (.ref a) (.ref b) (!(eqD (.lst ds) (.lst es))):=by
     by_cases hl:ds.length=es.length
     ·have hsz:its.toArray.size=its2.toArray.size:=by rw[hs.1,hs.2];exact hl
      have it:=item hd' he' rl rl' rv rv2;have t1:=RcAt.lists (e:=eqN ds es) pt.isList pt2.isList hsz hu0 it;have t2:=RcNeAt.lists (e:=eqN ds es) pt.isList pt2.isList hsz hu0 it;rw[hs.1,<-uS hl]at t1 t2;exact⟨by simpa only[eqD]using t1,by simpa only[eqD]using t2⟩
     ·have hsz:(its.toArray.size != its2.toArray.size)=true:=by rw[hs.1,hs.2];simpa using hl
      have e0:eqD (.lst ds) (.lst es)=false:=by
       simp only[eqD];cases q:eA ds es with
       |false=>rfl
       |true=>exact absurd (qD q) hl
      rw[e0];exact⟨RcAt.lists_lengths pt.isList pt2.isList hsz hu0,RcNeAt.lists_lengths pt.isList pt2.isList hsz hu0⟩
    exact⟨both rfl rfl rc.1,rc⟩
   |tup es =>
    obtain⟨b,ws,rfl,sq',rl'⟩:=id r2;cases q2;obtain⟨its2,rv2,pt2,_⟩:=I.tuple sq';simp only[eqD];exact⟨EqAt.list_tuple pt.isList pt2 hu0,RcAt.list_tuple pt.isList pt2 hu0,RcNeAt.list_tuple pt.isList pt2 hu0⟩
   |non=>obtain rfl:=r2.at q2;simp only[eqD];exact⟨EqAt.list_none pt.isList hu0,RcAt.list_none pt.isList hu0,RcNeAt.list_none pt.isList hu0⟩
   |bl b=>obtain rfl:=r2.at q2;simp only[eqD];exact⟨EqAt.list_bool _ pt.isList hu0,RcAt.list_bool _ pt.isList hu0,RcNeAt.list_bool _ pt.isList hu0⟩
   |int b=>obtain⟨t,rfl⟩:=r2.at q2;simp only[eqD];exact⟨EqAt.list_int _ _ pt.isList hu0,RcAt.list_int _ _ pt.isList hu0,RcNeAt.list_int _ _ pt.isList hu0⟩
   |str b=>obtain⟨t,rfl⟩:=r2.at q2;simp only[eqD];exact⟨EqAt.list_str _ _ pt.isList hu0,RcAt.list_str _ _ pt.isList hu0,RcNeAt.list_str _ _ pt.isList hu0⟩
   |_=>simp[dLe]at he
  |non =>
   cases e with
   |tup es =>
    obtain⟨b,ws,rfl,sq',rl'⟩:=id r2;cases q2;obtain⟨its2,rv2,pt2,_⟩:=I.tuple sq';obtain rfl:=r1.at q1;simp only[eqD];exact⟨EqAt.none_tuple pt2 hu0,RcAt.none_tuple pt2 hu0,RcNeAt.none_tuple pt2 hu0⟩
   |lst es =>
    obtain⟨b,ws,rfl,sq',rl'⟩:=id r2;cases q2;obtain⟨its2,rv2,pt2,_⟩:=I.list (SqL.of sq');obtain rfl:=r1.at q1;simp only[eqD];exact⟨EqAt.none_list pt2.isList hu0,RcAt.none_list pt2.isList hu0,RcNeAt.none_list pt2.isList hu0⟩
   |_=>first|(simp[dLe]at he;done)|exact ih (A:=A) (by lia) (by simp[dLe]) (by simp[dLe]) r1 r2 q1 q2
  |bl a =>
   cases e with
   |tup es =>
    obtain⟨b,ws,rfl,sq',rl'⟩:=id r2;cases q2;obtain⟨its2,rv2,pt2,_⟩:=I.tuple sq';obtain rfl:=r1.at q1;simp only[eqD];exact⟨EqAt.bool_tuple _ pt2 hu0,RcAt.bool_tuple _ pt2 hu0,RcNeAt.bool_tuple _ pt2 hu0⟩
   |lst es =>
    obtain⟨b,ws,rfl,sq',rl'⟩:=id r2;cases q2;obtain⟨its2,rv2,pt2,_⟩:=I.list (SqL.of sq');obtain rfl:=r1.at q1;simp only[eqD];exact⟨EqAt.bool_list _ pt2.isList hu0,RcAt.bool_list _ pt2.isList hu0,RcNeAt.bool_list _ pt2.isList hu0⟩
   |_=>first|(simp[dLe]at he;done)|exact ih (A:=A) (by lia) (by simp[dLe]) (by simp[dLe]) r1 r2 q1 q2
  |int a =>
   cases e with
   |tup es =>
    obtain⟨b,ws,rfl,sq',rl'⟩:=id r2;cases q2;obtain⟨its2,rv2,pt2,_⟩:=I.tuple sq';obtain⟨t,rfl⟩:=r1.at q1;simp only[eqD];exact⟨EqAt.int_tuple _ _ pt2 hu0,RcAt.int_tuple _ _ pt2 hu0,RcNeAt.int_tuple _ _ pt2 hu0⟩
   |lst es =>
    obtain⟨b,ws,rfl,sq',rl'⟩:=id r2;cases q2;obtain⟨its2,rv2,pt2,_⟩:=I.list (SqL.of sq');obtain⟨t,rfl⟩:=r1.at q1;simp only[eqD];exact⟨EqAt.int_list _ _ pt2.isList hu0,RcAt.int_list _ _ pt2.isList hu0,RcNeAt.int_list _ _ pt2.isList hu0⟩
   |_=>first|(simp[dLe]at he;done)|exact ih (A:=A) (by lia) (by simp[dLe]) (by simp[dLe]) r1 r2 q1 q2
  |str a =>
   cases e with
   |tup es =>
    obtain⟨b,ws,rfl,sq',rl'⟩:=id r2;cases q2;obtain⟨its2,rv2,pt2,_⟩:=I.tuple sq';obtain⟨t,rfl⟩:=r1.at q1;simp only[eqD];exact⟨EqAt.str_tuple _ _ pt2 hu0,RcAt.str_tuple _ _ pt2 hu0,RcNeAt.str_tuple _ _ pt2 hu0⟩
   |lst es =>
    obtain⟨b,ws,rfl,sq',rl'⟩:=id r2;cases q2;obtain⟨its2,rv2,pt2,_⟩:=I.list (SqL.of sq');obtain⟨t,rfl⟩:=r1.at q1;simp only[eqD];exact⟨EqAt.str_list _ _ pt2.isList hu0,RcAt.str_list _ _ pt2.isList hu0,RcNeAt.str_list _ _ pt2.isList hu0⟩
   |_=>first|(simp[dLe]at he;done)|exact ih (A:=A) (by lia) (by simp[dLe]) (by simp[dLe]) r1 r2 q1 q2
  |_=>simp[dLe]at hd
end
section
variable{X:Cx}{a b c e:M9}{es:List M9}{te ta tb:TEd}{pos:Pos}{st:ac2}{rest:List ac2}{t u:TSd}
def Am:TSd:=fun E Δ M=>E.nx Δ M
def BC(t u:TSd):TSd:=fun E Δ M=>t { E with nx:=u E } Δ M
def Ee(te:TEd):TSd:=fun E Δ M=>te Δ M E.rt
def zY(te:TEd):TSd:=fun E Δ M=>te Δ M fun _ M1=>E.nx Δ M1
def D5(c:TTd) (t u:TSd):TSd:=fun E Δ M=>c Δ M fun b M1=>if b=true then t E Δ M1 else u E Δ M1
def qq(i:Nat) (te:TEd):TSd:=fun E Δ M=>te Δ M fun d M1=>E.nx (Δ.set i (some d)) M1
def D6(i:Nat) (te:TEd) (r:D->D->Option D):TSd:=fun E Δ M=>∃x,Δ[i]?=some (some x)/\te Δ M fun y M1=>∃z,r (rdM M1 x) (rdM M1 y)=some z/\E.nx (Δ.set i (some z)) M1
def wB(i:Nat) (t:TSd):TSd:=fun E Δ M=>∃a ds,Δ[i]?=some (some (.ref a))/\M a=some (.lst ds)/\t E (Δ.set i (some (.lst ds))) (iq M a)
abbrev GD:=D->DE->Option DE
def PGd(X:Cx) (tg:M9) (g:GD):Prop:=∃gv:TG,PG X tg gv/\∀(d:D) (v:V) (σ:St) (Δ Δ':DE) (M:DH) (H:Hp) (Q:St->Hp->Prop),SR X.K M H σ Δ->HR X.K M H->Rep X.K M H d v->g d Δ=some Δ'->(∀ σ',SR X.K M H σ' Δ'->Q σ' H)->gv v σ H Q
def gU(i:Nat):GD:=fun d Δ=>some (Δ.set i (some d))
theorem aG{i:Nat}{x:Str}(hN:X.N.Nodup) (hi:X.N[i]?=some x) (hx:Loc X.env.scope x) (hf:X.fn x=true∨X.env.scope.names.lookup x=some .local:=by first|exact .inl rfl|exact .inr rfl|assumption):PGd X (.Name x pos) (gU i) :=
 ⟨nk i,tT hN hi hx hf,fun d v σ Δ Δ' M H Q sr hr rv e k=>by cases e;exact k _ (sr.set i rv)⟩
abbrev GDs:=List D->DE->Option DE
def zG(X:Cx) (tgs:List M9) (g:GDs):Prop:=∃gv:TGs,PGs X tgs gv/\∀(ds:List D) (vs:List V) (σ:St) (Δ Δ':DE) (M:DH) (H:Hp) (Q:St->Hp->Prop),SR X.K M H σ Δ->HR X.K M H->ao X.K M H ds vs->g ds Δ=some Δ'->(∀ σ',SR X.K M H σ' Δ'->Q σ' H)->gv vs σ H Q
def k8:GDs:=fun ds Δ=>match ds with|[]=>some Δ|_=>none
def gb(g:GD) (gs:GDs):GDs:=fun ds Δ=>match ds with|[]=>none|d::r=>(g d Δ).bind fun Δ1=>gs r Δ1
def jt(g:GDs) (n:Nat):GD:=fun d Δ=>match d with|.tup ds=>if ds.length=n then g ds Δ else none|_=>none
theorem fo:zG X [] k8:=⟨B4,sJ,fun ds vs σ Δ Δ' M H Q sr hr rv e k=>by
 cases ds with
 |nil=>simp only[ao]at rv;subst rv;cases e;exact⟨rfl,k _ sr⟩
 |cons _ _=>cases e⟩
theorem br{tg:M9}{tgs:List M9}{g:GD}{gs:GDs}(h1:PGd X tg g) (h2:zG X tgs gs)
  (hs:(U9 (tg::tgs) X.env).map (·.2)=ag8 tg X.env::(U9 tgs X.env).map (·.2):=by rfl):zG X (tg::tgs) (gb g gs):=by
 obtain⟨g1,p1,k1⟩:=h1;obtain⟨g2,p2,k2⟩:=h2;refine⟨wW g1 g2,qG p1 p2 hs,fun ds vs σ Δ Δ' M H Q sr hr rv e k=>?_⟩;cases ds with
 |nil=>cases e
 |cons d r =>
  simp only[ao]at rv;obtain⟨v,ws,rfl,h3,h4⟩:=rv;simp only[gb]at e;cases q:g d Δ with
  |none=>rw[q]at e;cases e
  |some Δ1 =>
   rw[q]at e;exact⟨v,ws,rfl,k1 d v σ Δ Δ1 M H _ sr hr h3 q fun σ1 sr1=>k2 r ws σ1 Δ1 Δ' M H Q sr1 hr h4 e k⟩
theorem ft{tgs:List M9}{kx:Nat}{g:GDs}{n:Nat}(hc:X.calm=true) (h:zG X tgs g) (hn:(U9 tgs X.env).length=n:=by rfl) (hst:(U9 tgs X.env).findIdx? (·.1)=none:=by rfl):PGd X (.Tuple tgs kx pos) (jt g n):=by
 obtain⟨g1,p1,k1⟩:=h;refine⟨A6 X.K n g1,va hc p1 hn hst,fun d v σ Δ Δ' M H Q sr hr rv e k=>?_⟩;cases d with
 |tup ds =>
  simp only[jt]at e
  by_cases hl:ds.length=n
  ·rw[if_pos hl]at e;simp only[Rep]at rv;obtain⟨a,vs,rfl,ta,rl⟩:=rv;exact⟨a,vs,rfl,ta.sq,by rw[<-rl.length];exact hl,k1 ds vs σ Δ Δ' M H Q sr hr rl e k⟩
  ·rw[if_neg hl]at e;cases e
 |_=>cases e
def Di(te:TEd) (g:GD):TSd:=fun E Δ M=>te Δ M fun d M1=>∃ Δ',g d Δ=some Δ'/\E.nx Δ' M1
abbrev TId:=DE->DH->(List D->DH->Prop)->Prop
def ItD(K:F2) (J:It) (ds:List D) (M1:DH) (H1:Hp):Prop:=∀M2 H2,Ext M1 H1 M2 H2->HR K M2 H2->∀i,(∀d,ds[i]?=some d->J.go i H2/\∀x H',J.yld i H2 x H'->Ext M2 H2 M2 H'/\HR K M2 H'/\Rep K M2 H' d x)/\(ds.length<=i->J.stop i H2)
def upI(K:F2) (wi:TId):TI:=fun σ H R=>∃(Δ:DE) (M:DH) (R':List D->DH->Prop),SR K M H σ Δ/\HR K M H/\wi Δ M R'/\∀ds M1 J H1,R' ds M1->Ext M H M1 H1->HR K M1 H1->ItD K J ds M1 H1->R J H1
theorem upI.el{K:F2}{t:TId}{σ:St}{H:Hp}{Q:It->Hp->Prop}{P:Prop}(h:upI K t σ H Q) (f:∀(Δ:DE) (M:DH) (R:List D->DH->Prop),SR K M H σ Δ->HR K M H->t Δ M R->(∀ds M1 J H1,R ds M1->Ext M H M1 H1->HR K M1 H1->ItD K J ds M1 H1->Q J H1)->P):P:=by
 obtain⟨x1,x2,x3,a,b,c,d⟩:=h;exact f x1 x2 x3 a b c d
def PId(X:Cx) (tg iter:M9) (wi:TId):Prop:=PI X tg iter (upI X.K wi)
theorem PI.conv{tg iter:M9}{w w':TI}(h:PI X tg iter w) (k:∀ σ H R,w' σ H R->w σ H R):PI X tg iter w':=fun p s σ H R I q=>h p s σ H R I (k σ H R q)
variable{tg iter:M9}
def sj(lo:Int) (n:Nat):List D:=(R8 n).map fun(k:Nat)=>.int (lo+(k:Int))
theorem cg{lo:Int}{n i:Nat}{d:D}(h:(sj lo n)[i]?=some d):i<n/\d=.int (lo+i):=by
 unfold sj at h;rw[J6]at h
 by_cases hi:i<n
 ·rw[List.getElem?_range hi]at h;cases h;exact⟨hi,rfl⟩
 ·rw[Z3 (by simp;omega)]at h;cases h
theorem yJ{K:F2}{lo:Int}{n:Nat}{M1:DH}{H1:Hp}:ItD K (Itr lo n) (sj lo n) M1 H1:=fun M2 H2 e2 hr2 i=>⟨fun d hd=>by
  obtain⟨h1,rfl⟩:=cg hd;refine⟨h1,fun x H' ⟨eH,y⟩=>?_⟩;subst eH;subst y;exact⟨Ext.refl _ _,hr2,by simp[Rep]⟩,fun hl=>by
  show n<=i;simpa[sj]using hl⟩
def uZ(ta:TAd):TId:=fun Δ M R=>ta Δ M fun ds M1=>∃j:Int,ds=[.int j]/\-(2 ^ 62)<=j/\j<2 ^ 62/\R (sj 0 j.toNat) M1
def fi(g:GD) (tb:TSd) (E:gj):List D->DE->DH->Prop
 |[],Δ,M=>E.nx Δ M
 |d::ds,Δ,M=>∃ Δ',g d Δ=some Δ'/\tb { E with nx:=fi g tb E ds,ct:=fi g tb E ds,bk:=E.nx } Δ' M
def DK(wi:TId) (g:GD) (tb:TSd):TSd:=fun E Δ M=>wi Δ M fun ds M1=>fi g tb E ds Δ M1
def vM(c:TTd) (tb:TSd):TSd:=fun E Δ M=>∃W:Nat->DE->DH->Prop,(∃m,W m Δ M)/\∀m Δ M,W m Δ M->c Δ M fun b M1=>if b=true then tb { E with nx:=fun Δ' M'=>∃m',m'<m/\W m' Δ' M',ct:=fun Δ' M'=>∃m',m'<m/\W m' Δ' M',bk:=E.nx } Δ M1 else E.nx Δ M1
end
def sZ:D->Prop
 |.tup ds=>ds.length<=F7
 |.lst ds=>ds.length<=F7
 |.scr ds=>ds.length<=F7
 |_=>True
section
variable{X:Cx}{a b c e:M9}{es:List M9}{te ta tb:TEd}{pos:Pos}{tg iter elt:M9}
theorem aT.len{K:F2}{ae:List (J7×Obj)}{σ:St}{H:Hp}{s:F4}{M:DH}{d:D}{v:V}(I:Inv X ae σ H s) (h:Rep X.K M H d v):sZ d:=by
 cases d with
 |tup ds =>
  simp only[Rep]at h;obtain⟨a,vs,e,t,r⟩:=h;obtain⟨_,_,_,z⟩:=I.tuple t.sq;simp only[sZ];rw[r.length];exact z
 |lst ds =>
  simp only[Rep]at h;obtain⟨a,vs,e,t,r⟩:=h;obtain⟨_,_,_,z⟩:=I.list (SqL.of t.1);simp only[sZ];rw[r.length];exact z
 |scr ds =>
  simp only[Rep]at h;obtain⟨a,vs,e,t,r⟩:=h;obtain⟨_,_,_,z⟩:=I.list t.sq;simp only[sZ];rw[r.length];exact z
 |_=>trivial
noncomputable def cI:List Bool->DE->DE
 |true::ms,v::σ=>v::cI ms σ
 |false::ms,_::σ=>none::cI ms σ
 |[],_::σ=>none::cI [] σ
 |_,[]=>[]
def nL(ms:List Bool) (k:Nat) (Δ:DE):DE:=cI ms Δ++I0 k none
theorem dm:∀(ms:List Bool) (σ:DE),(cI ms σ).length=σ.length
 |true::ms,v::σ=>by simp[cI,dm ms σ]
 |false::ms,_::σ=>by simp[cI,dm ms σ]
 |[],_::σ=>by simp[cI,dm [] σ]
 |[],[]=>by simp[cI]
 |true::_,[]=>by simp[cI]
 |false::_,[]=>by simp[cI]
theorem g9:∀{ms:List Bool}{σ:DE}{i:Nat}{v:D},(cI ms σ)[i]?=some (some v)->ms[i]?=some true/\σ[i]?=some (some v)
 |true::ms,v::σ,0,x,h=>by simpa[cI]using h
 |true::ms,v::σ,i+1,x,h=>by
  have:=g9 (ms:=ms) (σ:=σ) (i:=i) (v:=x) (by simpa[cI]using h);simpa using this
 |false::ms,_::σ,0,x,h=>by simp[cI]at h
 |false::ms,_::σ,i+1,x,h=>by
  have:=g9 (ms:=ms) (σ:=σ) (i:=i) (v:=x) (by simpa[cI]using h);simpa using this
 |[],_::σ,0,x,h=>by simp[cI]at h
 |[],_::σ,i+1,x,h=>by
  have:=g9 (ms:=[]) (σ:=σ) (i:=i) (v:=x) (by simpa[cI]using h);simpa using this
 |[],[],_,_,h=>by simp[cI]at h
 |true::_,[],_,_,h=>by simp[cI]at h
 |false::_,[],_,_,h=>by simp[cI]at h
theorem iS:∀{ms:List Bool}{σ:St}{i:Nat}{v:V},ms[i]?=some true->σ[i]?=some (some v)->(bS ms σ)[i]?=some (some v)
 |true::ms,v::σ,0,x,h,h2=>by simpa[bS]using h2
 |true::ms,v::σ,i+1,x,h,h2=>by
  have:=iS (ms:=ms) (σ:=σ) (i:=i) (v:=x) (by simpa using h) (by simpa using h2);simpa[bS]using this
 |false::ms,_::σ,0,x,h,h2=>by simp at h
 |false::ms,_::σ,i+1,x,h,h2=>by
  have:=iS (ms:=ms) (σ:=σ) (i:=i) (v:=x) (by simpa using h) (by simpa using h2);simpa[bS]using this
 |[],_,_,_,h,_=>by simp at h
 |_::_,[],_,_,_,h=>by simp at h
theorem SR.comp{K:F2}{M:DH}{H:Hp}{σ:St}{Δ:DE}(ms:List Bool) (k:Nat) (h:SR K M H σ Δ):SR K M H (fv ms k σ) (nL ms k Δ):=by
 refine⟨by simp[fv,nL,bY,dm,h.1],fun i d q=>?_⟩;unfold nL at q
 by_cases hi:i<(cI ms Δ).length
 ·rw[O1 hi]at q;obtain⟨m,e⟩:=g9 q;obtain⟨v,ev,rv⟩:=h.2 i d e;refine⟨v,?_,rv⟩;have:=iS m ev;unfold fv;rw[O1 (by rw[bY,h.1,<-dm ms];exact hi)];exact this
 ·rw[U8 (by lia),U1]at q
  split at q<;>cases q
def dN(g:GD) (tc:TTd) (te:TEd):List D->DE->DH->List D->(List D->DH->Prop)->Prop
 |[],_,M,acc,Q=>Q acc M
 |d::ds,Δ,M,acc,Q=>∃ Δ',g d Δ=some Δ'/\tc Δ' M fun b M1=>if b=true then te Δ' M1 fun y M2=>dN g tc te ds Δ' M2 (acc++[y]) Q else dN g tc te ds Δ' M1 acc Q
def dLc(ms:List Bool) (k:Nat) (wi:TId) (g:GD) (tc:TTd) (te:TEd):TEd:=fun Δ M Q=>wi Δ M fun ds M1=>ds.length<=F7/\dN g tc te ds (nL ms k Δ) M1 [] fun ys M2=>Q (.lst ys) M2
def Dh(X:Cx) (ifs:List M9) (t:TTd):Prop:=PIf X ifs (upT X.K t)
def vR:TTd:=fun _ M Q=>Q true M
abbrev lD(K:F2) (g:GD) (gv:TG):Prop:=∀(d:D) (v:V) (σ:St) (Δ Δ':DE) (M:DH) (H:Hp) (Q:St->Hp->Prop),SR K M H σ Δ->HR K M H->Rep K M H d v->g d Δ=some Δ'->(∀ σ',SR K M H σ' Δ'->Q σ' H)->gv v σ H Q
theorem yz{K:F2}{g:GD}{tc:TTd}{te:TEd}{gv:TG}(kg:lD K g gv) {J:It}{ds:List D}{M1:DH}{H1:Hp}(it:ItD K J ds M1 H1) (hr1:HR K M1 H1) (hz:ds.length<=F7) {R:List D->DH->Prop}{σ:St}{Δ:DE}(sr:SR K M1 H1 σ Δ) (q:dN g tc te ds Δ M1 [] R) :
  ∃(W:Nat->Nat->List V->St->Hp->Prop) (Z:List V->St->Hp->Prop),(∃m,W 0 m [] σ H1)/\jU J gv (upT K tc) (ku (up K te)) W Z/\∀ys σ' H',Z ys σ' H'->∃M' acc,Ext M1 H1 M' H'/\HR K M' H'/\ao K M' H' acc ys/\R acc M':=by
 refine⟨fun i m ys σ' H'=>∃ Δ' M' acc,m=ds.length-i/\i<=ds.length/\Ext M1 H1 M' H'/\HR K M' H'/\SR K M' H' σ' Δ'/\ao K M' H' acc ys/\acc.length<=i/\dN g tc te (ds.drop i) Δ' M' acc R,_,
  ⟨ds.length,_,M1,[],by simp,P6 _,Ext.refl _ _,hr1,sr,ao.nil,by simp,q⟩,?_,fun _ _ _ z=>z⟩
 rintro i m ys σ2 H2 ⟨Δ2,M2,acc,rfl,hi2,e2,hr2,sr2,ra,la,f2⟩;have hl:ys.length<=F7:=by rw[<-ra.length];lia
 refine⟨hl,?_⟩;obtain⟨go,stop⟩:=it M2 H2 e2 hr2 i
 by_cases hlt:i<ds.length
 ·have hd:ds[i]?=some ds[i]:=by simp[hlt]
  obtain⟨g1,y1⟩:=go _ hd;rw[aa3 hlt]at f2;simp only[dN]at f2;obtain⟨Δ3,eg,f3⟩:=f2;refine .inr ⟨g1,fun x H' hy=>?_⟩;obtain⟨e3,hr3,rx⟩:=y1 x H' hy;refine kg _ x σ2 Δ2 Δ3 M2 H' _ (sr2.ext e3) hr3 rx eg fun σ3 sr3=>?_;refine⟨Δ3,M2,_,sr3,hr3,f3,fun b M4 H4 q4 e4 hr4=>?_⟩;cases b with
  |true =>
   simp only[if_true]at q4 ⊢;refine⟨Δ3,M4,_,sr3.ext e4,hr4,q4,fun y M5 v5 H5 q5 e5 hr5 rv5=>?_⟩;refine⟨ds.length-(i+1),by lia,Δ3,M5,acc++[y],rfl,hlt,((e2.trans e3).trans e4).trans e5,hr5,(sr3.ext e4).ext e5,(((ra.ext e3).ext e4).ext e5).append (ao.cons rv5 ao.nil),by simp;lia,q5⟩
  |false =>
   simp only[K1,if_false]at q4 ⊢;exact⟨ds.length-(i+1),by lia,Δ3,M4,acc,rfl,hlt,(e2.trans e3).trans e4,hr4,sr3.ext e4,(ra.ext e3).ext e4,by lia,q4⟩
 ·rw[ad7 (by lia)]at f2;exact .inl ⟨stop (by lia),M2,acc,e2,hr2,ra,f2⟩
theorem tG{K:F2}{wi:TId}{g:GD}{tc:TTd}{te:TEd}{gv:TG}{ms:List Bool}{kk:Nat}(kg:lD K g gv) :
  ∀ σ H Q,up K (dLc ms kk wi g tc te) σ H Q->tLc ms kk (upI K wi) gv (upT K tc) (up K te) σ H Q:=by
 rintro σ H Q ⟨Δ,M,R,sr,hr,q,k⟩;refine⟨Δ,M,_,sr,hr,q,fun ds M1 J H1 ⟨hz,q1⟩ e1 hr1 it=>?_⟩;obtain⟨W,Z,hW,hC,hZ⟩:=yz kg it hr1 hz ((sr.ext e1).comp ms kk) q1;refine⟨W,Z,hW,hC,fun ys σ' H' p z hp=>?_⟩;obtain⟨M',acc,e',hr',ra,q'⟩:=hZ _ _ _ z;refine k _ M' _ _ q' ((e1.trans e').trans (Ext.new hr' hp)) (hr'.new hp) ?_;simp only[Rep];exact⟨p,ys,rfl,⟨bg,hr'.fresh hp⟩,ra.ext (Ext.new hr' hp)⟩
variable{scope:aa1}{cl:List (Str×J7)}{ms:List Bool}{ai:List Str}{ifs:List M9}
def PGa(X:Cx) (scope:aa1) (cl:List (Str×J7)) (ai:List Str) (tg:M9) (g:GD):Prop:=∃gv:TG,(∀C s H ex,PG (ax X scope cl (X.N++ai) C s H ex) tg gv)/\lD X.K g gv
theorem az{i:Nat}{x:Str}{pos:Pos}(hN:(X.N++ai).Nodup) (hi:(X.N++ai)[i]?=some x) (hx:(relabel scope X.env).names.lookup x=some .local):PGa X scope cl ai (.Name x pos) (gU i) :=
 ⟨nk i,fun C s H ex=>tT hN hi (.inl hx) (.inr hx),fun d v σ Δ Δ' M H Q sr hr rv e k=>by cases e;exact k _ (sr.set i rv)⟩
end
abbrev SpD:=List D->DH->(D->DH->Prop)->Prop
def spD(K:F2) (n:Nat) (S:SpD):Sp:=fun vs H Q _=>∃(ds:List D) (M:DH) (R:D->DH->Prop),ds.length=n/\ao K M H ds vs/\HR K M H/\S ds M R/\∀d M' v H',R d M'->Ext M H M' H'->HR K M' H'->Rep K M' H' d v->Q v H'
theorem zT{K:F2}{n:Nat}{S:SpD}{vs:List V}{H:Hp}{Q:VK}{E:XK}(h:spD K n S vs H Q E):vs.length=n:=by
 obtain⟨ds,M,R,hl,r,_⟩:=h;rw[<-r.length];exact hl
def iT(N:List Str) (ds:List D):DE:=ds.map some++I0 (N.length-ds.length) none
theorem wN{K:F2}{M:DH}{H:Hp}{N:List Str}:∀{ds:List D}{vs:List V},ao K M H ds vs->SR K M H (gk N vs) (iT N ds):=by
 intro ds vs h;have hl:=h.length;refine⟨by simp[gk,iT,hl],fun i d q=>?_⟩;unfold iT at q
 by_cases hi:i<ds.length
 ·rw[O1 (by simpa using hi),J6]at q;cases e:ds[i]? with
  |none=>rw[e]at q;cases q
  |some d' =>
   rw[e]at q;cases q;obtain⟨v,gv,rv⟩:=h.get e;refine⟨v,?_,rv⟩;unfold gk;rw[O1 (by simp;lia),J6,gv];rfl
 ·rw[U8 (by simpa using hi),U1]at q
  split at q<;>cases q
section
variable{P:L1}{w:P9}{K:F2}{mg:Str->Option F3}{base:K7}{f:J7}{fd:L8}
theorem Fun.okD{x qual:Str}{st:ac2}{f:J7}{fd:L8}{N ps:List Str}{k n:Nat}{S:SpD}(F:Fun K x qual st f fd) (hn:ps.length=n) (Sc:aB N ps (aj st))
  (hbody:∀ (cdv:F3) (A:O0) (outer:List Env) (s:F4) (H:Hp) (E:XK),cU k (A.deeper (an0 qual (aj st) s.heap.objs.size f cdv)) →
   ∃t:TSd,ym (qa CX0 P w K mg base N qual (aj st) f cdv A outer s H E).nox (dG st) t/\∀ds M R,ds.length=n->S ds M R->t { nx:=fun _ M'=>R .non M',rt:=R } (iT N ds) M):bA P w K mg base CX0 (k+1) f fd ps (spD K n S):=by
 refine F.ok Sc (fun vs H Q E h=>by rw[hn];exact zT h) (fun cdv A outer s H vs Q E hr h=>?_);obtain⟨t,ht,hq⟩:=hbody cdv A outer s H E hr;obtain⟨ds,M,R,hl,r,hrr,q,k'⟩:=h;refine⟨_,ht,iT N ds,M,_,wN r,hrr,hq ds M R hl q,⟨fun Δ' M' σ' H' q' e' hr' _=>k' .non M' .non H' q' e' hr' (by simp[Rep]),fun _ _ _ _ q'=>aa9 q',fun _ _ _ _ q'=>aa9 q',fun d M' v H' q' e' hr' rv=>k' d M' v H' q' e' hr' rv⟩⟩
end
section
variable{X:Cx}{a b c e:M9}{es:List M9}{te ta tb:TEd}{t:TAd}{pos:Pos}
def qg(n:Nat) (S:SpD) (t:TAd):TEd:=fun Δ M Q=>t Δ M fun ds M1=>ds.length=n/\S ds M1 Q
theorem BV{k:Nat}{f:J7}{fd:L8}{ps:List Str}{n:Nat}{S:SpD}{x:Str}{p:Pos}(F:bA X.prog X.w X.K X.mg X.base CX0 k f fd ps (spD X.K n S)) (hr:cU k X.A) (hg:Gl X x) (hm:X.mg x=some (.ref f)) (hk:af8 X.K (.ref f)=true) (hb:fb X.K fd ps [])
  (ha:PAd X (e::es) t) (hdb:(x==("__debug__":Str))=false:=by decide) (he:K4 (e::es) X.env=(false,ad3 e X.env)::K4 es X.env:=by rfl) (hpl:(V7 pos (K4 es X.env)).any (·.1)=false:=by rfl) :
  PEd X (.Call (.Name x p) (e::es) [] pos) (qg n S t) :=
 (yB F hr hg hm hk hb .nil CW ha hdb he hpl).conv fun σ H Q hup => hup.el fun Δ M R sr hr q k => ⟨Δ,M,_,sr,hr,q,fun ds M1 vs H1 ⟨hl,q1⟩ e1 hr1 rv => by
  dsimp only;rw[V5];exact⟨ds,M1,R,hl,rv,hr1,q1,fun d M' v H' q' e' hr' rv'=>k d M' v H' q' (e1.trans e') hr' rv'⟩⟩
def CU(to ti te:TEd):TSd:=fun E Δ M=>te Δ M fun d M1=>to Δ M1 fun o M2=>ti Δ M2 fun i M3=>∃a ds k j,o=.ref a/\i=.int k/\M3 a=some (.lst ds)/\ixN ds.length k=some j/\E.nx Δ (aH M3 a (.lst (ds.set j d)))
def D1(to te:TEd):TEd:=fun Δ M Q=>to Δ M fun o M1=>∃a l,o=.ref a/\M1 a=some (.lst l)/\te Δ M1 fun d M2=>∃ds,M2 a=some (.lst ds)/\ds.length<F7/\Q .non (aH M2 a (.lst (ds++[d])))
end
def ItW(n:Nat) (Vp:Nat->V->Prop):It:=⟨fun i _=>i<n,fun i H x H'=>H'=H/\Vp i x,fun i _=>n<=i⟩
theorem ur{P:L1}{w:P9}{K:F2}{tg:M9}{it:J7}{n:Nat}{Pv:Nat->F3->Prop}{St:Nat->K7->Prop}{ty:String}{Vp:Nat->V->Prop}
  (W:∀A:O0,A.handled=none->ap4 P w A it [it] [it] n Pv St) (ho:∀i h,St i h->∃o,h.get? it=some o/\o.cls=.type ty/\∃vs,o.data=.fields vs)
  (hn:["enumerate","zip","dict_itemiterator","dict_reverseitemiterator","odict_iterator","itertools.zip_longest","itertools.pairwise"].contains ty=false)
  (hv:∀i u,Pv i u->∃x,aN x u/\Vp i x) (hself:∀(A:O0) (i:Nat) (s:F4) (Q:F3->F4->Prop) (E:F3->F4->Prop),St i s.heap->Q (.ref it) s->K2 (L5 P w) A (am3 (.ref it)) Q E s):mF P w K tg (ItW n Vp) [it] it (fun i h=>i<=n/\St i h) where
 mem:=by simp
 obj:=fun i h st b hb=>by
  have e:b=it:=by simpa using hb
  subst e;obtain⟨o,e,c,vs,d⟩:=ho i h st.2;exact⟨o,e,fun v z=>by rw[d]at z;cases z⟩
 keep:=fun i h h' st k=>⟨st.1,(W { handled:=none } rfl).frame i h h' st.2 k⟩
 item:=by
  intro X hP hw hK hc i ae s σ H E I hf st hg;subst hP hw hK;obtain⟨f0,f1,f2,f3,f4,f5⟩:=hf it (by simp);refine(W X.A (I.ok.hd hc)).item i s _ _ hg st.2 fun v h' tk pv st' kk=>?_;have I1:Inv X ae σ H { s with heap:=h',toks:=tk }:=I.turned (fun b o hb e=>kk b o (by simpa using hb) e) f0 f1 f3 f4 f5;obtain⟨x,rx,vx⟩:=hv i v pv;obtain⟨o,e,c,vs,d⟩:=ho _ _ st';exact⟨v,rfl,sW (s:={ s with heap:=h',toks:=tk }) e c d hn ⟨x,H,I1,rx,⟨rfl,vx⟩,⟨hg,st'⟩,fun b hb=>(hf b hb).1⟩⟩
 done:=by
  intro X hP hw hK hc i ae s σ H E I hf st hg;subst hP hw hK;obtain⟨f0,f1,f2,f3,f4,f5⟩:=hf it (by simp);have e:i=n:=Nat.le_antisymm st.1 hg;subst e;exact(W X.A (I.ok.hd hc)).done s _ _ st.2 fun h' tk kk=>⟨rfl,I.turned (fun b o hb e=>kk b o (by simpa using hb) e) f0 f1 f3 f4 f5⟩
 self:=fun A i s Q E st h=>hself A i s Q E st.2 h
section
variable{X:Cx}{a b c e:M9}{es:List M9}{te ta tb:TEd}{t:TAd}{pos:Pos}{tg iter:M9}
noncomputable def fH(x:Str):List D:=x.cps.toList.map fun c=>.str ⟨#[c]⟩
theorem tm{ae:List (J7×Obj)}{σ:St}{H:Hp}{s:F4}{x:Str}{t:Tok}{R:It->Hp->Prop}(I:Inv X ae σ H s) (ty:String) (hn:["enumerate","zip","dict_itemiterator","dict_reverseitemiterator","odict_iterator","itertools.zip_longest","itertools.pairwise"].contains ty=false)
  (W:∀A:O0,A.handled=none->ap4 X.prog X.w A s.heap.objs.size [s.heap.objs.size] [s.heap.objs.size] x.cps.size (SignAt x) (fun i h=>h.IsStrIter s.heap.objs.size ty x t i))
  (hself:∀(A:O0) (i:Nat) (s':F4) (Q:F3->F4->Prop) (E:F3->F4->Prop),s'.heap.IsStrIter s.heap.objs.size ty x t i->Q (.ref s.heap.objs.size) s'->K2 (L5 X.prog X.w) A (am3 (.ref s.heap.objs.size)) Q E s')
  (q:R (ItW x.cps.size fun i v=>∃c,x.cps[i]?=some c/\v=.str ⟨#[c]⟩) H):PIE X ae σ tg R (.ref s.heap.objs.size) { s with heap:=s.heap.push { cls:=.type ty,data:=.fields #[.str x t,.int 0 0] } }:=by
 have I1:Inv X ae σ H { s with heap:=s.heap.push { cls:=.type ty,data:=.fields #[.str x t,.int 0 0] } }:=I.kept (t':=s.toks) fun b o e=>F0 _ e;refine⟨s.heap.objs.size,[s.heap.objs.size],_,_,H,rfl,I1,ur W (fun i h st=>?_) hn (fun i u ⟨c,t',e,ev⟩=>⟨.str ⟨#[c]⟩,⟨t',ev⟩,c,e,rfl⟩) hself,⟨P6 _,_,J3 _ rfl,rfl,rfl⟩,fun b hb=>?_,q⟩
 ·obtain⟨o,e,c,d⟩:=st;exact⟨o,e,c,_,d⟩
 ·have e:b=s.heap.objs.size:=by simpa using hb
  subst e;exact I.fpOk (F9 _) (I.hok.fresh (F9 _))
end
section
variable{X:Cx}{a b c e:M9}{es:List M9}{te ta tb:TEd}{t:TAd}{pos:Pos}
def eqF(x y:D):Option D:=if dLe x 60=true/\dLe y 60=true then some (.bl (eqD x y))else none
theorem vP{x y z:D}(h:eqF x y=some z):dLe x 60=true/\dLe y 60=true/\z=.bl (eqD x y):=by
 unfold eqF at h
 by_cases hc:dLe x 60=true/\dLe y 60=true
 ·rw[if_pos hc]at h;cases h;exact⟨hc.1,hc.2,rfl⟩
 ·rw[if_neg hc]at h;cases h
theorem eU(hu:X.A.units+64<ai7):cw X (Q5 .Eq) eqF:=by
 intro ae s σ H M x y v u dx dy dz Q I hr rx ry r1 r2 e k;obtain⟨h1,h2,rfl⟩:=vP e;exact(qW I 60 (A:=X.A) (by lia) h1 h2 r1 r2 rx ry).2.1 X.prog X.w X.xe _ ⟨.bl (eqD dx dy),H,I,rfl,k _ H (Ext.refl _ _) hr (by simp[Rep])⟩
def inD(neg:Bool) (x y:D):Option D:=match y with
 |.lst ds=>if bI x=true/\ds.all bI=true then some (.bl (xor neg (ds.any fun d=>eqD d x)))else none
 |.tup ds=>if bI x=true/\ds.all bI=true then some (.bl (xor neg (ds.any fun d=>eqD d x)))else none
 |_=>none
theorem Ce{K:F2}{M:DH}{H:Hp}{d:D}{v:V}(h:bI d=true) (r:Rep K M H d v):v=toV d/\gD v=true:=by
 cases d<;>first|(simp only[Rep]at r;subst r;exact⟨rfl,rfl⟩)|cases h
theorem yC{x y:D}(hx:bI x=true) (hy:bI y=true):eqV (toV x) (toV y)=eqD x y:=by
 cases x<;>cases y<;>first|(simp[bI]at hx;done)|(simp[bI]at hy;done)|(simp[toV,eqV,eqD];done)
theorem gV{K:F2}{M:DH}{H:Hp}{x:D}(hx:bI x=true):∀{ds:List D}{vs:List V},ao K M H ds vs->ds.all bI=true->vs.all gD=true/\inV (toV x) vs=ds.any fun d=>eqD d x
 |[],_,h,_=>by simp only[ao]at h;subst h;simp[inV]
 |d::ds,_,h,ha=>by
  simp only[ao]at h;obtain⟨v,ws,rfl,h3,h4⟩:=h;rw[ah2,N1]at ha;obtain⟨e1,e2⟩:=Ce ha.1 h3;obtain⟨e3,e4⟩:=gV hx h4 ha.2;subst e1;refine⟨by rw[ah2,e2,e3];rfl,?_⟩;unfold inV at e4 ⊢;rw[V2,V2,e4,yC ha.1 hx]
theorem aT.scal{K:F2}{M:DH}{H:Hp}{d:D}{v:V}(h:bI d=true) (r:aT K M H d v):v=toV d/\gD v=true:=by
 cases d<;>first|(simp only[aT,Rep]at r;subst r;exact⟨rfl,rfl⟩)|cases h
theorem E5:cw X (Q5 .In) (inD false):=cw.of t9 fun H M x y dx dy dz Q hr r1 r2 e q=>by
 cases dy with
 |lst ds =>
  simp only[inD]at e
  by_cases hc:bI dx=true/\ds.all bI=true
  ·rw[if_pos hc]at e;cases e;obtain⟨l,vs,rfl,sq,rl⟩:=r2;obtain⟨e1,e2⟩:=aT.scal hc.1 r1;obtain⟨e3,e4⟩:=gV hc.1 rl hc.2;subst e1;refine⟨l,vs,rfl,.inl (SqL.of sq),e2,e3,q _ H (Ext.refl _ _) hr ?_⟩;rw[e4];simp[Rep]
  ·rw[if_neg hc]at e;cases e
 |tup ds =>
  simp only[inD]at e
  by_cases hc:bI dx=true/\ds.all bI=true
  ·rw[if_pos hc]at e;cases e;obtain⟨l,vs,rfl,sq,rl⟩:=r2;obtain⟨e1,e2⟩:=aT.scal hc.1 r1;obtain⟨e3,e4⟩:=gV hc.1 rl hc.2;subst e1;refine⟨l,vs,rfl,.inr sq,e2,e3,q _ H (Ext.refl _ _) hr ?_⟩;rw[e4];simp[Rep]
  ·rw[if_neg hc]at e;cases e
 |_=>cases e
theorem zt:cw X (Q5 .NotIn) (inD true):=cw.of o7 fun H M x y dx dy dz Q hr r1 r2 e q=>by
 cases dy with
 |lst ds =>
  simp only[inD]at e
  by_cases hc:bI dx=true/\ds.all bI=true
  ·rw[if_pos hc]at e;cases e;obtain⟨l,vs,rfl,sq,rl⟩:=r2;obtain⟨e1,e2⟩:=aT.scal hc.1 r1;obtain⟨e3,e4⟩:=gV hc.1 rl hc.2;subst e1;refine⟨l,vs,rfl,.inl (SqL.of sq),e2,e3,q _ H (Ext.refl _ _) hr ?_⟩;rw[e4];simp[Rep]
  ·rw[if_neg hc]at e;cases e
 |tup ds =>
  simp only[inD]at e
  by_cases hc:bI dx=true/\ds.all bI=true
  ·rw[if_pos hc]at e;cases e;obtain⟨l,vs,rfl,sq,rl⟩:=r2;obtain⟨e1,e2⟩:=aT.scal hc.1 r1;obtain⟨e3,e4⟩:=gV hc.1 rl hc.2;subst e1;refine⟨l,vs,rfl,.inr sq,e2,e3,q _ H (Ext.refl _ _) hr ?_⟩;rw[e4];simp[Rep]
  ·rw[if_neg hc]at e;cases e
 |_=>cases e
def lY(f:D->Option D):List D->Option D
 |[d]=>f d
 |_=>none
theorem i7{K:F2}{M:DH}{H:Hp}{d:D}{xs:List V}(h:X7 (aT K M H) [d] xs):∃v,xs=[v]/\aT K M H d v:=by
 cases h with
 |cons r t=>cases t;exact⟨_,rfl,r⟩
theorem cF{f:D->Option D}{ds:List D}{z:D}(h:lY f ds=some z):∃d,ds=[d]/\f d=some z:=by
 match ds,h with
 |[d],h=>exact⟨d,rfl,h⟩
noncomputable def uJ:D->Option D
 |.tup ds=>some (.int ds.length)
 |.lst ds=>some (.int ds.length)
 |.scr ds=>some (.int ds.length)
 |.str x=>if x.length<=F7 then some (.int x.length)else none
 |_=>none
theorem bc:bH X (.builtin "len") (lY uJ):=bH.of (dg.or o9 oF) fun H M xs ds dz Q hr rp e q=>by
 obtain⟨d,rfl,e0⟩:=cF e;clear e;have e:=e0;clear e0;obtain⟨v,rfl,r⟩:=i7 rp;cases d with
 |tup ds=>cases e;obtain⟨l,vs,rfl,sq,rl⟩:=r;exact .inl ⟨l,vs,rfl,.inr sq,q _ H (Ext.refl _ _) hr (by rw[<-rl.length];simp[Rep])⟩
 |lst ds=>cases e;obtain⟨l,vs,rfl,sq,rl⟩:=r;exact .inl ⟨l,vs,rfl,.inl (SqL.of sq),q _ H (Ext.refl _ _) hr (by rw[<-rl.length];simp[Rep])⟩
 |scr ds=>cases e;obtain⟨l,vs,rfl,sq,rl⟩:=r;exact .inl ⟨l,vs,rfl,.inl sq,q _ H (Ext.refl _ _) hr (by rw[<-rl.length];simp[Rep])⟩
 |str x =>
  simp only[uJ]at e
  by_cases hz:x.length<=F7
  ·rw[if_pos hz]at e;cases e;exact .inr ⟨x,by rw[mG r],hz,q _ H (Ext.refl _ _) hr (by simp[Rep])⟩
  ·rw[if_neg hz]at e;cases e
 |_=>cases e
def Cy:D->Option D
 |.int i=>some (.int (if i<0 then -i else i))
 |_=>none
theorem pW:bH X (.builtin "abs") (lY Cy):=bH.of xG fun H M xs ds dz Q hr rp e q=>by
 obtain⟨d,rfl,e0⟩:=cF e;clear e;have e:=e0;clear e0;obtain⟨v,rfl,r⟩:=i7 rp;cases d with
 |int i=>cases e;exact⟨i,by rw[fG r],q _ H (Ext.refl _ _) hr (by simp[Rep])⟩
 |_=>cases e
def BW:D->Option D
 |.lst ds=>some (.tup ds)
 |.tup ds=>some (.tup ds)
 |_=>none
theorem cm:bH X (.type "tuple") (lY BW):=bH.of mN fun H M xs ds dz Q hr rp e q=>by
 obtain⟨d,rfl,e0⟩:=cF e;clear e;have e:=e0;clear e0;obtain⟨v,rfl,r⟩:=i7 rp;cases d with
 |lst ds=>cases e;obtain⟨l,vs,rfl,sq,rl⟩:=r;exact⟨l,vs,rfl,.inl ⟨SqL.of sq,fun p hp=>nZ hr hp rl q⟩⟩
 |tup ds=>cases e;have t1:=aT.tup hr r;obtain⟨l,vs,rfl,sq,rl⟩:=r;exact⟨l,vs,rfl,.inr ⟨sq,q _ H (Ext.refl _ _) hr t1⟩⟩
 |_=>cases e
def CG:D->Option D
 |.lst ds=>some (.lst ds)
 |.scr ds=>some (.lst ds)
 |.tup ds=>some (.lst ds)
 |_=>none
theorem oT:bH X (.type "list") (lY CG):=bH.of jv fun H M xs ds dz Q hr rp e q=>by
 obtain⟨d,rfl,e0⟩:=cF e;clear e;have e:=e0;clear e0;obtain⟨v,rfl,r⟩:=i7 rp;cases d with
 |lst ds=>cases e;obtain⟨l,vs,rfl,sq,rl⟩:=r;exact⟨l,vs,rfl,.inl (SqL.of sq),fun p hp=>eM hr hp rl q⟩
 |scr ds=>cases e;obtain⟨l,vs,rfl,sq,rl⟩:=r;exact⟨l,vs,rfl,.inl sq,fun p hp=>eM hr hp rl q⟩
 |tup ds=>cases e;obtain⟨l,vs,rfl,sq,rl⟩:=r;exact⟨l,vs,rfl,.inr sq,fun p hp=>eM hr hp rl q⟩
 |_=>cases e
def mU:D->Bool
 |.bl _=>true
 |_=>false
def vQ:D->Bool
 |.bl b=>b
 |_=>false
def yK:D->Option D
 |.lst ds=>if ds.all mU=true then some (.bl (ds.all vQ))else none
 |_=>none
theorem uM{p:Nat->Bool}{q:D->Bool}:∀{ds:List D},(∀i d,ds[i]?=some d->p i=q d)->(R8 ds.length).all p=ds.all q:=by
 intro ds h;rw[ab8,M7,M7];constructor
 ·intro hh d hd;obtain⟨i,hi,e⟩:=W1.mp hd;rw[<-h i d (by rw[u8 hi,e])];exact hh i (aa0.mpr hi)
 ·intro hh i hi;have hi:=aa0.mp hi;rw[h i ds[i] (by simp[hi])];exact hh _ (P3 hi)
theorem wm{K:F2}{M:DH}{H:Hp}{ds:List D}{vs:List V}{us:List F3}(rl:ao K M H ds vs) (rv:ay vs us) (hb:ds.all mU=true) {i:Nat}{u:F3}(h:us[i]?=some u):∃d,ds[i]?=some d/\u=.bool (vQ d):=by
 have hi:i<ds.length:=by rw[rl.length,rv.length];exact(F8.mp h).1
 obtain⟨v,g,r⟩:=rl.get (i:=i) (d:=ds[i]) (by simp[hi]);obtain⟨u',g',r'⟩:=rv.get g;rw[h]at g';cases g';have hbi:=M7.mp hb ds[i] (P3 hi);refine⟨ds[i],by simp[hi],?_⟩;cases q:ds[i]with
 |bl b=>rw[q]at r;simp only[Rep]at r;subst r;exact r'
 |_=>rw[q]at hbi;cases hbi
theorem gp(hc:X.calm=true):bH X (.builtin "all") (lY yK):=by
 intro ae s σ H M xs us ds dz Q I hr rv rp e k;obtain⟨d,rfl,e0⟩:=cF e;clear e;have e:=e0;clear e0;obtain⟨v,rfl,r⟩:=i7 rp;obtain⟨u,rfl,ru⟩:=ay.one rv;cases d with
 |lst ds =>
  simp only[yK]at e
  by_cases hb:ds.all mU=true
  ·rw[if_pos hb]at e;cases e;obtain⟨l,vs,rfl,sq,rl⟩:=r;cases ru;obtain⟨its,rv,pl,hz⟩:=I.list (SqL.of sq);have hne:l≠s.heap.objs.size:=K0 (I.hok.lt sq);refine call_all_walk (V1 pl.isList ⟨s.heap.objs.size,[s.heap.objs.size,l],[s.heap.objs.size],its.toArray.size,_,_,fun i=>(ds[i]?.map vQ).getD false,rfl,ap4.list (A:=X.A.in1) (show X.A.in1.handled=none from I.ok.hd hc) s.heap.objs.size l hne its.toArray,⟨⟨_,J3 _ rfl,rfl,rfl⟩,?_⟩,fun i v s' Q' E' hv q=>?_,fun h' tk kk=>?_⟩)
   ·obtain⟨o,e,c⟩:=pl.isList;exact⟨o,F0 _ e,c⟩
   ·obtain⟨d,hd,rfl⟩:=wm rl rv hb (i:=i) (u:=v) (by simpa using hv);dsimp only at q;rw[hd]at q;exact aa8 q
   ·have I1:Inv X ae σ H { s with heap:=h',toks:=tk }:=I.kept (t':=tk) fun b o e=>kk b o (by simpa using K0 (J4 e)) (F0 _ e);refine⟨.bl _,H,I1,rfl,k _ H (Ext.refl _ _) hr ?_⟩;rw[J0,<-rv.length,<-rl.length,uM (q:=vQ) (fun i d hd=>by simp[hd])];simp[Rep]
  ·rw[if_neg hb]at e;cases e
 |_=>cases e
end
section
variable{X:Cx}{a b c e:M9}{es:List M9}{te ta tb:TEd}{t:TAd}{pos:Pos}
noncomputable def vF(T:String):D->Option Bool
 |.non=>some false
 |.bl _=>some (T=="bool" || T=="int")
 |.int _=>some (T=="int")
 |.str _=>some (T=="str")
 |.tup _=>some (T=="tuple")
 |.lst _=>some (T=="list")
 |.emp=>some (T=="dict")
 |_=>none
def okT(T:String):Bool:=T=="bool" || T=="int" || T=="str" || T=="tuple" || T=="list"
def CB(T:String) (te:TEd):TEd:=fun Δ M Q=>te Δ M fun d M1=>∃k,vF T (rdM M1 d)=some k/\Q (.bl k) M1
theorem ub{T:String}(hT:okT T=true) {ae:List (J7×Obj)}{s:F4}{σ:St}{H:Hp}{M:DH}{v:V}{u:F3}{d:D}{k:Bool}{Q:VK}(I:Inv X ae σ H s) (r:aN v u) (rd:aT X.K M H d v) (e:vF T d=some k) (q:Q (.bl k) H) :
  K2 (L5 X.prog X.w) X.A (call (.builtin "isinstance") [u,.type T]) (EP X ae σ Q) X.xe s:=by
 have fin:∀{k'} ,k=k'->EP X ae σ Q (.bool k') s:=fun e=>by subst e;exact⟨.bl k,H,I,rfl,q⟩
 have fint:∀{k'} ,k=k'->EP X ae σ Q (.bool k') { s with toks:=s.toks+1 }:=fun e=>by subst e;exact⟨.bl k,H,I.tok _,rfl,q⟩
 have h5:T="bool"∨T="int"∨T="str"∨T="tuple"∨T="list":=by
  simp[okT]at hT;rcases hT with(((h|h)|h)|h)|h<;>simp[h]
 cases d with
 |non =>
  simp only[aT,Rep]at rd;subst rd;simp only[aN]at r;subst r;cases e;rcases h5 with rfl|rfl|rfl|rfl|rfl
  ·exact IsiPair.NoneType_bool (fint rfl)
  ·exact IsiPair.NoneType_int (fint rfl)
  ·exact IsiPair.NoneType_str (fint rfl)
  ·exact IsiPair.NoneType_tuple (fint rfl)
  ·exact IsiPair.NoneType_list (fint rfl)
 |bl b =>
  simp only[aT,Rep]at rd;subst rd;simp only[aN]at r;subst r;cases e;rcases h5 with rfl|rfl|rfl|rfl|rfl
  ·exact IsiPair.bool_bool (fin rfl)
  ·exact IsiPair.bool_int (fin rfl)
  ·exact IsiPair.bool_str (fint rfl)
  ·exact IsiPair.bool_tuple (fint rfl)
  ·exact IsiPair.bool_list (fint rfl)
 |int i =>
  simp only[aT,Rep]at rd;subst rd;obtain⟨t,rfl⟩:=r;cases e;rcases h5 with rfl|rfl|rfl|rfl|rfl
  ·exact IsiPair.int_bool (fint rfl)
  ·exact IsiPair.int_int (fin rfl)
  ·exact IsiPair.int_str (fint rfl)
  ·exact IsiPair.int_tuple (fint rfl)
  ·exact IsiPair.int_list (fint rfl)
 |str x =>
  simp only[aT,Rep]at rd;subst rd;obtain⟨t,rfl⟩:=r;cases e;rcases h5 with rfl|rfl|rfl|rfl|rfl
  ·exact IsiPair.str_bool (fint rfl)
  ·exact IsiPair.str_int (fint rfl)
  ·exact IsiPair.str_str (fin rfl)
  ·exact IsiPair.str_tuple (fint rfl)
  ·exact IsiPair.str_list (fint rfl)
 |tup ds =>
  obtain⟨a,vs,rfl,sq,rl⟩:=rd;cases r;cases e;obtain⟨its,rv,⟨o,ho,hc,_⟩,_⟩:=I.tuple sq;rcases h5 with rfl|rfl|rfl|rfl|rfl
  ·exact IsiPair.tuple_bool ho hc (fint rfl)
  ·exact IsiPair.tuple_int ho hc (fint rfl)
  ·exact IsiPair.tuple_str ho hc (fint rfl)
  ·exact IsiPair.tuple_tuple ho hc (fin rfl)
  ·exact IsiPair.tuple_list ho hc (fint rfl)
 |lst ds =>
  obtain⟨a,vs,rfl,sq,rl⟩:=rd;cases r;cases e;obtain⟨its,rv,⟨o,n,ho,hc,_⟩,_⟩:=I.list (SqL.of sq);rcases h5 with rfl|rfl|rfl|rfl|rfl
  ·exact IsiPair.list_bool ho hc (fint rfl)
  ·exact IsiPair.list_int ho hc (fint rfl)
  ·exact IsiPair.list_str ho hc (fint rfl)
  ·exact IsiPair.list_tuple ho hc (fint rfl)
  ·exact IsiPair.list_list ho hc (fin rfl)
 |emp =>
  simp only[aT,Rep]at rd;obtain⟨a,rfl,h1,_⟩:=rd;cases r;cases e;obtain⟨_,_,_,_,o,es,ep,ho,ex,_⟩:=I.hok a _ h1;rcases h5 with rfl|rfl|rfl|rfl|rfl
  ·exact IsiPair.dict_bool ho ex.1 (fint rfl)
  ·exact IsiPair.dict_int ho ex.1 (fint rfl)
  ·exact IsiPair.dict_str ho ex.1 (fint rfl)
  ·exact IsiPair.dict_tuple ho ex.1 (fint rfl)
  ·exact IsiPair.dict_list ho ex.1 (fint rfl)
 |_=>cases e
abbrev TOd:=DE->DH->(Option Int->DH->Prop)->Prop
def upO(K:F2) (t:TOd):TO:=fun σ H Q=>∃(Δ:DE) (M:DH) (R:Option Int->DH->Prop),SR K M H σ Δ/\HR K M H/\t Δ M R/\∀i M' H',R i M'->Ext M H M' H'->HR K M' H'->Q i H'
theorem upO.el{K:F2}{t:TOd}{σ:St}{H:Hp}{Q:Option Int->Hp->Prop}{P:Prop}(h:upO K t σ H Q) (f:∀(Δ:DE) (M:DH) (R:Option Int->DH->Prop),SR K M H σ Δ->HR K M H->t Δ M R->(∀i M' H',R i M'->Ext M H M' H'->HR K M' H'->Q i H')->P):P:=by
 obtain⟨x1,x2,x3,a,b,c,d⟩:=h;exact f x1 x2 x3 a b c d
def POd(X:Cx) (e:Option M9) (t:TOd):Prop:=PO X e (upO X.K t)
def oA:TOd:=fun _ M Q=>Q none M
def wI(t:TEd):TOd:=fun Δ M Q=>t Δ M fun d M1=>∃i,d=.int i/\Q (some i) M1
theorem PO.conv{e:Option M9}{t t':TO}(h:PO X e t) (k:∀ σ H Q,t' σ H Q->t σ H Q):PO X e t':=fun p s σ H Q I q=>h p s σ H Q I (k σ H Q q)
theorem yt:POd X none oA:=yl.conv fun σ H Q hup=>hup.el fun Δ M R sr hr q k=>k none M H q (Ext.refl _ _) hr
theorem zL(h:PEd X e te):POd X (some e) (wI te):=(zf h).conv fun σ H Q hup=>hup.el fun Δ M R sr hr q k=>⟨Δ,M,_,sr,hr,q,fun d M1 v H1 ⟨i,ed,q1⟩ e1 hr1 rv=>⟨i,by subst ed;simpa only[Rep]using rv,k _ M1 H1 q1 e1 hr1⟩⟩
def cv(xs:List D) (lo hi:Option Int):List D:=(xs.drop (HT.sIx xs.length 0 lo)).take (HT.sIx xs.length xs.length hi-HT.sIx xs.length 0 lo)
def slD:D->Option Int->Option Int->Option D
 |.lst ds,lo,hi=>some (.lst (cv ds lo hi))
 |.scr ds,lo,hi=>some (.lst (cv ds lo hi))
 |.str x,lo,hi=>if x.length<=F7 then some (.str (ai9 x lo hi))else none
 |.tup ds,lo,hi=>if HT.sIx ds.length 0 lo=0/\HT.sIx ds.length ds.length hi=ds.length then none else some (.tup (cv ds lo hi))
 |_,_,_=>none
def EK:V->Option Int->Option Int->Hp->VK->Prop:=fun x lo hi H Q=>∃z,x=.str z/\z.length<=F7/\Q (.str (ai9 z lo hi)) H
theorem BJ:SlR X EK:=by
 intro ae s σ H x v vl vu lo hi sl Q I rx hs pl pu h;obtain⟨z,rfl,hz,q⟩:=h;obtain⟨t,rfl⟩:=rx;refine⟨"str",_,PySem.F.slot_str_getitem.lookup,typeIs_str _ _ _,?_⟩;have fin:∀(t':Tok) (k:Nat),EP X ae σ Q (.str (ai9 z lo hi) t') { s with toks:=k }:=fun t' k=>⟨.str (ai9 z lo hi),H,I.tok _,⟨t',rfl⟩,q⟩;cases pl with
 |none =>
  cases pu with
  |none=>exact ac5 (l:=none) (u:=none) (st:=none) hs rfl (ak4 ⟨P7 (am6 z _ _) hz,fin⟩)
  |int j tj=>exact ac5 (l:=none) (u:=some (j,tj)) (st:=none) hs rfl (ak4 ⟨P7 (am6 z _ _) hz,fin⟩)
 |int i ti =>
  cases pu with
  |none=>exact ac5 (l:=some (i,ti)) (u:=none) (st:=none) hs rfl (ak4 ⟨P7 (am6 z _ _) hz,fin⟩)
  |int j tj=>exact ac5 (l:=some (i,ti)) (u:=some (j,tj)) (st:=none) hs rfl (ak4 ⟨P7 (am6 z _ _) hz,fin⟩)
end
def cR(names:List (Str×T3)) (cells:List (Str×J7)):List (Str×J7):=(names.filterMap fun y=>if y.2==.free then(cells.lookup y.1).map fun c=>(y.1,c)else none).reverse
noncomputable def fB(env:Env) (y:Str×T3) (cs:List (Str×J7)):Sem (ForInStep (List (Str×J7))):=if(y.2==.free)=true then(do let c <-cellOf env y.1;ad0 (U3 ((y.1,c)::cs)))else ad0 (U3 cs)
theorem jP{env:Env}:∀(names:List (Str×T3)) (acc:List (Str×J7)),(∀y∈names,y.2=.free->(env.cells.lookup y.1).isSome=true) ->
  (forIn names acc (fB env):Sem (List (Str×J7)))=ad0 (cR names env.cells++acc)
 |[],acc,_=>by simp[cR]
 |y::r,acc,h=>by
  rw[List.forIn_cons]
  by_cases hk:(y.2==V3)=true
  ·have hs:=h y Q8 (by simpa using hk);obtain⟨c,hc⟩:=ab3.mp hs;have e1:fB env y acc=ad0 (U3 ((y.1,c)::acc)):=by
    unfold fB cellOf;rw[if_pos hk,hc];simp only[ap8]
   rw[e1];simp only[ap8];rw[jP r ((y.1,c)::acc) fun y hy=>h y (O7 _ hy)];have e2:cR (y::r) env.cells=cR r env.cells++[(y.1,c)]:=by
    unfold cR;rw[W8,if_pos hk,hc];simp
   rw[e2];simp
  ·have e1:fB env y acc=ad0 (U3 acc):=by
    unfold fB;rw[if_neg hk]
   rw[e1];simp only[ap8];rw[jP r acc fun y hy=>h y (O7 _ hy)];have e2:cR (y::r) env.cells=cR r env.cells:=by
    unfold cR;rw[W8,if_neg hk]
   rw[e2]
theorem tO{scope:aa1}{env:Env}(h:∀y∈scope.names,y.2=.free->(env.cells.lookup y.1).isSome=true):closureFor scope env=ad0 (cR scope.names env.cells):=by
 have:=jP (env:=env) scope.names [] h;simp only[V5]at this;show(forIn scope.names [] (fB env) >>= fun cs=>ad0 cs)=_;rw[this];simp only[ap8]
theorem qj{cells:List (Str×J7)}{names:List (Str×T3)}{x:Str}{c:J7}(h:(cR names cells).lookup x=some c):cells.lookup x=some c:=by
 have hm:=R1 h;unfold cR at hm;rw[List.mem_reverse,ag9]at hm;obtain⟨y,_,e⟩:=hm
 split at e
 ·cases q:cells.lookup y.1 with
  |none=>rw[q]at e;cases e
  |some c'=>rw[q]at e;cases e;exact q
 ·cases e
theorem eP:∀{l:List (Str×J7)}{x:Str}{c:J7},(x,c)∈l->∃c',l.lookup x=some c'
 |(y,d)::l,x,c,h=>by
  rw[N8];cases q:x==y with
  |true=>exact⟨d,by simp⟩
  |false =>
   rcases J9.mp h with e|h
   ·cases e;simp at q
   ·simpa using eP h
theorem vU{cells:List (Str×J7)}{names:List (Str×T3)}{x:Str}(h:names.lookup x=some .free) (hs:(cells.lookup x).isSome=true):∃c,(cR names cells).lookup x=some c:=by
 obtain⟨c,hc⟩:=ab3.mp hs;refine eP (c:=c) ?_;unfold cR;rw[List.mem_reverse,ag9];exact⟨(x,.free),R1 h,by simp[hc]⟩
noncomputable def aS(fs:aa1) (N:List Str) (scope:aa1) (ms:List Bool):Bool :=
 scope.kind==.function&&scope.names.all (fun y=>y.2 != .cell)&&scope.names.all (fun y=>y.2 != .local || scope.names.lookup y.1==some .local) &&
 scope.names.all (fun y=>y.2 != .free || fs.names.lookup y.1==some .cell)&&(ms.zip N).all (fun y=>!y.1 || scope.names.lookup y.2==some .free)&&decide (ms.length<=N.length)
theorem aF{X:Cx}{scope:aa1}{ms:List Bool}{ai:List Str}{n0:Nat}(hX:X.env.cells=ap5 n0 X.env.scope.names []) (c:aS X.env.scope X.N scope ms=true):cK X scope (cR scope.names X.env.cells) ms ai:=by
 unfold aS at c;simp only[N1,M7,decide_eq_true_eq]at c;obtain⟨⟨⟨⟨⟨c1,c2⟩,c3⟩,c4⟩,c5⟩,c6⟩:=c;have fr:∀x,(x,V3)∈scope.names->X.env.scope.names.lookup x=some .cell:=fun x hx=>by
  have:=c4 _ hx;simpa using this
 have cs:∀x,(x,V3)∈scope.names->(X.env.cells.lookup x).isSome=true:=fun x hx=>by
  rw[hX];exact PySem.W.cellsFrom_some _ _ _ (.inl (fr x hx))
 refine⟨by simpa using c1,fun y hy e=>?_,fun y hy e=>?_,tO fun y hy e=>?_,fun x c h=>qj h,fun x h=>vU h (cs x (R1 h)),fun x h=>.inl (fr x (R1 h)),fun i x h1 h2=>?_,c6⟩
 ·have:=c2 y hy;rw[e]at this;simp at this
 ·have:=c3 y hy;simpa[e]using this
 ·obtain⟨a,b⟩:=y;cases e;exact cs a hy
 ·have:=c5 (true,x) (by
   rw[S1];exact⟨i,by rw[T7];exact⟨h1,h2⟩⟩)
  simpa using this
structure FnD(P:L1) (w:P9) (K:F2) (mg:Str->Option F3) (base:K7) (x:Str) (k n:Nat) (S:SpD):Prop where
 ex:∃(f:J7) (fd:L8) (ps:List Str),bA P w K mg base CX0 k f fd ps (spD K n S)/\mg x=some (.ref f)/\af8 K (.ref f)=true/\fb K fd ps []
section
variable{X:Cx}{e:M9}{es:List M9}{t:TAd}{pos p:Pos}{x:Str}{k n:Nat}{S:SpD}
theorem dc(F:FnD X.prog X.w X.K X.mg X.base x k n S) (hr:cU k X.A) (hg:Gl X x) (ha:PAd X (e::es) t) (hdb:(x==("__debug__":Str))=false:=by decide) (he:K4 (e::es) X.env=(false,ad3 e X.env)::K4 es X.env:=by rfl) (hpl:(V7 pos (K4 es X.env)).any (·.1)=false:=by rfl) :
  PEd X (.Call (.Name x p) (e::es) [] pos) (qg n S t):=by
 obtain⟨f,fd,ps,h1,h2,h3,h4⟩:=F.ex;exact BV h1 hr hg h2 h3 h4 ha hdb he hpl
end
section
variable{X:Cx}{a b c e:M9}{es:List M9}{te ta tb:TEd}{t:TAd}{pos:Pos}{tg iter:M9}
def Ah(te:TEd):TSd:=fun E Δ M=>te Δ M fun d M1=>∃a ds,d=.ref a/\M1 a=some (.lst ds)/\E.rt (.lst ds) (iq M1 a)
theorem D7:DC X (unaryOp .USub) (fun d=>match d with|.int i=>some (.int (-i))|_=>none):=by
 intro ae s σ H M x v dx dz Q I hr rx r1 e k;cases dx with
 |int i=>cases e;exact Ck ae s σ H x v Q I rx ⟨i,fG r1,k _ H (Ext.refl _ _) hr (by simp[Rep])⟩
 |_=>cases e
def iG:D->Option (List D)
 |.tup ds=>some ds
 |.lst ds=>some ds
 |.scr ds=>some ds
 |.str x=>if x.length<=F7 then some (fH x)else none
 |_=>none
def pJ(te:TEd):TId:=fun Δ M R=>te Δ M fun d M1=>∃ds,iG d=some ds/\(ds.length<=F7->R ds M1)
theorem qY{ae:List (J7×Obj)}{σ:St}{H:Hp}{s:F4}{o:Obj}(I:Inv X ae σ H s):∀b∈[s.heap.objs.size],eh X ae H b:=fun b hb=>by
 have e:b=s.heap.objs.size:=by simpa using hb
 subst e;exact I.fpOk (F9 _) (I.hok.fresh (F9 _))
theorem BA{K:F2}{x:Str}{M1:DH}{H1:Hp}:ItD K (ItW x.cps.size fun i v=>∃c,x.cps[i]?=some c/\v=.str ⟨#[c]⟩) (fH x) M1 H1:=fun M2 H2 e2 hr2 i=>⟨fun d hd=>by
  unfold fH at hd;rw[J6]at hd;cases q:x.cps.toList[i]? with
  |none=>rw[q]at hd;cases hd
  |some c =>
   rw[q]at hd;cases hd;have hc:x.cps[i]?=some c:=by simpa using q
   refine⟨?_,fun y H' ⟨eH,c',hc',ey⟩=>?_⟩
   ·exact(Array.getElem?_eq_some_iff.mp hc).1
   ·subst eH;subst ey;rw[hc]at hc';cases hc';exact⟨Ext.refl _ _,hr2,by simp[Rep]⟩,fun hl=>by
  show x.cps.size<=i;simpa[fH]using hl⟩
end
section
variable{M:DH}
theorem cG{i:Int}:rdM M (.int i)=.int i:=rfl
theorem BH{i:Bool}:rdM M (.bl i)=.bl i:=rfl
theorem yy{i:Str}:rdM M (.str i)=.str i:=rfl
theorem za:rdM M .non=.non:=rfl
theorem ou{i:List D}:rdM M (.tup i)=.tup i:=rfl
theorem y7{i:List D}:rdM M (.lst i)=.lst i:=rfl
theorem zb{i:List D}:rdM M (.scr i)=.scr i:=rfl
theorem fQ{a:J7}{ds:List D}(h:M a=some (.lst ds)):rdM M (.ref a)=.lst ds:=by simp[rdM,h]
theorem yS{a:J7}{ds:List D}:rdM (aH M a (.lst ds)) (.ref a)=.lst ds:=fQ aP
theorem o8{f:Int->Int->Option D}{a b:Int}:iOp f (.int a) (.int b)=f a b:=rfl
theorem zh{a b:Int}:mR (.int a) (.int b)=some (.int (a+b)):=rfl
theorem zx{a b:Str}:mR (.str a) (.str b)=if a.length+b.length<=F7 then some (.str (a++b))else none:=rfl
theorem oz{a b:List D}:mR (.lst a) (.lst b)=if a.length+b.length<=F7 then some (.lst (a++b))else none:=rfl
theorem zC{a b:List D}:mR (.tup a) (.tup b)=if a.length+b.length<=F7 then some (.tup (a++b))else none:=rfl
theorem Ay{a:List D}{b:Int}:ixD (.lst a) (.int b)=atI a b:=rfl
theorem Ec{a:List D}{b:Int}:ixD (.scr a) (.int b)=atI a b:=rfl
theorem ye{a:List D}{b:Int}:ixD (.tup a) (.int b)=atI a b:=rfl
theorem El{α:Type}{x:α}{xs:List α}:atI (x::xs) 0=some x:=aL (j:=0) rfl
theorem Df{α:Type}{x y:α}{xs:List α}:atI (x::y::xs) 1=some y:=aL (j:=1) rfl
theorem DF{α:Type}{x y z:α}{xs:List α}:atI (x::y::z::xs) 2=some z:=aL (j:=2) rfl
theorem xZ{f:D->Option D}{d:D}:lY f [d]=f d:=rfl
theorem AX{a:List D}:uJ (.lst a)=some (.int a.length):=rfl
theorem A1{a:List D}:uJ (.tup a)=some (.int a.length):=rfl
theorem A4{a:List D}:uJ (.scr a)=some (.int a.length):=rfl
theorem A2{x:Str}:uJ (.str x)=if x.length<=F7 then some (.int x.length)else none:=rfl
theorem Ba{i:Int}:Cy (.int i)=some (.int (if i<0 then -i else i)):=rfl
theorem yb{a:List D}:BW (.lst a)=some (.tup a):=rfl
theorem Bf{a:List D}:BW (.tup a)=some (.tup a):=rfl
theorem DS{b:Bool}{x:D}{ds:List D}:inD b x (.lst ds)=if bI x=true/\ds.all bI=true then some (.bl (xor b (ds.any fun d=>eqD d x)))else none:=rfl
theorem Ej{b:Bool}{x:D}{ds:List D}:inD b x (.tup ds)=if bI x=true/\ds.all bI=true then some (.bl (xor b (ds.any fun d=>eqD d x)))else none:=rfl
theorem k9{a b:Int}:eqF (.int a) (.int b)=some (.bl (a==b)):=by simp[eqF,dLe,eqD]
theorem Cc{a b:Str}:eqF (.str a) (.str b)=some (.bl (a==b)):=by simp[eqF,dLe,eqD]
theorem BN{a b:Bool}:eqF (.bl a) (.bl b)=some (.bl (a==b)):=by simp[eqF,dLe,eqD]
theorem CH{ds:List D}{lo hi:Option Int}:slD (.scr ds) lo hi=some (.lst (cv ds lo hi)):=rfl
theorem Ei{ds:List D}{lo hi:Option Int}:slD (.lst ds) lo hi=some (.lst (cv ds lo hi)):=rfl
theorem DZ{x:Str}{lo hi:Option Int}:slD (.str x) lo hi=if x.length<=F7 then some (.str (ai9 x lo hi))else none:=rfl
theorem vV{a:List D}:iG (.lst a)=some a:=rfl
theorem vp{a:List D}:iG (.tup a)=some a:=rfl
theorem wk{a:List D}:iG (.scr a)=some a:=rfl
theorem xn{x:Str}:iG (.str x)=if x.length<=F7 then some (fH x)else none:=rfl
theorem CQ{n:Nat}:ixN (n+1) 0=some 0:=by simp[ixN]<;>omega
theorem DJ{n:Nat}:ixN (n+2) 1=some 1:=by simp[ixN]<;>omega
theorem CS{n:Nat}:ixN (n+3) 2=some 2:=by simp[ixN]<;>omega
theorem sz3(n:Nat) (h:n<=1000:=by decide):n<=F7:=P7 h (by decide)
theorem Cp{b:Bool}:vF "bool" (.bl b)=some true:=rfl
end
end L2
namespace L2
theorem Dl{i j:Int}(h:-18446744073709551616<j/\j<18446744073709551616):iV i j=True:=by unfold iV;simp;right;omega
theorem Da{i j:Int}(h:-18446744073709551616<i/\i<18446744073709551616):iV i j=True:=by unfold iV;simp;left;omega
theorem xJ:mJ 10 18=True:=by simp[mJ]
theorem CZ{i j:Int}(h:0<j/\j<1073741824):lM i j=True:=by unfold lM;simp[h]
end L2
namespace L2
open PySem PySem.Spec PyProof.Rows
theorem bP{g:GD}{tc:TTd}{te:TEd}{M:DH}{Q:List D->DH->Prop}(b:D->Bool) (y:D->D) (Ok:DE->Prop):∀(ds:List D) (Δ:DE) (acc:List D),
  (∀d∈ds,∀ Δ,Ok Δ->∃ Δ',g d Δ=some Δ'/\Ok Δ'/\(∀Q1:Bool->DH->Prop,Q1 (b d) M->tc Δ' M Q1)/\(b d=true->∀Q2:D->DH->Prop,Q2 (y d) M->te Δ' M Q2))->Ok Δ ->
  Q (acc++(ds.filter b).map y) M->dN g tc te ds Δ M acc Q
 |[],Δ,acc,_,_,q=>by simpa[dN]using q
 |d::ds,Δ,acc,h,hΔ,q=>by
  simp only[dN];obtain⟨Δ',eg,ok,h1,h2⟩:=h d Q8 Δ hΔ;refine⟨Δ',eg,h1 _ ?_⟩;have hr:∀d∈ds,∀ Δ,Ok Δ->∃ Δ',g d Δ=some Δ'/\Ok Δ'/\(∀Q1:Bool->DH->Prop,Q1 (b d) M->tc Δ' M Q1)/\(b d=true->∀Q2:D->DH->Prop,Q2 (y d) M->te Δ' M Q2):=fun x hx=>h x (O7 _ hx);cases hb:b d with
  |true =>
   simp only[if_true];refine h2 hb _ (bP b y Ok ds Δ' (acc++[y d]) hr ok ?_);simpa[List.filter_cons,hb]using q
  |false =>
   simp only[K1,if_false];refine bP b y Ok ds Δ' acc hr ok ?_;simpa[List.filter_cons,hb]using q
theorem yL{a b:Str}:eqD (.str a) (.str b)=(a==b):=by simp[eqD]
theorem kW{x:Str}:∀{ws:List Str},(ws.map D.str).any (fun d=>eqD d (.str x))=decide (x∈ws)
 |[]=>by simp
 |w::ws=>by
  rw[J8,V2,kW (ws:=ws),yL]
  by_cases h:w=x
  ·subst h;simp
  ·have h2:(w==x)=false:=by simpa using h
   have h3:¬ x=w:=fun e=>h e.symm;simp[h2,h3]
theorem pQ{ws:List Str}:(ws.map D.str).all bI=true:=by
 induction ws with
 |nil=>rfl
 |cons w ws ih=>rw[J8,ah2,ih];rfl
section
variable{X:Cx}{e:M9}{te:TEd}{pos:Pos}
def Ar(te:TEd):TSd:=fun E Δ M=>te Δ M fun d M1=>∃M2,LeM M2 M1/\E.rt d M2
theorem eC{M:DH}{q:J7}{o:HD}(h:M q=none):LeM M (aH M q o):=fun a u e=>by
 by_cases ha:a=q
 ·subst ha;rw[h]at e;cases e
 ·rw[cQ ha];exact e
end
end L2
namespace L2
open PySem PySem.Spec PyProof.Rows PySem.Builtin.Str
def tx(cs:List Nat):Str:=⟨cs.toArray⟩
theorem ip(cs:List Nat):(tx cs).cps.toList=cs:=by simp[tx]
theorem oO(cs:List Nat):(tx cs).length=cs.length:=by show(tx cs).cps.size=_;simp[tx]
theorem fL{α:Type} [DecidableEq α]:∀(V K:List α),V.Nodup->(∀x∈V,x∈K)->V.length<=K.length
 |[],_,_,_=>P6 _
 |x::V,K,hn,h=>by
  have hx:=h x Q8;obtain⟨h1,h2⟩:=ab2.mp hn;have:=fL V (K.erase x) h2 fun y hy=>(List.mem_erase_of_ne (by rintro rfl;exact h1 hy)).mpr (h y (O7 _ hy));rw[List.length_erase_of_mem hx]at this;have hp:0<K.length:=List.length_pos_of_mem hx;simp only[P2]
  lia
abbrev abc:Str:=K3 "abcdefghijklmnopqrstuvwxyz"
def fk:List Nat:=an6 97 26
theorem rg:abc=tx fk:=by decide +kernel
theorem uB:fH abc=fk.map fun c=>D.str (tx [c]):=by
 unfold fH;rw[rg,ip];rfl
end L2
namespace L2
open PySem PySem.Spec PyProof.Rows
theorem nq{g:GD}{tb:TSd}{E:gj}{all:List D}(I:Nat->DE->DH->Prop)
  (step:∀(i:Nat) (d:D) (Δ:DE) (M:DH) (X:DE->DH->Prop),all[i]?=some d->I i Δ M->(∀ Δ' M',I (i+1) Δ' M'->X Δ' M')->∃ Δ',g d Δ=some Δ'/\tb { E with nx:=X,ct:=X,bk:=E.nx } Δ' M)
  (fin:∀ Δ M,I all.length Δ M->E.nx Δ M):∀(ds:List D) (i:Nat) (Δ:DE) (M:DH),all.drop i=ds->i<=all.length->I i Δ M->fi g tb E ds Δ M
 |[],i,Δ,M,e,hi,h=>by
  have:i=all.length:=by
   have:=congrArg X0 e;simp at this;lia
  subst this;simpa only[fi]using fin Δ M h
 |d::ds,i,Δ,M,e,hi,h=>by
  have hlt:i<all.length:=by
   have:=congrArg X0 e;simp at this;lia
  have hd:all[i]?=some d:=by
   have:=congrArg List.head? e;simpa using this
  have hn:all.drop (i+1)=ds:=by
   rw[<-List.tail_drop,e];rfl
  simp only[fi];exact step i d Δ M _ hd h fun Δ' M' h'=>nq I step fin ds (i+1) Δ' M' hn hlt h'
theorem aI{g:GD}{tb:TSd}{E:gj}{ds:List D}{Δ:DE}{M:DH}(I:Nat->DE->DH->Prop) (h0:I 0 Δ M)
  (step:∀(i:Nat) (d:D) (Δ:DE) (M:DH) (X:DE->DH->Prop),ds[i]?=some d->I i Δ M->(∀ Δ' M',I (i+1) Δ' M'->X Δ' M')->∃ Δ',g d Δ=some Δ'/\tb { E with nx:=X,ct:=X,bk:=E.nx } Δ' M)
  (fin:∀ Δ M,I ds.length Δ M->E.nx Δ M):fi g tb E ds Δ M:=nq I step fin ds 0 Δ M rfl (P6 _) h0
theorem p6{g:GD}{tc:TTd}{te:TEd}{all:List D}{Q:List D->DH->Prop}(I:Nat->List D->DE->DH->Prop)
  (step:∀ (i:Nat) (d:D) (acc:List D) (Δ:DE) (M:DH) (X:List D → DE → DH → Prop),all[i]? = some d → I i acc Δ M → (∀ acc' Δ' M',I (i + 1) acc' Δ' M' → X acc' Δ' M') →
   ∃ Δ',g d Δ=some Δ'/\tc Δ' M fun b M1=>if b=true then te Δ' M1 fun y M2=>X (acc++[y]) Δ' M2 else X acc Δ' M1)
  (fin:∀acc Δ M,I all.length acc Δ M->Q acc M):∀(ds:List D) (i:Nat) (acc:List D) (Δ:DE) (M:DH),all.drop i=ds->i<=all.length->I i acc Δ M->dN g tc te ds Δ M acc Q
 |[],i,acc,Δ,M,e,hi,h=>by
  have:i=all.length:=by
   have:=congrArg X0 e;simp at this;lia
  subst this;simpa only[dN]using fin acc Δ M h
 |d::ds,i,acc,Δ,M,e,hi,h=>by
  have hlt:i<all.length:=by
   have:=congrArg X0 e;simp at this;lia
  have hd:all[i]?=some d:=by
   have:=congrArg List.head? e;simpa using this
  have hn:all.drop (i+1)=ds:=by
   rw[<-List.tail_drop,e];rfl
  simp only[dN];exact step i d acc Δ M (fun acc' Δ' M'=>dN g tc te ds Δ' M' acc' Q) hd h fun acc' Δ' M' h'=>p6 I step fin ds (i+1) acc' Δ' M' hn hlt h'
theorem lC{g:GD}{tc:TTd}{te:TEd}{ds:List D}{Δ:DE}{M:DH}{Q:List D->DH->Prop}(I:Nat->List D->DE->DH->Prop) (h0:I 0 [] Δ M)
  (step:∀ (i:Nat) (d:D) (acc:List D) (Δ:DE) (M:DH) (X:List D → DE → DH → Prop),ds[i]? = some d → I i acc Δ M → (∀ acc' Δ' M',I (i + 1) acc' Δ' M' → X acc' Δ' M') →
   ∃ Δ',g d Δ=some Δ'/\tc Δ' M fun b M1=>if b=true then te Δ' M1 fun y M2=>X (acc++[y]) Δ' M2 else X acc Δ' M1)
  (fin:∀acc Δ M,I ds.length acc Δ M->Q acc M):dN g tc te ds Δ M [] Q:=p6 I step fin ds 0 [] Δ M rfl (P6 _) h0
theorem szB(n:Nat) (h:n<=16000000:=by decide):n<=F7:=P7 h (by decide)
theorem bZ{α:Type}{f:α->D}{xs:List α}{i:Nat}{d:D}(h:(xs.map f)[i]?=some d):∃x,xs[i]?=some x/\d=f x:=by
 rw[J6]at h;cases e:xs[i]? with
 |none=>rw[e]at h;cases h
 |some x=>rw[e]at h;cases h;exact⟨x,rfl,rfl⟩
theorem qO{K:F2}{M:DH}{H:Hp}:∀ns:List Int,ao K M H (ns.map D.int) (ns.map V.int)
 |[]=>ao.nil
 |n::ns=>ao.cons (by simp[Rep]) (qO ns)
theorem ue{K:F2}{H:Hp}{a:J7}{ns:List Int}(hO:zy H) (hS:SqL K H a (ns.map V.int)):ao K noM H [.scr (ns.map D.int)] [.ref a]:=by
 refine ao.cons ?_ ao.nil;simp only[Rep];refine⟨a,ns.map V.int,rfl,?_,qO ns⟩;rcases hS with h|h
 ·left;rcases h with h|h
  ·rcases hO a with z|⟨o,xs,z⟩<;>(rw[h]at z;cases z)
  ·exact⟨h,rfl⟩
 ·right;exact .inr h
def D3(S:SpD):Prop:=∀(ns:List Int) (R:D->DH->Prop),ns.length<=63->(∀M',R (.bl true) M')->S [.scr (ns.map .int)] noM R
theorem CP{S:SpD}(hS:D3 S) {k:Nat}{x:Str}{l:PySem.W.OpenLaw}{q:L1}{loose:List Str}{XP:(Str->Option F3)->K7->Prop}{YP:P9->K7->Prop}{d:DefRec}{K:Params->F2}(hr:cU k an4) (hn:l.most=some 63) (hdf:d.params.defaults=[])
  (hY:∀(w:P9) (h:K7),YP w h->(K w.params).In h)
  (F:∀ (w:P9) (mg:Str → Option F3) (fa:J7) (h:K7),(K w.params).In h → h.Ns L3 mg → mg d.name = some (.ref fa) →
   ∃fd:L8,(∀(s:F4) (u:F3),ao6 s fd ⟨[u],[]⟩ [(x,u)])/\∀base:K7,(K w.params).In base->base.Ns L3 mg->bA l.prog w (K w.params) mg base CX0 k fa fd [x] (spD (K w.params) 1 S)) :
  PySem.W.WalkO q loose XP YP l.row.toRowW d [] (fun f vs=>PySem.call f vs) :=
 L2.sV (n:=63) (k:=k) (x:=x) (CX:=fun _=>CX0) (sp:=fun w=>spD (K w.params) 1 S) hn (by decide) hdf hr hY F
  (fun w H a ns hl hO hq=>⟨[.scr (ns.map .int)],noM,fun d _=>d=.bl true,rfl,ue hO hq,HR.nil,hS ns _ hl (fun _=>rfl),fun d M' v H' e _ _ rv=>by subst e;simpa only[Rep]using rv⟩) fun _ _ _ _ _ z=>z
section
variable{X:Cx}
def neF(x y:D):Option D:=if dLe x 60=true/\dLe y 60=true then some (.bl (!(eqD x y)))else none
theorem mI(hu:X.A.units+64<ai7):cw X (Q5 .NotEq) neF:=by
 intro ae s σ H M x y v u dx dy dz Q I hr rx ry r1 r2 e k;unfold neF at e
 by_cases hc:dLe dx 60=true/\dLe dy 60=true
 ·rw[if_pos hc]at e;cases e;exact(qW I 60 (A:=X.A) (by lia) hc.1 hc.2 r1 r2 rx ry).2.2 X.prog X.w X.xe _ ⟨.bl (!(eqD dx dy)),H,I,rfl,k _ H (Ext.refl _ _) hr (by simp[Rep])⟩
 ·rw[if_neg hc]at e;cases e
theorem rG{a b:Int}:neF (.int a) (.int b)=some (.bl (!(a==b))):=by simp[neF,dLe,eqD]
theorem Bv{a b:Str}:neF (.str a) (.str b)=some (.bl (!(a==b))):=by simp[neF,dLe,eqD]
theorem xh{a b:Bool}:neF (.bl a) (.bl b)=some (.bl (!(a==b))):=by simp[neF,dLe,eqD]
end
end L2
namespace HT
open PySem PyProof.Rows
section
variable{prog:L1}{w:P9}{A:O0}{E:F3->F4->Prop}{s:F4}
theorem mx{t:J7}{items:Array F3}{Q:Bool->F4->Prop}(ht:al6 s.heap t items) (h:Q true s):K2 (L5 prog w) A (K6.Tuple.tupleIsExact (.ref t)) Q E s:=by
 unfold K6.Tuple.tupleIsExact;exact o0 (ag4 ht.typeIs (F5 (by simpa using h)))
theorem getItem_tuple_whole{t sl:J7}{items:Array F3}{vl vu:F3}{lo hi:Option Int}{Q:F3->F4->Prop}(ht:al6 s.heap t items) (hs:s.heap.IsSliceOf sl vl vu .none) (pl:ao4 vl lo) (pu:ao4 vu hi)
  (hw:sIx items.size 0 lo=0/\sIx items.size items.size hi=items.size) (h:Q (.ref t) s):K2 (L5 prog w) A (al8 (.ref t) (.ref sl)) Q E s:=by
 obtain⟨os,hos,hcs,hds⟩:=id hs;have hTs:s.TypeIs (.ref sl) "slice":=⟨os,hos,hcs⟩;unfold al8
 try with_reducible refine R5 ?_
 first|refine o0 (F5 ?_)|skip
 refine o0 (wpAny_sequenceKey ht.typeIs (by decide) ?_);refine o0 (P5 (name:=K3 "__getitem__") ht.typeIs R9
  (Q6 R9 ht.typeIs entry_tuple_getitem ?_ (args_tuple_getitem _ _)))
 show K2 _ _ (K6.Tuple.tupleItemsOf (.ref t) >>= _) _ _ s;refine o0 (tupleItemsOf_ ht ?_);refine o0 (ag4 hTs ?_);rw[if_pos (by decide)];refine o0 (fq hs pl pu ?_);show K2 _ _ (if(((sIx items.size 0 lo:Nat):Int)==0&&(1:Int)==1&&(sIx items.size items.size hi-sIx items.size 0 lo)==items.size)=true then _ else _) _ _ s;rw[if_pos (by rw[hw.1,hw.2];simp)];refine o0 (mx ht ?_);rw[if_pos rfl];refine o0 (ab0 ?_)
 first
  |exact F5 ⟨_,rfl,F5 h⟩
  |exact o0 (F5 (F5 ⟨_,rfl,F5 h⟩))
theorem pick_rev(xs:Array F3):((R8 xs.size).filterMap fun(m:Nat)=>xs[((xs.size:Int)-1+(m:Int)*-1).toNat]?)=xs.toList.reverse:=by
 have:∀k,k<=xs.size->((R8 k).filterMap fun(m:Nat)=>xs[((xs.size:Int)-1+(m:Int)*-1).toNat]?)=xs.toList.reverse.take k:=by
  intro k
  induction k with
  |zero=>intro _;simp
  |succ k ih =>
   intro hk;rw[List.range_succ,List.filterMap_append,ih (by omega)];have e1:((xs.size:Int)-1+(k:Int)*-1).toNat=xs.size-1-k:=by omega
   have e2:xs[xs.size-1-k]?=some xs[xs.size-1-k]:=by simp[show xs.size-1-k<xs.size by omega]
   have e3:xs.toList.reverse[k]?=some xs[xs.size-1-k]:=by
    rw[List.getElem?_reverse (by simp;omega)];simpa using e2
   rw[O6,e3];have e4:(List.filterMap (fun(m:Nat)=>xs[((xs.size:Int)-1+(m:Int)*-1).toNat]?) [k])=[xs[xs.size-1-k]]:=by
    rw[W8,e1,e2];rfl
   rw[e4];rfl
 rw[this xs.size (F9 _)];exact S9 (by simp)
end
end HT
namespace L2
open PySem PySem.Spec PyProof.Rows
section
variable{X:Cx}{a b c e:M9}{es:List M9}{te ta tb ts:TEd}{t:TAd}{pos:Pos}
def slE:D->Option Int->Option Int->Option D
 |.tup ds,lo,hi=>some (.tup (cv ds lo hi))
 |d,lo,hi=>slD d lo hi
def E7(K:F2):V->Option Int->Option Int->Hp->VK->Prop:=fun x lo hi H Q=>∃a xs,x=.ref a/\SqT K H a xs/\(HT.sIx xs.length 0 lo=0/\HT.sIx xs.length xs.length hi=xs.length)/\Q (.ref a) H
theorem wc:SlR X (E7 X.K):=by
 intro ae s σ H x v vl vu lo hi sl Q I rx hs pl pu h;obtain⟨a,xs,rfl,hx,hw,q⟩:=h;cases rx;obtain⟨its,r,ht,hz⟩:=I.tuple hx;have cS:its.toArray.size=xs.length:=by rw[J0];exact r.length.symm
 exact⟨"tuple",_,R9.lookup,ht.typeIs,HT.getItem_tuple_whole ht hs pl pu (by rw[cS];exact hw) ⟨.ref a,H,I,rfl,q⟩⟩
theorem su{ds:List D}{lo hi:Option Int}(h:HT.sIx ds.length 0 lo=0/\HT.sIx ds.length ds.length hi=ds.length):cv ds lo hi=ds:=by
 unfold cv;rw[h.1,h.2];simp
def Dk(te:TEd) (tl th:TOd):TEd:=fun Δ M Q=>te Δ M fun x M1=>tl Δ M1 fun l M2=>th Δ M2 fun u M3=>∃z,slE (rdM M3 x) l u=some z/\Q z M3
theorem Ek{ds:List D}{lo hi:Option Int}:slE (.tup ds) lo hi=some (.tup (cv ds lo hi)):=rfl
theorem DX{ds:List D}{lo hi:Option Int}:slE (.lst ds) lo hi=some (.lst (cv ds lo hi)):=rfl
theorem DL{ds:List D}{lo hi:Option Int}:slE (.scr ds) lo hi=some (.lst (cv ds lo hi)):=rfl
theorem CJ{x:Str}{lo hi:Option Int}:slE (.str x) lo hi=if x.length<=F7 then some (.str (ai9 x lo hi))else none:=rfl
theorem ao.reverse{K:F2}{M:DH}{H:Hp}:∀{ds:List D}{vs:List V},ao K M H ds vs->ao K M H ds.reverse vs.reverse
 |[],_,h=>by simp only[ao]at h;subst h;exact ao.nil
 |d::ds,_,h=>by
  simp only[ao]at h;obtain⟨v,ws,rfl,h1,h2⟩:=h;rw[ai0,ai0];exact(ao.reverse h2).append (ao.cons h1 ao.nil)
variable{scope:aa1}{cl:List (Str×J7)}{ai:List Str}{tg:M9}
def yq(X:Cx) (scope:aa1) (cl:List (Str×J7)) (ai:List Str) (tgs:List M9) (g:GDs):Prop:=∃gv:TGs,(∀C s H ex,PGs (ax X scope cl (X.N++ai) C s H ex) tgs gv)/\∀(ds:List D) (vs:List V) (σ:St) (Δ Δ':DE) (M:DH) (H:Hp) (Q:St->Hp->Prop),SR X.K M H σ Δ->HR X.K M H->ao X.K M H ds vs->g ds Δ=some Δ'->(∀ σ',SR X.K M H σ' Δ'->Q σ' H)->gv vs σ H Q
theorem da:yq X scope cl ai [] k8:=⟨B4,fun _ _ _ _=>sJ,fun ds vs σ Δ Δ' M H Q sr hr rv e k=>by
 cases ds with
 |nil=>simp only[ao]at rv;subst rv;cases e;exact⟨rfl,k _ sr⟩
 |cons _ _=>cases e⟩
theorem aV{tgs:List M9}{g:GD}{gs:GDs}(h1:PGa X scope cl ai tg g) (h2:yq X scope cl ai tgs gs)
  (hs:∀env,(U9 (tg::tgs) env).map (·.2)=ag8 tg env::(U9 tgs env).map (·.2):=by intro _;rfl):yq X scope cl ai (tg::tgs) (gb g gs):=by
 obtain⟨g1,p1,k1⟩:=h1;obtain⟨g2,p2,k2⟩:=h2;refine⟨wW g1 g2,fun C s H ex=>qG (p1 C s H ex) (p2 C s H ex) (hs _),fun ds vs σ Δ Δ' M H Q sr hr rv e k=>?_⟩;cases ds with
 |nil=>cases e
 |cons d r =>
  simp only[ao]at rv;obtain⟨v,ws,rfl,h3,h4⟩:=rv;simp only[gb]at e;cases q:g d Δ with
  |none=>rw[q]at e;cases e
  |some Δ1 =>
   rw[q]at e;exact⟨v,ws,rfl,k1 d v σ Δ Δ1 M H _ sr hr h3 q fun σ1 sr1=>k2 r ws σ1 Δ1 Δ' M H Q sr1 hr h4 e k⟩
theorem dr{tgs:List M9}{kx:Nat}{g:GDs}{n:Nat}(hc:X.calm=true) (h:yq X scope cl ai tgs g) (hn:∀env,(U9 tgs env).length=n:=by intro _;rfl) (hst:∀env,(U9 tgs env).findIdx? (·.1)=none:=by intro _;rfl):PGa X scope cl ai (.Tuple tgs kx pos) (jt g n):=by
 obtain⟨g1,p1,k1⟩:=h;refine⟨A6 X.K n g1,fun C s H ex=>va (X:=ax X scope cl (X.N++ai) C s H ex) hc (p1 C s H ex) (hn _) (hst _),fun d v σ Δ Δ' M H Q sr hr rv e k=>?_⟩;cases d with
 |tup ds =>
  simp only[jt]at e
  by_cases hl:ds.length=n
  ·rw[if_pos hl]at e;simp only[Rep]at rv;obtain⟨a,vs,rfl,ta,rl⟩:=rv;exact⟨a,vs,rfl,ta.sq,by rw[<-rl.length];exact hl,k1 ds vs σ Δ Δ' M H Q sr hr rl e k⟩
  ·rw[if_neg hl]at e;cases e
 |_=>cases e
end
section
variable{X:Cx}{a b c e:M9}{es:List M9}{te ta tb ts:TEd}{t:TAd}{pos:Pos}
def inE(neg:Bool) (x y:D):Option D:=match y with
 |.str j=>match x with
  |.str i=>some (.bl (xor neg (!(ac4 j i 0 j.length 1).isEmpty)))
  |_=>none
 |y=>inD neg x y
theorem xF:cw X (Q5 .In) (inE false):=by
 intro ae s σ H M x y v u dx dy dz Q I hr rx ry r1 r2 e k;cases dy with
 |str j =>
  cases dx with
  |str i =>
   cases e;exact uR ae s σ H x y v u Q I rx ry ⟨i,j,mG r1,mG r2,k _ H (Ext.refl _ _) hr (by simp[Rep])⟩
  |_=>cases e
 |_=>exact E5 ae s σ H M x y v u dx _ dz Q I hr rx ry r1 r2 e k
theorem lF:cw X (Q5 .NotIn) (inE true):=by
 intro ae s σ H M x y v u dx dy dz Q I hr rx ry r1 r2 e k;cases dy with
 |str j =>
  cases dx with
  |str i =>
   cases e;exact pb ae s σ H x y v u Q I rx ry ⟨i,j,mG r1,mG r2,k _ H (Ext.refl _ _) hr (by simp[Rep])⟩
  |_=>cases e
 |_=>exact zt ae s σ H M x y v u dx _ dz Q I hr rx ry r1 r2 e k
theorem DU{b:Bool}{x:D}{ds:List D}:inE b x (.lst ds)=if bI x=true/\ds.all bI=true then some (.bl (xor b (ds.any fun d=>eqD d x)))else none:=rfl
theorem Du{b:Bool}{x:D}{ds:List D}:inE b x (.tup ds)=if bI x=true/\ds.all bI=true then some (.bl (xor b (ds.any fun d=>eqD d x)))else none:=rfl
theorem Af{b:Bool}{c:Nat}{y:Str}:inE b (.str (tx [c])) (.str y)=some (.bl (xor b (decide (c∈y.cps.toList)))):=by
 show some (D.bl (xor b (!(ac4 y ⟨#[c]⟩ 0 y.length 1).isEmpty)))=_;rw[StrLaws.found_one]
theorem zQ{ae:List (J7×Obj)}{σ:St}{H:Hp}{s:F4}(I:Inv X ae σ H s):ae9<s.heap.objs.size:=by
 have h:L3<s.heap.objs.size:=(I.mod.glob.keeps I.bk).lt;exact ai8 (by decide) h
def CC:TEd:=fun _ M Q=>Q .emp M
theorem jT:fillsNumberSlot (.type "tuple") "mul"=ad0 false :=
 PySem.fillsNumberSlot_seq (id:="tuple.__mul__") (r:=some (.builtin "tuple.__rmul__")) F.slot_tuple_mul.lookup (by decide +kernel) F.slot_tuple_rmul.lookup (by decide +kernel)
theorem pe:seqRepeat? (.type "tuple")=ad0 (some (.builtin "tuple.__mul__")):=by
 unfold seqRepeat?;rw[PySem.seqSlot_of (T:="tuple") (name:="__mul__") (id:="tuple.__mul__") F.slot_tuple_mul.lookup (by decide +kernel),PySem.seqSlot_of (T:="tuple") (name:="__rmul__") (id:="tuple.__rmul__") F.slot_tuple_rmul.lookup (by decide +kernel)];rfl
theorem lq(a:Int) (t:Tok) (l:J7) (items:Array F3) :
  Meets (K6.«int.__rmul__» ⟨[.int a t,.ref l],[]⟩) (fun _ R s=>al6 s.heap l items/\R (.ok (.ret F3.notImplemented)) s) :=
 .of_wp fun prog w A R s h=>by
  obtain⟨hp,g,d,tk,os⟩:=s;obtain⟨⟨⟨cls,dd,data,sl⟩,ho,hc,n,hd⟩,h⟩:=h;simp only at hc hd;subst hc hd
  wp_walk;exact⟨_,rfl,h⟩
theorem mQ(l:J7) (items:Array F3) (x:Int) (u:Tok) (hne:items.isEmpty=false) (hx:2<=x) (hx2:x<2 ^ 62) (hz:items.size*x.toNat<=F7) :
  Meets (K6.«tuple.__mul__» ⟨[.ref l,.int x u],[]⟩) (fun _ R s=>al6 s.heap l items/\R (.ok (.ret (.ref s.heap.objs.size))) { s with heap:=s.heap.push { cls:=.type "tuple",data:=.seq (I0 x.toNat items.toList).flatten.toArray } }) :=
 .of_wp fun prog w A R s h=>by
  obtain⟨ht,h⟩:=h;show K2 _ _ (do
   let n <-asIndex (.int x u)
   if n < -(2 ^ 63) || n>=2 ^ 63 then
    rule "tuple.repeat.overflow";raiseError "OverflowError" s!"cannot fit '{← typeNameOf (.int x u)}' into an index-sized integer"
   let xs <-K6.Tuple.tupleItemsOf (.ref l)
   if xs.isEmpty || n==1 then
    if <-K6.Tuple.tupleIsExact (.ref l)then rule "tuple.repeat.same-object";return <-ret (.ref l)
   if n<=0 || xs.isEmpty then return <-ret (<-T1 #[])
   if xs.size*n > (2 ^ 63-1) / 8 then rule "tuple.repeat.no-memory";raiseNew (<-newExc (.type "MemoryError") [])
   if K6.Tuple.tupleTooMany (xs.size*n)then unsupported "tuple.__mul__:memory"
   ret (<-T1 ((I0 n.toNat xs).foldl (·++·) #[]))) _ _ s
  refine o0 (am1 (a:=x) rfl ?_);dsimp only;rw[if_neg (by simp only[ah4,decide_eq_true_eq];lia)];refine o0 (tupleItemsOf_ ht ?_);rw[if_neg (by simp[hne];lia)];rw[if_neg (by simp[hne];lia)];have hxn:((x.toNat:Nat):Int)=x:=by lia
  have hm:(items.size:Int)*x=((items.size*x.toNat:Nat):Int):=by rw[Int.natCast_mul,hxn]
  have h16:F7=16777216:=rfl;rw[if_neg (by rw[hm];lia)];rw[if_neg (by unfold K6.Tuple.tupleTooMany;rw[hm];simp only[decide_eq_true_eq];lia)];have hf:ao8 (fun x1 x2=>x1++x2) #[] (I0 x.toNat items)=(I0 x.toNat items.toList).flatten.toArray:=by
   have:=jK items.toList x.toNat [];rw[K5]at this;simpa using this
  rw[hf];have hs:sizeOk (.seq (I0 x.toNat items.toList).flatten.toArray):=by
   show(I0 x.toNat items.toList).flatten.toArray.size<=F7;rw[J0,pj,L0,Nat.mul_comm];exact hz
  exact o0 (m:=T1 _) (N2 (F5 ⟨_,rfl,h⟩) hs)
theorem ao.rep{K:F2}{M:DH}{H:Hp}{ds:List D}{vs:List V}(h:ao K M H ds vs):∀k:Nat,ao K M H (I0 k ds).flatten (I0 k vs).flatten
 |0=>ao.nil
 |k+1=>by
  rw[R3,R3,V0,V0];exact h.append (ao.rep h k)
def j6:D->D->Option D
 |.int a,.int b=>if iV a b then some (.int (a*b))else none
 |.str x,.int n=>if x.length<=16777216/\-(2 ^ 63)<=n/\n<=16777216/\x.length*n.toNat<=16777216 then some (.str (Txt.mul x n))else none
 |.tup ds,.int n=>if 2<=n/\n<2 ^ 62/\ds≠[]/\ds.length*n.toNat<=F7 then some (.tup (I0 n.toNat ds).flatten)else none
 |.lst ds,.int n=>if -(2 ^ 63)<=n/\n<2 ^ 63/\ds.length*n.toNat<=F7 then some (.lst (I0 n.toNat ds).flatten)else none
 |_,_=>none
theorem bK:cw X (V8 .Mult) j6:=by
 intro ae s σ H M x y v u dx dy dz Q I hr rx ry r1 r2 e k;cases dx with
 |int a =>
  cases dy with
  |int b=>exact BG ae s σ H M x y v u _ _ dz Q I hr rx ry r1 r2 e k
  |_=>cases e
 |str z =>
  cases dy with
  |int n =>
   simp only[j6]at e
   by_cases hc:z.length<=16777216/\-(2 ^ 63)<=n/\n<=16777216/\z.length*n.toNat<=16777216
   ·rw[if_pos hc]at e;cases e;have e1:=mG r1;have e2:=fG r2;subst e1;subst e2;obtain⟨t1,rfl⟩:=rx;obtain⟨t2,rfl⟩:=ry;have hok:MulOk z n:=by
     by_cases hn:0<=n
     ·exact mulOk_of z.length n.toNat (F9 _) (by lia) hc.2.1 (by lia) hc.2.2.2
     ·exact mulOk_of z.length 0 (F9 _) (by lia) hc.2.1 (by lia) (by lia)
    exact SB.mul hok fun t' kk=>⟨.str _,H,I.tok _,⟨t',rfl⟩,k _ H (Ext.refl _ _) hr (by simp[Rep])⟩
   ·rw[if_neg hc]at e;cases e
  |_=>cases e
 |tup ds =>
  cases dy with
  |int n =>
   simp only[j6]at e
   by_cases hc:2<=n/\n<2 ^ 62/\ds≠[]/\ds.length*n.toNat<=F7
   ·rw[if_pos hc]at e;cases e;have e2:=fG r2;subst e2;obtain⟨t2,rfl⟩:=ry;obtain⟨a,vs,rfl,sq,rl⟩:=r1;cases rx;obtain⟨its,rv,pt,hz⟩:=I.tuple sq;have hl1:=rv.length;have hl2:=rl.length;have hne:its.toArray.isEmpty=false:=by
     cases its with
     |nil =>
      have h0:ds.length=0:=by rw[hl2,hl1];rfl
      exact absurd (W3.mp h0) hc.2.2.1
     |cons _ _=>rfl
    have hzz:its.toArray.size*n.toNat<=F7:=by rw[J0,<-hl1,<-hl2];exact hc.2.2.2
    refine wpAny_binaryOp_repeat_ref (T:="tuple") (U:="int") (by decide) pt.typeIs (fun s'=>am7 s' n t2) jT F.fills_int_mul ak3 pe F.slot_int_index.lookup
     (ag5 ak3 (am7 s n t2) F.entry_int_rmul (F.args_int_rmul_2 _ _) (lq n t2 a its.toArray)
      ⟨pt,rfl,pt.typeIs,ag5 F.slot_tuple_mul pt.typeIs F.entry_tuple_mul (F.args_tuple_mul_2 _ _) (mQ a its.toArray n t2 hne hc.1 hc.2.1 hzz) ⟨pt,?_⟩⟩)
    have rr:ay (I0 n.toNat vs).flatten (I0 n.toNat its).flatten:=rv.rep n.toNat;refine⟨.ref s.heap.objs.size,_,I.laid (t':=s.toks) (o:=.tup (I0 n.toNat vs).flatten) (fun b ob q=>F0 _ q) (F9 _) ?_,rfl,?_⟩
    ·refine⟨?_,_,rr,by simpa using jd.new _ _⟩;rw[pj,Nat.mul_comm,<-hl2];exact hc.2.2.2
    ·exact nZ hr (I.hok.fresh (F9 _)) (rl.rep n.toNat) k
   ·rw[if_neg hc]at e;cases e
  |_=>cases e
 |lst ds =>
  cases dy with
  |int n =>
   simp only[j6]at e
   by_cases hc:-(2 ^ 63)<=n/\n<2 ^ 63/\ds.length*n.toNat<=F7
   ·rw[if_pos hc]at e;cases e;obtain⟨a,vs,rfl,sq,rl⟩:=r1;exact wA ae s σ H _ _ v u Q I rx ry ⟨a,n,vs,rfl,fG r2,sq,hc.1,hc.2.1,by rw[<-rl.length];exact hc.2.2,fun p hp=>eM hr hp (rl.rep n.toNat) k⟩
   ·rw[if_neg hc]at e;cases e
  |_=>cases e
 |_=>cases e
theorem kP{a b:Int}:j6 (.int a) (.int b)=if iV a b then some (.int (a*b))else none:=rfl
def qJ:D->Bool
 |.non=>true
 |_=>false
def tF(neg:Bool) (x y:D):Option D:=match y with|.non=>some (.bl (xor neg (qJ x)))|_=>none
theorem yW{K:F2}{M:DH}{H:Hp}{d:D}{x:V}(r:aT K M H d x):decide (x=V.non)=qJ d:=by
 cases d with
 |tup ds=>obtain⟨a,vs,rfl,_⟩:=r;rfl
 |lst ds=>obtain⟨a,vs,rfl,_⟩:=r;rfl
 |scr ds=>obtain⟨a,vs,rfl,_⟩:=r;rfl
 |emp=>simp only[aT,Rep]at r;obtain⟨a,rfl,_⟩:=r;rfl
 |box _ _=>simp only[aT,Rep]at r;obtain⟨a,_,rfl,_⟩:=r;rfl
 |_=>simp only[aT,Rep]at r;subst r;rfl
theorem En:cw X (Q5 .Is) (tF false):=by
 intro ae s σ H M x y v u dx dy dz Q I hr rx ry r1 r2 e k;cases dy with
 |non =>
  cases e;refine Bj ae s σ H x y v u Q I rx ry ⟨ED r2,?_⟩;rw[yW r1];exact k _ H (Ext.refl _ _) hr (by simp[Rep])
 |_=>cases e
theorem uF{b:Bool}{x:D}:tF b x .non=some (.bl (xor b (qJ x))):=rfl
variable{scope:aa1}{cl:List (Str×J7)}{ms:List Bool}{ai:List Str}{ifs:List M9}{tg iter elt:M9}
end
@[irreducible] def QEd(X:Cx) (e:M9) (t:TEd):Prop:=PEd X e t
theorem QEd.eq{X:Cx}{e:M9}{t:TEd}:QEd X e t=(PEd X e t):=by unfold QEd;rfl
@[irreducible] def QAd(X:Cx) (e:List M9) (t:TAd):Prop:=PAd X e t
theorem QAd.eq{X:Cx}{e:List M9}{t:TAd}:QAd X e t=(PAd X e t):=by unfold QAd;rfl
@[irreducible] def QTd(X:Cx) (e:M9) (t:TTd):Prop:=PTd X e t
theorem QTd.eq{X:Cx}{e:M9}{t:TTd}:QTd X e t=(PTd X e t):=by unfold QTd;rfl
@[irreducible] def QWd(X:Cx) (e:M9) (t:TTd):Prop:=PWd X e t
theorem QWd.eq{X:Cx}{e:M9}{t:TTd}:QWd X e t=(PWd X e t):=by unfold QWd;rfl
@[irreducible] def QSd(X:Cx) (e:ac2) (t:TSd):Prop:=PSd X e t
theorem QSd.eq{X:Cx}{e:ac2}{t:TSd}:QSd X e t=(PSd X e t):=by unfold QSd;rfl
@[irreducible] def QSs(X:Cx) (e:List ac2) (t:TSd):Prop:=ym X e t
theorem QSs.eq{X:Cx}{e:List ac2}{t:TSd}:QSs X e t=(ym X e t):=by unfold QSs;rfl
@[irreducible] def QId(X:Cx) (tg e:M9) (t:TId):Prop:=PId X tg e t
theorem QId.eq{X:Cx}{tg e:M9}{t:TId}:QId X tg e t=(PId X tg e t):=by unfold QId;rfl
@[irreducible] def QIf(X:Cx) (e:List M9) (t:TTd):Prop:=Dh X e t
theorem QIf.eq{X:Cx}{e:List M9}{t:TTd}:QIf X e t=(Dh X e t):=by unfold QIf;rfl
@[irreducible] def QOd(X:Cx) (e:Option M9) (t:TOd):Prop:=POd X e t
theorem QOd.eq{X:Cx}{e:Option M9}{t:TOd}:QOd X e t=(POd X e t):=by unfold QOd;rfl
theorem aa{X:Cx}(i:Nat) {x:Str}{pos:Pos}(hN:X.N[i]?=some x:=by rfl) (hv:Vis X.env.scope x:=by first|exact L6 rfl|exact aj0 (L6 rfl)|exact aj0 (aj0 rfl)) (hd:(x==("__debug__":Str))=false:=by decide)
  (hcd:(x==("__classdict__":Str))=false:=by decide):QEd X (.Name x pos) (rA i):=by
 simp only[QEd.eq]at *
 exact(Co hN hv hd hcd).conv fun σ H Q ⟨Δ,M,R,sr,hr,⟨d,e,q⟩,k⟩=>let⟨v,ev,rv⟩:=sr.2 i d e;⟨v,ev,k d M v H q (Ext.refl _ _) hr rv⟩
theorem af{X:Cx}{i j pos}:QEd X (.Constant (.int i) j pos) (dC (.int i)):=by
 simp only[QEd.eq]at *
 exact Bw.conv fun σ H Q hup=>hup.el fun Δ M R sr hr q k=>k _ M _ H q (Ext.refl _ _) hr (by simp[Rep])
theorem fU{X:Cx}{i j pos}:QEd X (.Constant (.bool i) j pos) (dC (.bl i)):=by
 simp only[QEd.eq]at *
 exact D9.conv fun σ H Q hup=>hup.el fun Δ M R sr hr q k=>k _ M _ H q (Ext.refl _ _) hr (by simp[Rep])
theorem fe{X:Cx}{i j pos}:QEd X (.Constant (.str i) j pos) (dC (.str i)):=by
 simp only[QEd.eq]at *
 exact A8.conv fun σ H Q hup=>hup.el fun Δ M R sr hr q k=>k _ M _ H q (Ext.refl _ _) hr (by simp[Rep])
theorem m3{X:Cx}{j pos}:QEd X (.Constant .none j pos) (dC .non):=by
 simp only[QEd.eq]at *
 exact B7.conv fun σ H Q hup=>hup.el fun Δ M R sr hr q k=>k _ M _ H q (Ext.refl _ _) hr (by simp[Rep])
theorem jf{X:Cx}{x:Str}{i:Int}{pos:Pos}(hg:Gl X x) (hm:∃tk,X.mg x=some (.int i tk)) (hd:(x==("__debug__":Str))=false:=by decide):QEd X (.Name x pos) (dC (.int i)):=by
 simp only[QEd.eq]at *
 obtain⟨t,ht⟩:=hm;exact zF hg ht hd
theorem jg{X:Cx}{x y:Str}{pos:Pos}(hg:Gl X x) (hm:∃tk,X.mg x=some (.str y tk)) (hd:(x==("__debug__":Str))=false:=by decide):QEd X (.Name x pos) (dC (.str y)):=by
 simp only[QEd.eq]at *
 obtain⟨t,ht⟩:=hm;exact zA hg ht hd
theorem ag{X:Cx}:QAd X [] Do:=by
 simp only[QAd.eq]at *
 exact lB.conv fun σ H Q hup=>hup.el fun Δ M R sr hr q k=>k _ M _ H q (Ext.refl _ _) hr ao.nil
theorem ab{X:Cx}{a:M9}{es:List M9}{ta:TEd}{tr:TAd}(ha:QEd X a ta) (hr:QAd X es tr) (hs:K4 (a::es) X.env=(false,ad3 a X.env)::K4 es X.env:=by rfl):QAd X (a::es) (Aw ta tr):=by
 simp only[QEd.eq,QAd.eq]at *
 exact(ie ha hr hs).conv fun σ H Q hup=>hup.el fun Δ M R sr hr q k=>⟨Δ,M,_,sr,hr,q,fun d M1 v H1 q1 e1 hr1 rv=>⟨Δ,M1,_,sr.ext e1,hr1,q1,fun ds M2 vs H2 q2 e2 hr2 rvs =>
   k _ M2 _ H2 q2 (e1.trans e2) hr2 (ao.cons (rv.ext e2) rvs)⟩⟩
theorem bF{X:Cx}{es:List M9}{pos:Pos}{x1}{t:TAd}(h:QAd X es t):QEd X (.Tuple es x1 pos) (DD t):=by
 simp only[QEd.eq,QAd.eq]at *
 exact(Bb h).conv fun σ H Q hup=>hup.el fun Δ M R sr hr q k=>⟨Δ,M,_,sr,hr,q,fun ds M1 vs H1 ⟨z,q1⟩ e1 hr1 rv=>⟨by rw[<-rv.length];exact z,fun p hp=>k _ M1 _ _ q1 (e1.trans (Ext.new hr1 hp)) (hr1.new hp) (by
   simp only[Rep];exact⟨p,vs,rfl,.inl ⟨.inl bg,hr1.fresh hp⟩,rv.ext (Ext.new hr1 hp)⟩)⟩⟩
theorem ck{X:Cx}{es:List M9}{pos:Pos}{t:TAd}(h:QAd X es t):QEd X (.List es pos) (Dv t):=by
 simp only[QEd.eq,QAd.eq]at *
 exact(wD h).conv fun σ H Q hup=>hup.el fun Δ M R sr hr q k=>⟨Δ,M,_,sr,hr,q,fun ds M1 vs H1 ⟨z,q1⟩ e1 hr1 rv=>⟨by rw[<-rv.length];exact z,fun p hp=>k _ M1 _ _ q1 (e1.trans (Ext.new hr1 hp)) (hr1.new hp) (by
   simp only[Rep];exact⟨p,vs,rfl,⟨bg,hr1.fresh hp⟩,rv.ext (Ext.new hr1 hp)⟩)⟩⟩
theorem di{X:Cx}{es:List M9}{pos:Pos}{t:TAd}(h:QAd X es t):QEd X (.List es pos) (Aa t):=by
 simp only[QEd.eq,QAd.eq]at *
 exact(wD h).conv fun σ H Q hup=>hup.el fun Δ M R sr hr q k=>⟨Δ,M,_,sr,hr,q,fun ds M1 vs H1 ⟨z,q1⟩ e1 hr1 rv=>⟨by rw[<-rv.length];exact z,fun p hp=>k _ _ _ _ (q1 p (hr1.fresh hp)) (e1.trans (Ext.own hp)) (hr1.own hp rv) (by
   simp only[Rep])⟩⟩
theorem aw{X:Cx}{a:M9}{b:M9}{ta:TEd}{tb:TEd}{pos:Pos}{op:ap1}{r:D->D->Option D}(ho:cw X (V8 op) r) (ha:QEd X a ta) (hb:QEd X b tb):QEd X (.BinOp a op b pos) (dOp r ta tb):=by
 simp only[QEd.eq]at *
 exact(zW ho.v ha hb).conv vn
theorem fh{X:Cx}{a:M9}{b:M9}{ta:TEd}{tb:TEd}{pos:Pos}{op:ap3}{r:D->D->Option D}(ho:cw X (Q5 op) r) (ha:QEd X a ta) (hb:QEd X b tb) (hm:af0 op b=false):QEd X (.Compare a [op] [b] pos) (dOp r ta tb):=by
 simp only[QEd.eq]at *
 exact(zu ho.v ha hb hm).conv vn
theorem aD{X:Cx}{a:M9}{b:M9}{ta:TEd}{tb:TEd}{pos:Pos}{r:D->D->Option D}(ho:IxR X (opV X.K r)) (ha:QEd X a ta) (hb:QEd X b tb) (hs:tS b):QEd X (.Subscript a b pos) (dOp r ta tb):=by
 simp only[QEd.eq]at *
 exact(Dt ho ha hb hs).conv vn
theorem Dz{X:Cx}{a:M9}{ta:TEd}{pos:Pos}{op:UnaryOp}{r:D->Option D}(ho:DC X (unaryOp op) r) (ha:QEd X a ta):QEd X (.UnaryOp op a pos) (dUn r ta):=by
 simp only[QEd.eq]at *
 have h:UnR X (unaryOp op) (fun x H Q=>∃dx dz M,HR X.K M H/\aT X.K M H dx x/\r dx=some dz/\∀w H',Ext M H M H'->HR X.K M H'->Rep X.K M H' dz w->Q w H'):=fun ae s σ H x v Q I rx ⟨dx,dz,M,hr,r1,e,k⟩=>ho ae s σ H M x v dx dz Q I hr rx r1 e k;exact(Dj h ha).conv fun σ H Q hup=>hup.el fun Δ M R sr hr q k=>⟨Δ,M,_,sr,hr,q,fun x M1 v H1 ⟨z,ez,q1⟩ e1 hr1 rv=>⟨_,z,M1,hr1,rv.rd hr1,ez,fun w H' e2 hr2 rw_=>k z M1 w H' q1 (e1.trans e2) hr2 rw_⟩⟩
theorem aQ{X:Cx}{a:M9}{b:M9}{ta:TEd}{tb:TEd}{pos:Pos}{op:ap3}{r:D->D->Option D}(ho:cw X (Q5 op) r) (ha:QEd X a ta) (hb:QEd X b tb) (hm:af0 op b=false):QTd X (.Compare a [op] [b] pos) (yR (dOp r ta tb)):=by
 simp only[QEd.eq,QTd.eq]at *
 refine(zB ho.v ha hb hm).conv fun σ H Q h=>?_;obtain⟨Δ,M,R,sr,hr,q,k⟩:=h;exact⟨Δ,M,_,sr,hr,q,fun x M1 v H1 q1 e1 hr1 rv=>⟨Δ,M1,_,sr.ext e1,hr1,q1,fun y M2 u H2 ⟨z,ez,b,eb,q2⟩ e2 hr2 ru=>⟨_,_,z,M2,hr2,(rv.ext e2).rd hr2,ru.rd hr2,ez,fun w H' e3 hr3 rw_ =>
  ⟨b,by subst eb;simpa only[Rep]using rw_,k b M2 H' q2 ((e1.trans e2).trans e3) hr3⟩⟩⟩⟩
theorem bu{X:Cx}{a:M9}{ta:TEd}(h:QEd X a ta) (he:∀whole,isTrue a X.env whole=(do let v <-whole;an2 a.pos;ak9 [v] (truthy v)):=by intro _;rfl):QTd X a (yR ta):=by
 simp only[QEd.eq,QTd.eq]at *
 exact(Cu h he).conv Ea
theorem bM{X:Cx}{a:M9}{pos:Pos}{tA:TTd}(h:QTd X a tA):QTd X (.UnaryOp .Not a pos) (Ag tA):=by
 simp only[QTd.eq]at *
 exact(AQ h).conv fun σ H Q hup=>hup.el fun Δ M R sr hr q k=>⟨Δ,M,_,sr,hr,q,fun b M1 H1 q1 e1 hr1=>k _ M1 H1 q1 e1 hr1⟩
theorem jl{X:Cx}{a:M9}{pos:Pos}{tA:TTd}(ha:QTd X a tA):QWd X (.BoolOp .And [a] pos) tA:=by
 simp only[QTd.eq,QWd.eq]at *
 exact yU ha
theorem dq{X:Cx}{a:M9}{pos:Pos}{tA:TTd}(ha:QTd X a tA):QWd X (.BoolOp .Or [a] pos) tA:=by
 simp only[QTd.eq,QWd.eq]at *
 exact BZ ha
theorem mj{X:Cx}{a:M9}{b:M9}{pos:Pos}{tA:TTd}{tB':TTd}{rest:List M9}(ha:QTd X a tA) (hb:QWd X (.BoolOp .And (b::rest) pos) tB'):QWd X (.BoolOp .And (a::b::rest) pos) (AA tA tB'):=by
 simp only[QTd.eq,QWd.eq]at *
 exact(BP ha hb).conv fun σ H Q hup=>hup.el fun Δ M R sr hr q k=>⟨Δ,M,_,sr,hr,q,fun c M1 H1 q1 e1 hr1=>by
   cases c with
   |true=>simp only[if_true]at q1 ⊢;exact⟨Δ,M1,R,sr.ext e1,hr1,q1,fun b M2 H2 q2 e2 hr2=>k b M2 H2 q2 (e1.trans e2) hr2⟩
   |false=>simp only[K1,if_false]at q1 ⊢;exact k _ M1 H1 q1 e1 hr1⟩
theorem cZ{X:Cx}{a:M9}{b:M9}{pos:Pos}{tA:TTd}{tB':TTd}{rest:List M9}(ha:QTd X a tA) (hb:QWd X (.BoolOp .Or (b::rest) pos) tB'):QWd X (.BoolOp .Or (a::b::rest) pos) (D2 tA tB'):=by
 simp only[QTd.eq,QWd.eq]at *
 exact(C1 ha hb).conv fun σ H Q hup=>hup.el fun Δ M R sr hr q k=>⟨Δ,M,_,sr,hr,q,fun c M1 H1 q1 e1 hr1=>by
   cases c with
   |false=>simp only[K1,if_false]at q1 ⊢;exact⟨Δ,M1,R,sr.ext e1,hr1,q1,fun b M2 H2 q2 e2 hr2=>k b M2 H2 q2 (e1.trans e2) hr2⟩
   |true=>simp only[if_true]at q1 ⊢;exact k _ M1 H1 q1 e1 hr1⟩
theorem fM{X:Cx}{a:M9}{ta:TEd}{pos:Pos}{op}(h:QEd X a ta):QEd X (.BoolOp op [a] pos) ta:=by
 simp only[QEd.eq]at *
 exact Bs h
theorem cz{X:Cx}{a:M9}{b:M9}{ta:TEd}{tb:TEd}{pos:Pos}{rest:List M9}(ha:QEd X a ta) (hb:QEd X (.BoolOp .And (b::rest) pos) tb):QEd X (.BoolOp .And (a::b::rest) pos) (DG ta tb):=by
 simp only[QEd.eq]at *
 exact(Cr ha hb).conv fun σ H Q hup=>hup.el fun Δ M R sr hr q k=>⟨Δ,M,_,sr,hr,q,fun d M1 v H1 ⟨c,e,q1⟩ e1 hr1 rv=>⟨c,by subst e;simpa only[Rep]using rv,by
   cases c with
   |true=>simp only[if_true]at q1 ⊢;exact⟨Δ,M1,R,sr.ext e1,hr1,q1,fun b M2 v2 H2 q2 e2 hr2 r2=>k b M2 v2 H2 q2 (e1.trans e2) hr2 r2⟩
   |false=>simp only[K1,if_false]at q1 ⊢;exact k _ M1 _ H1 q1 e1 hr1 (by simp[Rep])⟩⟩
theorem AI{X:Cx}{a:M9}{ta:TEd}{pos:Pos}(ha:QEd X a ta):QEd X (.UnaryOp .Not a pos) (Dq ta):=by
 simp only[QEd.eq]at *
 exact(Cd ha).conv fun σ H Q hup=>hup.el fun Δ M R sr hr q k=>⟨Δ,M,_,sr,hr,q,fun d M1 v H1 ⟨c,e,q1⟩ e1 hr1 rv =>
  ⟨c,by subst e;simpa only[Rep]using rv,k _ M1 _ H1 q1 e1 hr1 (by simp[Rep])⟩⟩
theorem Eo{X:Cx}{a:M9}{b:M9}{c:M9}{ta:TEd}{tb:TEd}{pos:Pos}{tA:TTd}(hc:QTd X c tA) (ha:QEd X a ta) (hb:QEd X b tb):QEd X (.IfExp c a b pos) (dIf tA ta tb):=by
 simp only[QEd.eq,QTd.eq]at *
 exact(wY hc ha hb).conv fun σ H Q hup=>hup.el fun Δ M R sr hr q k=>⟨Δ,M,_,sr,hr,q,fun c M1 H1 q1 e1 hr1=>by
   cases c with
   |true=>simp only[if_true]at q1 ⊢;exact⟨Δ,M1,R,sr.ext e1,hr1,q1,fun b M2 v2 H2 q2 e2 hr2 r2=>k b M2 v2 H2 q2 (e1.trans e2) hr2 r2⟩
   |false=>simp only[K1,if_false]at q1 ⊢;exact⟨Δ,M1,R,sr.ext e1,hr1,q1,fun b M2 v2 H2 q2 e2 hr2 r2=>k b M2 v2 H2 q2 (e1.trans e2) hr2 r2⟩⟩
theorem kS{X:Cx}{a:M9}{b:M9}{c:M9}{ta:TEd}{tb:TEd}{pos:Pos}{tc:TEd}{op op':ap3}{r r':D->D->Option D}(ho:cw X (Q5 op) r) (ho':cw X (Q5 op') r') (ha:QEd X a ta) (hb:QEd X b tb) (hc:QEd X c tc)
  (hm:lastMarks [op,op'] [b,c]=false:=by with_unfolding_all rfl):QEd X (.Compare a [op,op'] [b,c] pos) (vm r r' ta tb tc):=by
 simp only[QEd.eq]at *
 refine(wH ho.v ho'.v ha hb hc hm).conv fun σ H Q h=>?_;obtain⟨Δ,M,R,sr,hr,q,k⟩:=h;refine⟨Δ,M,_,sr,hr,q,fun x M1 v H1 q1 e1 hr1 rv=>⟨Δ,M1,_,sr.ext e1,hr1,q1,fun y M2 u H2 ⟨b,eb,q2⟩ e2 hr2 ru=>⟨_,_,.bl b,M2,hr2,(rv.ext e2).rd hr2,ru.rd hr2,eb,fun w H3 e3 hr3 rw_ =>
  ⟨b,by simpa only[Rep]using rw_,?_⟩⟩⟩⟩
 cases b with
 |true =>
  simp only[if_true]at q2 ⊢;exact⟨Δ,M2,_,(sr.ext (e1.trans e2)).ext e3,hr3,q2,fun z M4 w4 H4 ⟨d,ed,q4⟩ e4 hr4 r4=>⟨_,_,d,M4,hr4,((ru.ext e3).ext e4).rd hr4,r4.rd hr4,ed,fun w5 H5 e5 hr5 r5=>k d M4 w5 H5 q4 ((((e1.trans e2).trans e3).trans e4).trans e5) hr5 r5⟩⟩
 |false =>
  simp only[K1,if_false]at q2 ⊢;exact k _ M2 _ H3 q2 ((e1.trans e2).trans e3) hr3 (by simp[Rep])
theorem au{X:Cx}{pos:Pos}{x:Str}{p:Pos}{e:M9}{es:List M9}{t:TAd}{id:String}{r:List D->Option D}(hc:bH X (.builtin id) r) (hg:Gl X x) (hm:X.mg x=none) (hv:W4 x=some (.builtin id)) (ha:QAd X (e::es) t) (hn:x≠"__name__":=by decide) (hdb:(x==("__debug__":Str))=false:=by decide)
  (he:K4 (e::es) X.env=(false,ad3 e X.env)::K4 es X.env:=by rfl) (hpl:(V7 pos (K4 es X.env)).any (·.1)=false:=by rfl):QEd X (.Call (.Name x p) (e::es) [] pos) (dCB r t):=by
 simp only[QEd.eq,QAd.eq]at *
 exact(pT hc.v hg hm hv ha hn hdb he hpl).conv AF
theorem aY{X:Cx}{pos:Pos}{x:Str}{p:Pos}{e:M9}{es:List M9}{t:TAd}{id:String}{r:List D->Option D}(hc:bH X (.type id) r) (hg:Gl X x) (hm:X.mg x=none) (hv:W4 x=some (.type id)) (ha:QAd X (e::es) t) (hn:x≠"__name__":=by decide) (hdb:(x==("__debug__":Str))=false:=by decide)
  (he:K4 (e::es) X.env=(false,ad3 e X.env)::K4 es X.env:=by rfl) (hpl:(V7 pos (K4 es X.env)).any (·.1)=false:=by rfl):QEd X (.Call (.Name x p) (e::es) [] pos) (dCB r t):=by
 simp only[QEd.eq,QAd.eq]at *
 exact(nV hc.v hg hm hv ha hn hdb he hpl).conv AF
theorem bf{X:Cx}:QSs X [] Am:=by
 simp only[QSs.eq]at *
 exact yw.conv fun D σ H hup=>hup.el fun Δ M E sr hr q u=>u.nx Δ M σ H q (Ext.refl _ _) hr sr
theorem ah{X:Cx}{st:ac2}{rest:List ac2}{t:TSd}{u:TSd}(h1:QSd X st t) (h2:QSs X rest u):QSs X (st::rest) (BC t u):=by
 simp only[QSd.eq,QSs.eq]at *
 exact(xN h1 h2).conv fun D σ H hup=>hup.el fun Δ M E sr hr q k=>⟨Δ,M,{ E with nx:=u E },sr,hr,q,⟨fun Δ' M' σ' H' q' e' hr' sr'=>⟨Δ',M',E,sr',hr',q',k.ext e'⟩,k.bk,k.ct,k.rt⟩⟩
theorem am{X:Cx}{st:ac2}{t:TSd}(h1:QSd X st t):QSs X [st] t:=by
 simp only[QSd.eq,QSs.eq]at *
 exact zR h1
theorem aW{X:Cx}{e:M9}{te:TEd}{pos:Pos}(he:QEd X e te):QSd X (.Return (some e) pos) (Ee te):=by
 simp only[QEd.eq,QSd.eq]at *
 exact(rb he).conv fun D σ H hup=>hup.el fun Δ M E sr hr q k=>⟨Δ,M,_,sr,hr,q,k.rt⟩
theorem cj{X:Cx}{e:M9}{te:TEd}{pos:Pos}(he:QEd X e te) (hs:ae0 e none pos.line X.env=ad0 false:=by rfl):QSd X (.Expr e pos) (zY te):=by
 simp only[QEd.eq,QSd.eq]at *
 exact(zz he hs).conv fun D σ H hup=>hup.el fun Δ M E sr hr q k=>⟨Δ,M,_,sr,hr,q,fun d M1 v H1 q1 e1 hr1 _=>k.nx Δ M1 σ H1 q1 e1 hr1 (sr.ext e1)⟩
theorem bC{X:Cx}{c:M9}{pos:Pos}{t:TSd}{u:TSd}{sa sb:List ac2}{tc:TTd}(hc:QTd X c tc) (ha:QSs X sa t) (hb:QSs X sb u):QSd X (.If c sa sb pos) (D5 tc t u):=by
 simp only[QTd.eq,QSd.eq,QSs.eq]at *
 exact(Eb hc ha hb).conv fun D σ H hup=>hup.el fun Δ M E sr hr q k=>⟨Δ,M,_,sr,hr,q,fun b M1 H1 q1 e1 hr1=>by
   cases b with
   |true=>simp only[if_true]at q1 ⊢;exact⟨Δ,M1,E,sr.ext e1,hr1,q1,k.ext e1⟩
   |false=>simp only[K1,if_false]at q1 ⊢;exact⟨Δ,M1,E,sr.ext e1,hr1,q1,k.ext e1⟩⟩
theorem aC{X:Cx}{e:M9}{te:TEd}{pos:Pos}{i:Nat}{x:Str}{pos':Pos}(hN:X.N.Nodup) (hi:X.N[i]?=some x) (hx:Loc X.env.scope x) (he:QEd X e te) (hs:ae0 e (some (.Name x pos')) pos.line X.env=ad0 false:=by rfl) (hf:X.fn x=true∨X.env.scope.names.lookup x=some .local:=by first|exact .inl rfl|exact .inr rfl|assumption) :
  QSd X (.Assign [.Name x pos'] e pos) (qq i te):=by
 simp only[QEd.eq,QSd.eq]at *
 exact(Cf hN hi hx he hs hf).conv fun D σ H hup=>hup.el fun Δ M E sr hr q k=>⟨Δ,M,_,sr,hr,q,fun d M1 v H1 q1 e1 hr1 rv=>k.nx _ M1 _ H1 q1 e1 hr1 ((sr.ext e1).set i rv)⟩
theorem CK{X:Cx}{e:M9}{te:TEd}{pos:Pos}{i:Nat}{x:Str}{op:ap1}{r:D->D->Option D}{pos':Pos}(hN:X.N.Nodup) (hi:X.N[i]?=some x) (hx:Loc X.env.scope x) (he:QEd X e te) (ho:cw X (ao1 op) r) (hf:X.fn x=true∨X.env.scope.names.lookup x=some .local:=by first|exact .inl rfl|exact .inr rfl|assumption) :
  QSd X (.AugAssign (.Name x pos') op e pos) (D6 i te r):=by
 simp only[QEd.eq,QSd.eq]at *
 have h:PIp X op (opV X.K r):=fun ae s σ H x y v u Q I rx ry q=>ho.v ae s σ H x y v u Q I rx ry q;refine(BB hN hi hx he h hf).conv fun D σ H hh=>?_;obtain⟨Δ,M,E,sr,hr,⟨d,ed,q⟩,k⟩:=hh;obtain⟨v,ev,rv⟩:=sr.2 i d ed;refine⟨v,ev,Δ,M,_,sr,hr,q,fun y M1 w H1 ⟨z,ez,q1⟩ e1 hr1 rw_=>⟨_,_,z,M1,hr1,(rv.ext e1).rd hr1,rw_.rd hr1,ez,fun w2 H2 e2 hr2 r2=>k.nx _ M1 _ H2 q1 (e1.trans e2) hr2 (((sr.ext e1).ext e2).set i r2)⟩⟩
theorem ot{X:Cx}{t:TSd}{sts:List ac2}(i:Nat) (h:QSs X sts t):QSs X sts (wB i t):=by
 simp only[QSs.eq]at *
 exact PSs.conv h fun D σ H ⟨Δ,M,E,sr,hr,⟨a,ds,e1,e2,q⟩,k⟩=>by
  refine⟨_,iq M a,E,?_,hr.le LeM.del,q,k.ext (Ext.le LeM.del)⟩;obtain⟨v,ev,rv⟩:=sr.2 i _ e1;simp only[Rep]at rv;subst rv;have:=(sr.ext (Ext.le (M1:=iq M a) LeM.del)).set i (Rep.froze (M1:=iq M a) hr LeM.del e2 fK);have es:σ.set i (some (.ref a))=σ:=by
   apply List.ext_getElem?;intro j
   by_cases hj:j=i
   ·subst hj;have hl:j<σ.length:=(F8.mp ev).1;rw[S8 hl,ev]
   ·rw[W0 (aa7 hj)]
  rw[es]at this;exact this
theorem nN{X:Cx}{e:M9}{te:TEd}{pos:Pos}{tg:M9}{g:GD}(he:QEd X e te) (hg:PGd X tg g) (hs:aj6 [tg] e pos.line X.env=ad0 false:=by rfl) (hw:aj7 [tg] e X.env=ad0 none:=by rfl)
  (h1:(U9 [tg] X.env).map (·.2)=[ag8 tg X.env]:=by rfl):QSd X (.Assign [tg] e pos) (Di te g):=by
 simp only[QEd.eq,QSd.eq]at *
 obtain⟨gv,pg,kg⟩:=hg;exact(xm he pg hs hw h1).conv fun D σ H hup=>hup.el fun Δ M E sr hr q k=>⟨Δ,M,_,sr,hr,q,fun d M1 v H1 ⟨Δ',eg,q1⟩ e1 hr1 rv=>kg d v σ Δ Δ' M1 H1 _ (sr.ext e1) hr1 rv eg fun σ' sr'=>k.nx Δ' M1 σ' H1 q1 e1 hr1 sr'⟩
theorem de{X:Cx}{a:M9}{pos:Pos}{tg:M9}{ta:TAd}{p:Pos}(hg:Gl X "range") (hm:X.mg "range"=none) (ha:QAd X [a] ta) (hs:K4 [a] X.env=[(false,ad3 a X.env)]:=by rfl):QId X tg (.Call (.Name "range" p) [a] [] pos) (uZ ta):=by
 simp only[QAd.eq,QId.eq]at *
 exact(ud hg hm ha hs).conv fun σ H R hup=>hup.el fun Δ M R' sr hr q k=>⟨Δ,M,_,sr,hr,q,fun ds M1 vs H1 ⟨j,ed,h1,h2,q1⟩ e1 hr1 rv=>by
   subst ed;obtain⟨v,ev,rv1⟩:=rv.one;have ev1:v=.int j:=by simpa only[Rep]using rv1
   subst ev1;subst ev;exact⟨j,rfl,h1,h2,k _ M1 _ H1 q1 e1 hr1 yJ⟩⟩
theorem bU{X:Cx}{pos:Pos}{tg:M9}{iter:M9}{body:List ac2}{wi:TId}{g:GD}{tb:TSd}(hp:P4 (L5 X.prog X.w) X.A X.env X.xe) (hc:X.calm=true) (hi:QId X tg iter wi) (hg:PGd X tg g) (hb:QSs X body tb)
  (hs:∀x,N3 iter X.env x=ad0 x:=by intro _;rfl):QSd X (.For tg iter body [] pos) (DK wi g tb):=by
 simp only[QSd.eq,QSs.eq,QId.eq]at *
 obtain⟨gv,pg,kg⟩:=hg;refine(Cg hp hc hi pg hb hs).conv fun D σ H hh=>?_;obtain⟨Δ,M,E,sr,hr,q,k⟩:=hh;refine⟨Δ,M,_,sr,hr,q,fun ds M1 J H1 q1 e1 hr1 it=>?_⟩;refine⟨fun i m σ' H'=>∃ Δ' M',m=ds.length-i/\i<=ds.length/\Ext M1 H1 M' H'/\HR X.K M' H'/\SR X.K M' H' σ' Δ'/\fi g tb E (ds.drop i) Δ' M',⟨ds.length,Δ,M1,by simp,P6 _,Ext.refl _ _,hr1,sr.ext e1,q1⟩,?_⟩;rintro i m σ2 H2 ⟨Δ2,M2,rfl,hi2,e2,hr2,sr2,f2⟩;obtain⟨go,stop⟩:=it M2 H2 e2 hr2 i
 by_cases hlt:i<ds.length
 ·have hd:ds[i]?=some ds[i]:=by simp[hlt]
  obtain⟨g1,y1⟩:=go _ hd;rw[aa3 hlt]at f2;simp only[fi]at f2;obtain⟨Δ3,eg,f3⟩:=f2;refine .inr ⟨g1,fun σ' H'=>∃m',m'<ds.length-i/\∃ Δ' M',m'=ds.length-(i+1)/\i+1<=ds.length/\Ext M1 H1 M' H'/\HR X.K M' H'/\SR X.K M' H' σ' Δ'/\fi g tb E (ds.drop (i+1)) Δ' M',fun σ' H' z=>z,fun x H' hy=>?_⟩;obtain⟨e3,hr3,rx⟩:=y1 x H' hy;refine kg _ x σ2 Δ2 Δ3 M2 H' _ (sr2.ext e3) hr3 rx eg fun σ3 sr3=>?_;refine⟨Δ3,M2,_,sr3,hr3,f3,⟨fun Δ' M' σ' H'' q' e' hr' sr'=>?_,fun Δ' M' σ' H'' q' e' hr' sr'=>?_,fun Δ' M' σ' H'' q' e' hr' sr'=>?_,fun d M' v H'' q' e' hr' rv'=>?_⟩⟩
  ·exact⟨_,by lia,Δ',M',rfl,hlt,(e2.trans e3).trans e',hr',sr',q'⟩
  ·exact k.nx Δ' M' σ' H'' q' (((e1.trans e2).trans e3).trans e') hr' sr'
  ·exact⟨_,by lia,Δ',M',rfl,hlt,(e2.trans e3).trans e',hr',sr',q'⟩
  ·exact k.rt d M' v H'' q' (((e1.trans e2).trans e3).trans e') hr' rv'
 ·rw[ad7 (by lia)]at f2;exact .inl ⟨stop (by lia),k.nx Δ2 M2 σ2 H2 f2 (e1.trans e2) hr2 sr2⟩
theorem kR{X:Cx}{c:M9}{pos:Pos}{body:List ac2}{tc:TTd}{tb:TSd}(hp:P4 (L5 X.prog X.w) X.A X.env X.xe) (hc:QTd X c tc) (hb:QSs X body tb):QSd X (.While c body [] pos) (vM tc tb):=by
 simp only[QTd.eq,QSd.eq,QSs.eq]at *
 refine(wZ hp hc hb).conv fun D σ H hh=>?_;obtain⟨Δ,M,E,sr,hr,⟨W,⟨m0,w0⟩,turn⟩,k⟩:=hh;refine⟨fun m σ' H'=>∃ Δ' M',Ext M H M' H'/\HR X.K M' H'/\SR X.K M' H' σ' Δ'/\W m Δ' M',⟨m0,Δ,M,Ext.refl _ _,hr,sr,w0⟩,?_⟩;rintro m σ1 H1 ⟨Δ1,M1,e1,hr1,sr1,w1⟩;refine⟨Δ1,M1,_,sr1,hr1,turn m Δ1 M1 w1,fun b M2 H2 q2 e2 hr2=>?_⟩;cases b with
 |true =>
  simp only[if_true]at q2 ⊢;refine⟨fun σ' H'=>∃m',m'<m/\∃ Δ' M',Ext M H M' H'/\HR X.K M' H'/\SR X.K M' H' σ' Δ'/\W m' Δ' M',fun σ' H' z=>z,Δ1,M2,_,sr1.ext e2,hr2,q2,⟨fun Δ' M' σ' H'' ⟨m',hm,w'⟩ e' hr' sr'=>?_,fun Δ' M' σ' H'' q' e' hr' sr'=>?_,fun Δ' M' σ' H'' ⟨m',hm,w'⟩ e' hr' sr'=>?_,fun d M' v H'' q' e' hr' rv'=>?_⟩⟩
  ·exact⟨m',hm,Δ',M',(e1.trans e2).trans e',hr',sr',w'⟩
  ·exact k.nx Δ' M' σ' H'' q' ((e1.trans e2).trans e') hr' sr'
  ·exact⟨m',hm,Δ',M',(e1.trans e2).trans e',hr',sr',w'⟩
  ·exact k.rt d M' v H'' q' ((e1.trans e2).trans e') hr' rv'
 |false =>
  simp only[K1,if_false]at q2 ⊢;exact k.nx Δ1 M2 σ1 H2 q2 (e1.trans e2) hr2 (sr1.ext e2)
theorem bv{X:Cx}:QIf X [] vR:=by
 simp only[QIf.eq]at *
 exact fun ae s σ H Q I ⟨Δ,M,R,sr,hr,q,k⟩=>y0 ae s σ H Q I (k true M H q (Ext.refl _ _) hr)
theorem rO{X:Cx}{c:M9}{tc:TTd}(h:QTd X c tc):QIf X [c] tc:=by
 simp only[QTd.eq,QIf.eq]at *
 exact yN h
theorem fF{X:Cx}{pos:Pos}{tg:M9}{iter:M9}{elt:M9}{scope:aa1}{cl:List (Str×J7)}{ms:List Bool}{ai:List Str}{ifs:List M9}{wi:TId}{g:GD}{tc:TTd}{te:TEd}(S:cK X scope cl ms ai) (cp:X.calm=true) (hi:QId X tg iter wi) (hg:PGa X scope cl ai tg g)
  (hif:∀C s H ex,QIf (ax X scope cl (X.N++ai) C s H ex) ifs tc) (he:∀C s H ex,QEd (ax X scope cl (X.N++ai) C s H ex) elt te)
  (hs:∀x,N3 iter X.env x=ad0 x:=by intro _;rfl):QEd X (.ListComp elt [⟨tg,iter,ifs,0⟩] scope pos) (dLc ms ai.length wi g tc te):=by
 simp only[QEd.eq,QId.eq,QIf.eq]at *
 obtain⟨gv,pg,kg⟩:=hg;exact(Cn (tc:=upT X.K tc) S cp hi pg hif (xO (te:=up X.K te) he) hs).conv (tG kg)
theorem i8{X:Cx}{pos:Pos}{tg:M9}{iter:M9}{elt:M9}{scope:aa1}{cl:List (Str×J7)}{ms:List Bool}{ai:List Str}{ifs:List M9}{i:Nat}{x:Str}{spos pos':Pos}{wi:TId}{g:GD}{tc:TTd}{te:TEd}(hN:X.N.Nodup) (hix:X.N[i]?=some x) (hx:X.env.scope.names.lookup x=some .local)
  (hsw:ae0 (.ListComp elt [⟨tg,iter,ifs,0⟩] scope pos) (some (.Name x pos')) spos.line X.env=ad0 true) (S:cK X scope cl ms ai) (cp:X.calm=true) (hi:QId X tg iter wi) (hg:PGa X scope cl ai tg g)
  (hif:∀C s H ex,QIf (ax X scope cl (X.N++ai) C s H ex) ifs tc) (he:∀C s H ex,QEd (ax X scope cl (X.N++ai) C s H ex) elt te)
  (hs:∀x,N3 iter X.env x=ad0 x:=by intro _;rfl):QSd X (.Assign [.Name x pos'] (.ListComp elt [⟨tg,iter,ifs,0⟩] scope pos) spos) (qq i (dLc ms ai.length wi g tc te)):=by
 simp only[QEd.eq,QSd.eq,QId.eq,QIf.eq]at *
 obtain⟨gv,pg,kg⟩:=hg;refine(jV (tc:=upT X.K tc) hN hix hx hsw S cp hi pg hif (xO (te:=up X.K te) he) hs).conv fun D σ H hh=>?_;obtain⟨Δ,M,E,sr,hr,q,k⟩:=hh;exact tG kg σ H _ ⟨Δ,M,_,sr,hr,q,fun d M1 v H1 q1 e1 hr1 rv=>k.nx _ M1 _ H1 q1 e1 hr1 ((sr.ext e1).set i rv)⟩
theorem vB{X:Cx}{e:M9}{te:TEd}{pos:Pos}{o i:M9}{to ti:TEd}{p:Pos}(ho:QEd X o to) (hi:QEd X i ti) (he:QEd X e te)
  (ha:∀ v,ag8 (.Subscript o i p) X.env v = (do
   let ov <-ak9 [v] (ad3 o X.env)
   let iv <-ak9 [v,ov] (ad3 i X.env)
   an2 p
   ak9 [v,ov,iv] (setItem ov iv v)
   release [v,ov,iv] []):=by intro _;rfl) (hs:aj6 [.Subscript o i p] e pos.line X.env=ad0 false:=by rfl) (hw:aj7 [.Subscript o i p] e X.env=ad0 none:=by rfl)
  (h1:(U9 [.Subscript o i p] X.env).map (·.2)=[ag8 (.Subscript o i p) X.env]:=by rfl):QSd X (.Assign [.Subscript o i p] e pos) (CU to ti te):=by
 simp only[QEd.eq,QSd.eq]at *
 exact(xm he (Cj ho hi xk ha) hs hw h1).conv fun D σ H hup=>hup.el fun Δ M E sr hr q k=>⟨Δ,M,_,sr,hr,q,fun d M1 v H1 q1 e1 hr1 rv=>⟨Δ,M1,_,sr.ext e1,hr1,q1,fun o M2 ov H2 q2 e2 hr2 ro=>⟨Δ,M2,_,(sr.ext e1).ext e2,hr2,q2,fun i M3 iv H3 ⟨a,ds,kk,j,eo,ei,em,ej,q3⟩ e3 hr3 ri=>by
   subst eo;subst ei;simp only[Rep]at ro ri;subst ro;subst ri;obtain⟨vs,hv,rl⟩:=hr3 a _ em;refine⟨a,vs,kk,j,rfl,rfl,hv,by rw[<-rl.length];exact ej,?_⟩;exact k.nx Δ _ σ _ q3 (((e1.trans e2).trans e3).trans (Ext.write em)) (hr3.write em (rl.set j ((rv.ext e2).ext e3))) ((((sr.ext e1).ext e2).ext e3).ext (Ext.write em))⟩⟩⟩
theorem eT{X:Cx}{e:M9}{te:TEd}{o:M9}{to:TEd}{dX bJ:Pos}(ho:QEd X o to) (he:QEd X e te) (fD:Z0 o "append" X.env (ad3 o X.env)=ad3 o X.env:=by rfl)
  (hse:K4 [e] X.env=(false,ad3 e X.env)::K4 [] X.env:=by rfl)
  (mn:((V7 bJ (K4 [e] X.env)).all (fun x => !x.1) && (am8 bJ (ah8 [] X.env)).all (fun x => x.1.isSome)
  &&decide ([e].length+([]:List ah9).length+(if([]:List ah9).isEmpty then 0 else 1)<30))=true:=by rfl)
  (fC:(dX.endLine==bJ.line)=true:=by rfl) (fX:(V7 bJ (K4 [] X.env)).any (·.1)=false:=by rfl):QEd X (.Call (.Attribute o "append" dX) [e] [] bJ) (D1 to te):=by
 simp only[QEd.eq]at *
 exact(As PySem.F.plainAttrs_list PySem.F.slot_list_append PySem.F.type_list_append (show MtR X "list.append" tq from uI) ho (ie he lB hse) fD mn fC hse fX).conv fun σ H Q hup=>hup.el fun Δ M R sr hr q k=>⟨Δ,M,_,sr,hr,q,fun o M1 ov H1 ⟨a,l,eo,em,q1⟩ e1 hr1 ro=>by
   subst eo;simp only[Rep]at ro;subst ro;obtain⟨vs,hv,rl⟩:=hr1 a _ em;refine⟨.inl ⟨rfl,vs,SqL.of hv⟩,Δ,M1,_,sr.ext e1,hr1,q1,fun d M2 v H2 ⟨ds,em2,hz,q2⟩ e2 hr2 rv=>?_⟩;obtain⟨ws,hw,rl2⟩:=hr2 a _ em2;refine⟨a,ws,v,rfl,rfl,hw,by rw[<-rl2.length];exact hz,k _ _ _ _ q2 ((e1.trans e2).trans (Ext.write em2)) (hr2.write em2 (rl2.append (ao.cons rv ao.nil))) (by simp[Rep])⟩⟩
theorem bV{X:Cx}{a:M9}{ta:TEd}{pos:Pos}{T:Str}{Tn:String}{p p2:Pos}(hT:okT Tn=true) (hg:Gl X "isinstance") (hm:X.mg "isinstance"=none) (hg2:Gl X T) (hm2:X.mg T=none) (hv2:W4 T=some (.type Tn)) (ha:QEd X a ta) (hn2:T≠"__name__":=by decide) (hd2:(T==("__debug__":Str))=false:=by decide)
  (hs:K4 [a,.Name T p2] X.env=(false,ad3 a X.env)::K4 [.Name T p2] X.env:=by rfl) (hs2:K4 [.Name T p2] X.env=(false,ad3 (.Name T p2) X.env)::K4 [] X.env:=by rfl) (hpl:(V7 pos (K4 [.Name T p2] X.env)).any (·.1)=false:=by rfl) :
  QEd X (.Call (.Name "isinstance" p) [a,.Name T p2] [] pos) (CB Tn ta):=by
 simp only[QEd.eq]at *
 have hc:dg X (.builtin "isinstance") (fun xs H Q=>∃v d k M,xs=[v,.ty Tn]/\aT X.K M H d v/\vF Tn d=some k/\Q (.bl k) H):=by
  intro ae s σ H xs us Q I rv h;obtain⟨v,d,k,M,rfl,rd,ek,q⟩:=h;obtain⟨u1,u2,rfl,r1,r2⟩:=ay.two rv;cases r2;exact ub hT I r1 rd ek q
 refine(pT hc hg hm (by kernel_rfl) (ie ha (ie (zq (v:=.ty Tn) hg2 hm2 hv2 rfl hn2 hd2) lB hs2) hs) (by decide) (by decide) hs hpl).conv fun σ H Q hh=>?_;obtain⟨Δ,M,R,sr,hr,q,k⟩:=hh;exact⟨Δ,M,_,sr,hr,q,fun d M1 v H1 ⟨kk,ek,q1⟩ e1 hr1 rv=>⟨v,_,kk,M1,rfl,rv.rd hr1,ek,k _ M1 _ H1 q1 e1 hr1 (by simp[Rep])⟩⟩
theorem bp{X:Cx}:QOd X none oA:=by
 simp only[QEd.eq,QAd.eq,QTd.eq,QWd.eq,QSd.eq,QSs.eq,QId.eq,QIf.eq,QOd.eq]at *
 exact yt 
theorem aU{X:Cx}{e:M9}{te:TEd}(h:QEd X e te):QOd X (some e) (wI te):=by
 simp only[QEd.eq,QAd.eq,QTd.eq,QWd.eq,QSd.eq,QSs.eq,QId.eq,QIf.eq,QOd.eq]at *
 exact zL (h:=h)
theorem qc{X:Cx}{e:M9}{es:List M9}{t:TAd}{pos:Pos}{p:Pos}{x:Str}{k:Nat}{n:Nat}{S:SpD}(F:FnD X.prog X.w X.K X.mg X.base x k n S) (hr:cU k X.A) (hg:Gl X x) (ha:QAd X (e::es) t) (hdb:(x==("__debug__":Str))=false:=by decide) (he:K4 (e::es) X.env=(false,ad3 e X.env)::K4 es X.env:=by rfl) (hpl:(V7 pos (K4 es X.env)).any (·.1)=false:=by rfl) :
  QEd X (.Call (.Name x p) (e::es) [] pos) (qg n S t):=by
 simp only[QEd.eq,QAd.eq,QTd.eq,QWd.eq,QSd.eq,QSs.eq,QId.eq,QIf.eq,QOd.eq]at *
 exact dc (F:=F) (hr:=hr) (hg:=hg) (ha:=ha) (hdb:=hdb) (he:=he) (hpl:=hpl)
theorem oq{X:Cx}{e:M9}{te:TEd}{pos:Pos}(he:QEd X e te):QSd X (.Return (some e) pos) (Ah te):=by
 simp only[QEd.eq,QSd.eq]at *
 exact(rb he).conv fun D σ H hup=>hup.el fun Δ M E sr hr q k=>⟨Δ,M,_,sr,hr,q,fun d M1 v H1 ⟨a,ds,ed,em,q1⟩ e1 hr1 rv=>by
  subst ed;simp only[Rep]at rv;subst rv;exact k.rt _ _ _ H1 q1 (e1.trans (Ext.le LeM.del)) (hr1.le LeM.del) (Rep.froze hr1 LeM.del em fK)⟩
theorem aK{X:Cx}{te:TEd}{tg:M9}{iter:M9}(h:QEd X iter te):QId X tg iter (pJ te):=by
 simp only[QEd.eq,QId.eq]at *
 intro ae s σ H R I hh;obtain⟨Δ,M,R',sr,hr,q,k⟩:=hh;refine thn (h ae s σ H (fun v H1=>∃d ds M1,iG d=some ds/\(ds.length<=F7->R' ds M1)/\Ext M H M1 H1/\HR X.K M1 H1/\Rep X.K M1 H1 d v) I ⟨Δ,M,_,sr,hr,q,fun d M1 v H1 ⟨ds,ed,q1⟩ e1 hr1 rv=>⟨d,ds,M1,ed,q1,e1,hr1,rv⟩⟩) fun u s1 ⟨v,H1,I1,r1,d,ds,M1,ed,q1,e1,hr1,rv⟩=>?_;have lo:=aT.len (K:=X.K) I1 rv;cases d with
 |tup es =>
  cases ed;simp only[Rep]at rv;obtain⟨a,vs,rfl,ta,rl⟩:=rv;cases r1;obtain⟨its,rvv,p,hz⟩:=I1.tuple ta.sq;refine Z4 (show s1.heap.IsTuple a its.toArray from p) ?_;refine⟨s1.heap.objs.size,[s1.heap.objs.size],_,_,H1,rfl,I1.kept (t':=s1.toks) fun b o e=>F0 _ e,sv a _,⟨_,J3 _ rfl,rfl,rfl⟩,qY (o:=ac6) I1,?_⟩;refine k _ M1 _ H1 (q1 lo) e1 hr1 fun M2 H2 e2 hr2 i=>⟨fun d hd=>?_,fun hl=>⟨vs,(ta.ext e2).sq,by rw[<-rl.length];exact hl⟩⟩;obtain⟨v,gv,r⟩:=rl.get hd;refine⟨⟨vs,v,(ta.ext e2).sq,gv⟩,fun x H' ⟨eH,y⟩=>?_⟩;subst eH;have:=y vs (ta.ext e2).sq;rw[gv]at this;cases this;exact⟨Ext.refl _ _,hr2,r.ext e2⟩
 |lst es =>
  cases ed;simp only[Rep]at rv;obtain⟨a,vs,rfl,ta,rl⟩:=rv;cases r1;obtain⟨its,rvv,p,hz⟩:=I1.list (SqL.of ta.1);refine V1 p.isList ?_;refine⟨s1.heap.objs.size,[s1.heap.objs.size],_,_,H1,rfl,I1.kept (t':=s1.toks) fun b o e=>F0 _ e,m5 a _,⟨_,J3 _ rfl,rfl,rfl⟩,qY (o:=ac6) I1,?_⟩;refine k _ M1 _ H1 (q1 lo) e1 hr1 fun M2 H2 e2 hr2 i=>⟨fun d hd=>?_,fun hl=>⟨vs,SqL.of (ta.ext e2).1,by rw[<-rl.length];exact hl⟩⟩;obtain⟨v,gv,r⟩:=rl.get hd;refine⟨⟨vs,v,SqL.of (ta.ext e2).1,gv⟩,fun x H' ⟨eH,y⟩=>?_⟩;subst eH;have:=y vs (SqL.of (ta.ext e2).1);rw[gv]at this;cases this;exact⟨Ext.refl _ _,hr2,r.ext e2⟩
 |scr es =>
  cases ed;simp only[Rep]at rv;obtain⟨a,vs,rfl,ta,rl⟩:=rv;cases r1;obtain⟨its,rvv,p,hz⟩:=I1.list ta.sq;refine V1 p.isList ?_;refine⟨s1.heap.objs.size,[s1.heap.objs.size],_,_,H1,rfl,I1.kept (t':=s1.toks) fun b o e=>F0 _ e,m5 a _,⟨_,J3 _ rfl,rfl,rfl⟩,qY (o:=ac6) I1,?_⟩;refine k _ M1 _ H1 (q1 lo) e1 hr1 fun M2 H2 e2 hr2 i=>⟨fun d hd=>?_,fun hl=>⟨vs,(ta.ext e2).sq,by rw[<-rl.length];exact hl⟩⟩;obtain⟨v,gv,r⟩:=rl.get hd;refine⟨⟨vs,v,(ta.ext e2).sq,gv⟩,fun x H' ⟨eH,y⟩=>?_⟩;subst eH;have:=y vs (ta.ext e2).sq;rw[gv]at this;cases this;exact⟨Ext.refl _ _,hr2,r.ext e2⟩
 |str x =>
  simp only[iG]at ed
  by_cases hz:x.length<=F7
  ·rw[if_pos hz]at ed;cases ed;simp only[Rep]at rv;subst rv;obtain⟨t,rfl⟩:=r1;have hq:=k _ M1 _ H1 (q1 (by have hz2:x.cps.size<=F7:=hz;simpa[fH]using hz2)) e1 hr1 BA;cases ha:x.cps.all (·<128)
   ·exact wpAny_pyIter_wide ha (tm I1 "str_iterator" (by decide) (fun A hA=>ap4.strWide hA _ x t) (fun A i s' Q E st q=>wpAny_pyIter_striter_wide st q) hq)
   ·exact wpAny_pyIter_ascii ha (tm I1 "str_ascii_iterator" (by decide) (fun A hA=>ap4.strAscii hA _ x t) (fun A i s' Q E st q=>wpAny_pyIter_striter_ascii st q) hq)
  ·rw[if_neg hz]at ed;cases ed
 |_=>cases ed
theorem eJ{X:Cx}{e:M9}{te:TEd}{pos:Pos}(he:QEd X e te):QSd X (.Return (some e) pos) (Ar te):=by
 simp only[QEd.eq,QSd.eq]at *
 exact(rb he).conv fun D σ H hup=>hup.el fun Δ M E sr hr q k=>⟨Δ,M,_,sr,hr,q,fun d M1 v H1 ⟨M2,hle,q1⟩ e1 hr1 rv =>
  k.rt _ _ _ H1 q1 (e1.trans (Ext.le hle)) (hr1.le hle) (rv.ext (Ext.le hle))⟩
theorem aO{X:Cx}{e:M9}{te:TEd}{pos:Pos}{lo hi:Option M9}{tl th:TOd}{p2:Pos}(he:QEd X e te) (hl:QOd X lo tl) (hu:QOd X hi th):QEd X (.Subscript e (.Slice lo hi none p2) pos) (Dk te tl th):=by
 simp only[QEd.eq,QOd.eq]at *
 refine(xc (SlR.or yi (SlR.or Br (SlR.or BJ wc))) he hl hu).conv fun σ H Q hh=>?_;obtain⟨Δ,M,R,sr,hr,q,k⟩:=hh;refine⟨Δ,M,_,sr,hr,q,fun x M1 v H1 q1 e1 hr1 rv=>⟨Δ,M1,_,sr.ext e1,hr1,q1,fun l M2 H2 q2 e2 hr2=>⟨Δ,M2,_,(sr.ext e1).ext e2,hr2,q2,fun u M3 H3 ⟨z,ez,q3⟩ e3 hr3=>?_⟩⟩⟩;have rr:=((rv.ext e2).ext e3).rd hr3;have ee:=(e1.trans e2).trans e3;have kk:∀w H',Ext M3 H3 M3 H'->HR X.K M3 H'->Rep X.K M3 H' z w->Q w H':=fun w H' e4 hr4 r4=>k z M3 w H' q3 (ee.trans e4) hr4 r4;generalize rdM M3 x=d at rr ez;cases d with
 |lst ds =>
  cases ez;obtain⟨a,vs,rfl,sq,rl⟩:=rr;refine .inl ⟨a,vs,rfl,SqL.of sq,fun p hp=>eM hr3 hp ?_ kk⟩;unfold cv o6;rw[<-rl.length];exact(rl.drop _).take _
 |scr ds =>
  cases ez;obtain⟨a,vs,rfl,sq,rl⟩:=rr;refine .inl ⟨a,vs,rfl,sq,fun p hp=>eM hr3 hp ?_ kk⟩;unfold cv o6;rw[<-rl.length];exact(rl.drop _).take _
 |str s =>
  simp only[slE,slD]at ez
  by_cases hz:s.length<=F7
  ·rw[if_pos hz]at ez;cases ez;exact .inr (.inr (.inl ⟨s,mG rr,hz,kk _ H3 (Ext.refl _ _) hr3 (by simp[Rep])⟩))
  ·rw[if_neg hz]at ez;cases ez
 |tup ds =>
  cases ez;have rt:=aT.tup hr3 rr;obtain⟨a,vs,rfl,sq,rl⟩:=rr
  by_cases hw:HT.sIx ds.length 0 l=0/\HT.sIx ds.length ds.length u=ds.length
  ·refine .inr (.inr (.inr ⟨a,vs,rfl,sq,by rw[<-rl.length];exact hw,kk _ H3 (Ext.refl _ _) hr3 ?_⟩));rw[su hw];exact rt
  ·refine .inr (.inl ⟨a,vs,rfl,sq,by rw[<-rl.length];exact hw,fun p hp=>nZ hr3 hp ?_ kk⟩);unfold cv o6;rw[<-rl.length];exact(rl.drop _).take _
 |_=>cases ez
theorem Aq{X:Cx}{pos:Pos}:QEd X (.Dict [] [] pos) CC:=by
 simp only[QEd.eq]at *
 exact fun ae s σ H Q I ⟨Δ,M,R,sr,hr,q,k⟩=>by
  have hp:=I.hok.fresh (F9 _);refine wpAny_Dict_empty ⟨.ref s.heap.objs.size,_,I.laid (a:=s.heap.objs.size) (o:=.dK []) (t':=s.toks) (fun _ _ q=>F0 _ q) (F9 _) (jm s.heap (zQ I)),rfl,?_⟩;refine k _ M _ _ q (Ext.new hr hp) (hr.new hp) ?_;simp only[Rep];exact⟨_,rfl,bg,hr.fresh hp⟩
section
variable{X:Cx}{rest:List ac2}{t:TSd}{e:M9}{tt:TTd}
theorem zd(h:QSs X rest t):ym X rest t:=by
 rw[QSs.eq]at h;exact h
theorem gc(h:QWd X e tt):QTd X e tt:=by
 simp only[QWd.eq,QTd.eq]at *
 exact PWd.pt h
end
section
variable{X:Cx}{pos:Pos}
def Dp(i j:Nat) (t:TAd):TSd:=fun E Δ M=>t Δ M fun ds M1=>∃a b,ds=[a,b]/\E.nx ((Δ.set i (some a)).set j (some b)) M1
theorem Ai{i j:Nat}{x y:Str}{a b:M9}{t:TAd}{px py pt:Pos}{kt k2 pt2}(hc:X.calm=true) (hN:X.N.Nodup) (hi:X.N[i]?=some x) (hj:X.N[j]?=some y) (hij:i≠j)
  (hx:X.env.scope.names.lookup x=some .local) (hy:X.env.scope.names.lookup y=some .local) (ha:QAd X [a,b] t)
  (hw:aj7 [.Tuple [.Name x px,.Name y py] kt pt] (.Tuple [a,b] k2 pt2) X.env=ad0 (some [x,y]))
  (hs:aj6 [.Tuple [.Name x px,.Name y py] kt pt] (.Tuple [a,b] k2 pt2) pos.line X.env=ad0 false:=by rfl) :
  QSd X (.Assign [.Tuple [.Name x px,.Name y py] kt pt] (.Tuple [a,b] k2 pt2) pos) (Dp i j t):=by
 rw[QSd.eq];rw[QAd.eq]at ha;exact(AL hc hN hi hj hij hx hy ha hw hs).conv fun D σ H ⟨Δ,M,E,sr,hr,q,kk⟩=>⟨Δ,M,_,sr,hr,q,fun ds M1 vs H1 ⟨a,b,e,q1⟩ e1 hr1 rv=>by
  subst e;simp only[ao]at rv;obtain⟨v,us,rfl,h1,w,ws,rfl,h2,rfl⟩:=rv;exact⟨v,w,rfl,kk.nx _ M1 _ H1 q1 e1 hr1 (((sr.ext e1).set i h1).set j h2)⟩⟩
end
end L2
namespace L2
open PySem PySem.Spec PyProof.Rows PySem.Builtin.Str
theorem si(c:Nat) (n:Nat):Txt.mul (tx [c]) (n:Int)=tx (I0 n c):=by
 have f:∀(k:Nat) (acc:Array Nat),(I0 k #[c]).foldl (·++·) acc=acc++(I0 k c).toArray:=by
  intro k
  induction k with
  |zero=>intro acc;simp
  |succ k ih =>
   intro acc;rw[R3,ae4,ih,R3];apply Array.ext';simp
 unfold Txt.mul
 by_cases h0:n=0
 ·subst h0;rfl
 ·rw[if_neg (by lia)]
  by_cases h1:n=1
  ·subst h1;rfl
  ·rw[if_neg (by simp[oO];lia)];show(⟨(I0 (n:Int).toNat #[c]).foldl (·++·) #[]⟩:Str)=_;rw[f];simp[tx]
end L2
namespace L2
open PySem PySem.Spec PyProof.Rows
def Few(n:Int):Prop:=K6.Int.intBits n<=2 ^ 20
end L2
namespace Att
open PySem PySem.W PySem.Calls PyProof.Rows
end Att
namespace L2
open PySem PySem.Spec PyProof.Rows
section
variable{X:Cx}{pos:Pos}
def AD(i j:Int):Prop:=iV i j∨(Few i/\Few j)
theorem AD.ok{i j:Int}(h:AD i j):IntMulOk i j:=by
 rcases h with h|⟨a,b⟩
 ·exact h.ok
 ·exact .of_bits a b
theorem AC{K:F2}{M:DH}{H:Hp}{a b:D}{xs:List V}(h:X7 (aT K M H) [a,b] xs):∃v w,xs=[v,w]/\aT K M H a v/\aT K M H b w:=by
 cases h with
 |cons r t =>
  cases t with
  |cons r2 t2=>cases t2;exact⟨_,_,rfl,r,r2⟩
def dmD:List D->Option D
 |[.int i,.int j]=>if lM i j then some (.tup [.int (i / j),.int (i % j)])else none
 |_=>none
noncomputable def Bt:List D->Option D
 |[.int i,.int j]=>some (.int (if j > i then j else i))
 |_=>none
theorem AG(hc:X.calm=true):bH X (.builtin "max") Bt:=bH.of (uA hc) fun H M xs ds dz Q hr rp e q=>by
 unfold Bt at e
 split at e
 ·rename_i i j;cases e;obtain⟨v,w,rfl,r1,r2⟩:=AC rp;rw[fG r1,fG r2];exact⟨i,j,rfl,q _ H (Ext.refl _ _) hr (by simp[Rep])⟩
 ·cases e
end
open AutoSeq1 (wpAny_loadPart')
section
variable{prog:L1}{w:P9}{A:O0}{E:F3->F4->Prop}{s:F4}
theorem kz{it t:J7}{i:Nat}{its}{x:F3}{Q:F3->F4->Prop}(hit:s.heap.IsTupleIter it t i) (ht:s.heap.IsTuple t its) (hx:its[i]?=some x)
  (hQ:∀h',h'.IsTupleIter it t (i+1)->O4 it s.heap h'->Q x { s with heap:=h' }):K2 (L5 prog w) A (O8 (.ref it)) Q E s:=by
 obtain⟨o,ho,hc,hd⟩:=id hit;obtain⟨ol,hol,_,nl,hdl⟩:=ht;unfold O8;refine o0 (P5 (name:=K3 "__next__") hit.typeIs X6 (Q6 X6 hit.typeIs F.entry_tuple_iterator_next ?_ (F.args_tuple_iterator_next_1 _)));show K2 _ _ (field (.ref it) 0 >>= _) _ _ s;refine o0 (U2 ho hd (x:=.ref t) rfl ?_);show K2 _ _ (if(V4 t==U6)=true then _ else _) _ _ s;rw[if_neg (show ¬ ((V4 t==U6)=true)from Q9)];show K2 _ _ (field (.ref it) 1 >>= _) _ _ s;refine o0 (U2 ho hd (x:=.int i 0) rfl ?_);show K2 _ _ (ap9 (.ref t) >>= _) _ _ s;refine o0 (W6 hol hdl ?_);simp only[N4,hx];refine o0 (aa4 ho hd (by simp) (F5 ⟨x,rfl,F5 (hQ _ ?_ (S2 ..))⟩));exact⟨_,S0 _ ho (Obj.isFreed_of_fields (Obj.data_mapFields hd _)),(Obj.cls_mapFields ..).trans hc,by rw[Obj.data_mapFields hd];simp[X5]⟩
theorem lw{it t:J7}{i:Nat}{its}{Q:F3->F4->Prop}(hh:A.handled=none) (hit:s.heap.IsTupleIter it t i) (ht:s.heap.IsTuple t its) (hx:its[i]?=none)
  (hE:∀h' e,an7 it s.heap h'->(∃o,h'.get? e=some o/\o.cls=.type "StopIteration")->E (.ref e) { s with heap:=h' }):K2 (L5 prog w) A (O8 (.ref it)) Q E s:=by
 obtain⟨o,ho,hc,hd⟩:=id hit;obtain⟨ol,hol,_,nl,hdl⟩:=ht;unfold O8;refine o0 (P5 (name:=K3 "__next__") hit.typeIs X6 (Q6 X6 hit.typeIs F.entry_tuple_iterator_next ?_ (F.args_tuple_iterator_next_1 _)));show K2 _ _ (field (.ref it) 0 >>= _) _ _ s;refine o0 (U2 ho hd (x:=.ref t) rfl ?_);show K2 _ _ (if(V4 t==U6)=true then _ else _) _ _ s;rw[if_neg (show ¬ ((V4 t==U6)=true)from Q9)];show K2 _ _ (field (.ref it) 1 >>= _) _ _ s;refine o0 (U2 ho hd (x:=.int i 0) rfl ?_);show K2 _ _ (ap9 (.ref t) >>= _) _ _ s;refine o0 (W6 hol hdl ?_);simp only[N4,hx];refine o0 (ab0 (o0 (aa4 ho hd (by simp) ?_)));show K2 _ _ (newExc (.type "StopIteration") [] >>= _) _ _ _;refine o0 ?_;simp only[newExc,newTuple];refine o0 (N2 ?_ (by size_fits));refine o0 (m:=af9 _ _) (am1 (a:=U6) (by first|rfl|(simp only[af9];rfl)) ?_);refine N2 ?_ (by size_fits);simp only[raiseNew];refine o0 (wpAny_handled ?_)
 first|rw[show A.in1.handled=none from hh]|rw[hh]
 refine o0 (F5 (wpAny_throw ?_));exact hE _ _ (((S2 ..).extBut.push _).push _) ⟨_,J3 _ rfl,rfl⟩
end
theorem eh.upd{X:Cx}{ae:List (J7×Obj)}{H:Hp}{b T:J7}{o:HO}(f:eh X ae H b) (h:b≠T):eh X ae (upd H T o) b:=by
 obtain⟨f0,r⟩:=f;exact⟨by rw[aZ h];exact f0,r⟩
section
variable{X:Cx}{pos:Pos}
def xQ(t:TAd):TEd:=fun Δ M Q=>t Δ M fun ds M1=>∃es,ds=[.tup es]/\∀p,M1 p=none->Q (.ref p) (aH M1 p (.lst es))
theorem zl{e:M9}{t:TAd}{p:Pos}(hg:Gl X "list") (hm:X.mg "list"=none) (hv:W4 "list"=some (.type "list")) (ha:QAd X [e] t)
  (he:K4 [e] X.env=(false,ad3 e X.env)::K4 [] X.env:=by rfl) (hpl:(V7 pos (K4 [] X.env)).any (·.1)=false:=by rfl):QEd X (.Call (.Name "list" p) [e] [] pos) (xQ t):=by
 simp only[QEd.eq,QAd.eq]at *
 exact(nV jv hg hm hv ha (by decide) (by decide) he hpl).conv fun σ H Q hup=>hup.el fun Δ M R sr hr q k=>⟨Δ,M,_,sr,hr,q,fun ds M1 vs H1 ⟨es,ed,q1⟩ e1 hr1 rv=>by
   subst ed;obtain⟨v,rfl,rt⟩:=rv.one;simp only[Rep]at rt;obtain⟨a,ws,rfl,ta,rl⟩:=rt;exact⟨a,ws,rfl,.inr ta.sq,fun l hl=>k _ _ _ _ (q1 l (hr1.fresh hl)) (e1.trans (Ext.own hl)) (hr1.own hl rl) (by simp only[Rep])⟩⟩
theorem A3{i j:Int}:dmD [.int i,.int j]=if lM i j then some (.tup [.int (i / j),.int (i % j)])else none:=rfl
theorem yp{i j:Int}:Bt [.int i,.int j]=some (.int (if j > i then j else i)):=rfl
theorem wo:mJ 10 60=True:=by simp[mJ]
end
section
variable{X:Cx}{e:M9}{te ts:TEd}{pos:Pos}
theorem mM(its:List F3):ap6 its.toArray none none (some (-1))=its.reverse.toArray:=by
 unfold ap6;have h1:ae3 none none (some (-1)) its.toArray.size=((its.toArray.size:Int)-1,-1,-1):=by simp[ae3]
 rw[h1];have h2:sliceRange ((its.toArray.size:Int)-1) (-1) (-1)=(R8 its.toArray.size).map fun(k:Nat)=>((its.toArray.size:Int)-1+(k:Int)*-1).toNat:=by
  unfold sliceRange;have hc:(if(-1:Int) > 0 then(if(its.toArray.size:Int)-1 < -1 then((-1)-((its.toArray.size:Int)-1)+(-1)-1) / (-1)else 0)else(if(its.toArray.size:Int)-1 > -1 then((its.toArray.size:Int)-1-(-1)-(-1)-1) / (-(-1))else 0))=(its.toArray.size:Int):=by
   rw[if_neg (by lia),show(-(-1):Int)=1 from rfl,am4]
   split<;>lia
  simp only[hc,N4];apply List.map_congr_left;intro k _;rw[Int.mul_comm]
 simp only[h2,List.filterMap_map];have h3:=HT.pick_rev its.toArray;show(List.filterMap (fun(m:Nat)=>its.toArray[((its.toArray.size:Int)-1+(m:Int)*-1).toNat]?) (R8 its.toArray.size)).toArray=_;rw[h3]
def z3(te ts:TEd):TEd:=fun Δ M Q=>te Δ M fun x M1=>ts Δ M1 fun st M2=>st=.int (-1)/\∃ds,rdM M2 x=.lst ds/\Q (.lst ds.reverse) M2
theorem um{st:M9}{p2:Pos}(he:QEd X e te) (hs:QEd X st ts):QEd X (.Subscript e (.Slice none none (some st) p2) pos) (z3 te ts):=by
 simp only[QEd.eq]at *
 intro ae s σ H Q I hh;obtain⟨Δ,M,R,sr,hr,q,k⟩:=hh;refine ao7 (thn (he ae s σ H (fun v H1=>∃x M1,Rep X.K M1 H1 x v/\Ext M H M1 H1/\HR X.K M1 H1/\ts Δ M1 fun st M2=>st=.int (-1)/\∃ds,rdM M2 x=.lst ds/\R (.lst ds.reverse) M2) I
  ⟨Δ,M,_,sr,hr,q,fun x M1 v H1 q1 e1 hr1 rv=>⟨x,M1,rv,e1,hr1,q1⟩⟩) fun v s1 ⟨vx,H1,I1,r1,x,M1,rv,e1,hr1,q1⟩=>?_)
 refine wpAny_Slice ?_;rw[evalPart_none];refine F5 (F5 ?_);rw[evalPart_some];refine thn (hs ae s1 σ H1 (fun u H2=>∃M2 ds,u=.int (-1)/\rdM M2 x=.lst ds/\R (.lst ds.reverse) M2/\Ext M1 H1 M2 H2/\HR X.K M2 H2) I1 ⟨Δ,M1,_,sr.ext e1,hr1,q1,fun d M2 u H2 ⟨ed,ds,ex,q2⟩ e2 hr2 ru=>⟨M2,ds,by subst ed;simpa only[Rep]using ru,ex,q2,e2,hr2⟩⟩) fun u s2 ⟨vu,H2,I2,r2,M2,ds,eu,ex,q2,e2,hr2⟩=>?_;subst eu;obtain⟨tk,rfl⟩:=r2;have rv2:=(rv.ext e2).rd hr2;rw[ex]at rv2;obtain⟨ad,vs,rfl,hH,rl⟩:=rv2;cases r1;have I4:Inv X ae σ H2 { s2 with heap:=s2.heap.push { cls:=.type "slice",data:=.fields #[.none,.none,.int (-1) tk] } }:=I2.kept (t':=s2.toks) fun b ob q=>F0 _ q;obtain⟨its,r,ht,hz⟩:=I4.list (SqL.of hH);have hl:=r.length;refine tail_any (ops:=[.ref ad,.ref s2.heap.objs.size]) ht.isList.typeIs slot_list_getitem.lookup (wpAny_getItem_list_slice ht.isList (K7.IsSliceOf.new ..) .none .none (.int _ _) (by decide) ?_ (by rw[J0,<-hl];exact hz)) (by with_unfolding_all rfl);rw[mM];have rr:ay vs.reverse its.reverse:=ay.reverse r;refine⟨.ref _,_,I4.laid (t':=s2.toks) (o:=.lst vs.reverse) (fun b ob q=>F0 _ q) (F9 _) ?_,rfl,?_⟩
 ·exact⟨by simpa using hz,_,0,rr,J3 _ rfl⟩
 ·exact eM (ds:=ds.reverse) hr2 (I4.hok.fresh (F9 _)) rl.reverse fun w H' e4 hr4 r4=>k _ M2 w H' q2 ((e1.trans e2).trans e4) hr4 r4
end
section
variable{κ:Type} [DecidableEq κ]
noncomputable def eQ(kvs:List (κ×D)) (k:κ):Option D:=(kvs.find? fun kv=>decide (kv.1=k)).map (·.2)
noncomputable def fV(kvs:List (κ×D)) (k:κ) (v:D):List (κ×D) :=
 if(kvs.any fun kv=>decide (kv.1=k))=true then kvs.map (fun kv=>if kv.1=k then(kv.1,v)else kv)else kvs++[(k,v)]
theorem cD{p:κ×D}{r:List (κ×D)}{k:κ}(e:p.1=k):eQ (p::r) k=some p.2:=by simp[eQ,X1,e]
theorem cB{p:κ×D}{r:List (κ×D)}{k:κ}(e:¬ p.1=k):eQ (p::r) k=eQ r k:=by simp[eQ,X1,e]
theorem jB(k:κ):∀kvs:List (κ×D),(kvs.any fun kv=>decide (kv.1=k))=(eQ kvs k).isSome
 |[]=>rfl
 |p::r=>by
  rw[V2]
  by_cases e:p.1=k
  ·simp only[cD e,decide_eq_true e,Bool.true_or,Option.isSome_some]
  ·rw[cB e,decide_eq_false e,Bool.false_or];exact jB k r
theorem qE(k j:κ) (y:D):∀kvs:List (κ×D),eQ (kvs.map fun kv=>if kv.1=k then(kv.1,y)else kv) j=(eQ kvs j).map fun x=>if j=k then y else x
 |[]=>rfl
 |p::r=>by
  have ih:=qE k j y r;rw[J8]
  by_cases h:p.1=k
  ·rw[if_pos h]
   by_cases e:p.1=j
   ·rw[cD (p:=(p.1,y)) e,cD e,ab9,if_pos (e.symm.trans h)]
   ·rw[cB (p:=(p.1,y)) e,cB e,ih]
  ·rw[if_neg h]
   by_cases e:p.1=j
   ·rw[cD (p:=p) e,cD e,ab9,if_neg (fun z=>h (e.trans z))]
   ·rw[cB (p:=p) e,cB e,ih]
theorem nz(k j:κ) (y:D):∀kvs:List (κ×D),eQ kvs k=none->eQ (kvs++[(k,y)]) j=if j=k then some y else eQ kvs j
 |[],_=>by
  by_cases e:k=j
  ·rw[if_pos e.symm];exact cD (p:=(k,y)) e
  ·rw[if_neg (fun z=>e z.symm)];exact cB (p:=(k,y)) e
 |p::r,hn=>by
  rw[List.cons_append];have hk:¬ p.1=k:=fun z=>by rw[cD z]at hn;cases hn
  rw[cB hk]at hn;have ih:=nz k j y r hn
  by_cases e:p.1=j
  ·rw[cD e,cD e,if_neg (fun z=>hk (e.trans z))]
  ·rw[cB e,cB e,ih]
theorem i4(kvs:List (κ×D)) (k j:κ) (y:D):eQ (fV kvs k y) j=if j=k then some y else eQ kvs j:=by
 unfold fV
 by_cases a:(kvs.any fun kv=>decide (kv.1=k))=true
 ·rw[if_pos a,qE];rw[jB]at a
  by_cases e:j=k
  ·obtain⟨x,hx⟩:=ab3.mp a;rw[if_pos e,e,hx,ab9,if_pos rfl]
  ·rw[if_neg e];cases eQ kvs j with
   |none=>rfl
   |some x=>rw[ab9,if_neg e]
 ·rw[if_neg a];refine nz k j y kvs ?_;rw[jB]at a;cases q:eQ kvs k with
  |none=>rfl
  |some x=>rw[q]at a;exact(a rfl).elim
variable{K:F2}{M:DH}{H:Hp}
theorem KR.val{kvs:List (κ×D)}{ks:List (κ×V)}(h:KR K M H kvs ks) (k:κ):(∀d,eQ kvs k=some d->∃v,j9 ks k=some v/\Rep K M H d v)/\(j9 ks k).isSome=(eQ kvs k).isSome:=by
 unfold KR at h
 induction h with
 |nil=>exact⟨fun d e=>(nomatch e),rfl⟩
 |@cons p q ps qs r t ih =>
  by_cases e:p.1=k
  ·rw[cD e,jA (r.1.symm.trans e)];exact⟨fun d z=>(by cases z;exact⟨_,rfl,r.2⟩),rfl⟩
  ·rw[cB e,jC (fun z=>e (r.1.trans z))];exact ih
theorem KR.any{kvs:List (κ×D)}{ks:List (κ×V)}(h:KR K M H kvs ks) (k:κ):(ks.any fun kv=>decide (kv.1=k))=kvs.any fun kv=>decide (kv.1=k):=by
 unfold KR at h
 induction h with
 |nil=>rfl
 |cons r _ ih=>rw[V2,V2,ih,r.1]
theorem KR.length{kvs:List (κ×D)}{ks:List (κ×V)}(h:KR K M H kvs ks):kvs.length=ks.length:=al5 h
theorem KR.put{kvs:List (κ×D)}{ks:List (κ×V)}(h:KR K M H kvs ks) (k:κ) {d:D}{v:V}(r:Rep K M H d v):KR K M H (fV kvs k d) (gA ks k v):=by
 unfold fV gA;rw[h.any k]
 by_cases e:(kvs.any fun kv=>decide (kv.1=k))=true
 ·rw[if_pos e,if_pos e];clear e;unfold KR at h ⊢
  induction h with
  |nil=>exact .nil
  |@cons p q ps qs r1 t ih =>
   rw[J8,J8];refine .cons ?_ ih
   by_cases e:p.1=k
   ·rw[if_pos e,if_pos (r1.1.symm.trans e)];exact⟨r1.1,r⟩
   ·rw[if_neg e,if_neg (fun z=>e (r1.1.trans z))];exact r1
 ·rw[if_neg e,if_neg e];exact X7.snoc h ⟨rfl,r⟩
end
def kD:Key->D
 |.inl i=>.int i
 |.inr x=>.str x
theorem ox{K:F2}{M:DH}{H:Hp}{k:Key}{v:V}(h:Rep K M H (kD k) v):v=kV k:=by
 cases k<;>simpa[kD,Rep,kV]using h
section
variable{X:Cx}{a b c e o i:M9}{es:List M9}{te to ti ta tb:TEd}{t:TAd}{pos:Pos}
def dDK:TEd:=fun _ M Q=>∀p,M p=none->Q (.ref p) (aH M p (.dK []))
def z9(to ti:TEd):TEd:=fun Δ M Q=>to Δ M fun x M1=>ti Δ M1 fun y M2=>∃a kvs k d,x=.ref a/\M2 a=some (.dK kvs)/\y=kD k/\eQ kvs k=some d/\Q d M2
def AH(to ti te:TEd):TSd:=fun E Δ M=>te Δ M fun d M1=>to Δ M1 fun x M2=>ti Δ M2 fun y M3=>∃a kvs k,x=.ref a/\M3 a=some (.dK kvs)/\y=kD k/\kvs.length<F7/\E.nx Δ (aH M3 a (.dK (fV kvs k d)))
end
section
variable{X:Cx}{a b c e o:M9}{es:List M9}{te to:TEd}{t:TAd}{pos:Pos}{tg:M9}
noncomputable def yM:List D->Option D
 |[.int i,.int j]=>some (.int (if j<i then j else i))
 |_=>none
theorem C6(hc:X.calm=true):bH X (.builtin "min") yM:=bH.of (tZ hc) fun H M xs ds dz Q hr rp e q=>by
 unfold yM at e
 split at e
 ·rename_i i j;cases e;obtain⟨v,w,rfl,r1,r2⟩:=AC rp;rw[fG r1,fG r2];exact⟨i,j,rfl,q _ H (Ext.refl _ _) hr (by simp[Rep])⟩
 ·cases e
noncomputable def cJ:List D->Option (List Int)
 |[]=>some []
 |.int i::ds=>(cJ ds).map (i::·)
 |_=>none
theorem k7:∀{ns:List Int},cJ (ns.map D.int)=some ns
 |[]=>rfl
 |n::ns=>by simp[cJ,k7 (ns:=ns)]
def yF:D->Option D
 |.lst ds=>(cJ ds).map fun ns=>.int ns.sum
 |_=>none
theorem vZ{ns:List Int}:yF (.lst (ns.map D.int))=some (.int ns.sum):=by simp[yF,k7]
theorem nP{K:F2}{M:DH}{H:Hp}:∀{ds:List D}{ns:List Int}{vs:List V}{us:List F3},cJ ds=some ns->ao K M H ds vs->ay vs us->∃xs:Array (Int×Tok),us.toArray=intItems xs/\xs.toList.map (·.1)=ns
 |[],_,_,_,e,h,r=>by
  simp only[cJ,af2]at e;subst e;simp only[ao]at h;subst h;cases r;exact⟨#[],by simp[intItems],rfl⟩
 |.int i::ds,ns,vs,us,e,h,r=>by
  simp only[cJ]at e;cases q:cJ ds with
  |none=>rw[q]at e;cases e
  |some ms =>
   rw[q]at e;cases e;simp only[ao]at h;obtain⟨v,ws,rfl,h1,h2⟩:=h;simp only[Rep]at h1;subst h1;cases r with
   |@cons x u xs' us' r1 r2 =>
    obtain⟨t,rfl⟩:=r1;obtain⟨ys,e1,e2⟩:=nP q h2 r2;refine⟨(((i,t)::ys.toList)).toArray,?_,by simp[e2]⟩;have:us'=(intItems ys).toList:=by rw[<-e1]
    rw[this];simp[intItems]
 |.non::_,_,_,_,e,_,_=>by cases e
 |.bl _::_,_,_,_,e,_,_=>by cases e
 |.str _::_,_,_,_,e,_,_=>by cases e
 |.tup _::_,_,_,_,e,_,_=>by cases e
 |.lst _::_,_,_,_,e,_,_=>by cases e
 |.scr _::_,_,_,_,e,_,_=>by cases e
 |.emp::_,_,_,_,e,_,_=>by cases e
 |.box _ _::_,_,_,_,e,_,_=>by cases e
 |.ref _::_,_,_,_,e,_,_=>by cases e
theorem Ao(hc:X.calm=true):bH X (.builtin "sum") (lY yF):=by
 intro ae s σ H M xs us ds dz Q I hr rv rp e k;obtain⟨d,rfl,e0⟩:=cF e;clear e;have e:=e0;clear e0;obtain⟨v,rfl,r⟩:=i7 rp;obtain⟨u,rfl,ru⟩:=ay.one rv;cases d with
 |lst ds =>
  simp only[yF]at e;cases q:cJ ds with
  |none=>rw[q]at e;cases e
  |some ns =>
   rw[q]at e;cases e;obtain⟨l,vs,rfl,sq,rl⟩:=r;cases ru;obtain⟨its,rv,pl,hz⟩:=I.list (SqL.of sq);obtain⟨ys,e1,e2⟩:=nP q rl rv;refine sum_intListG (xs:=ys) (I.ok.hd hc) (by rw[<-e1];exact pl.isList) fun h' tk t' kk=>?_;have I1:Inv X ae σ H { s with heap:=h',toks:=tk }:=I.kept (t':=tk) kk;refine⟨.int _,H,I1,⟨_,rfl⟩,k _ H (Ext.refl _ _) hr ?_⟩;have e3:preSum (numAt ys) ys.size=ns.sum:=by
    rw[preSum_eq,S9 (by simp),e2]
   rw[e3];simp[Rep]
 |_=>cases e
def CY(to:TEd):TEd:=fun Δ M Q=>to Δ M fun o M1=>∃a ds d,o=.ref a/\M1 a=some (.lst (ds++[d]))/\Q d (aH M1 a (.lst ds))
def C3(to te:TEd):TEd:=fun Δ M Q=>to Δ M fun o M1=>∃a l,o=.ref a/\M1 a=some (.lst l)/\te Δ M1 fun d M2=>∃ds ys,d=.lst ys/\M2 a=some (.lst ds)/\ds.length+ys.length<=F7/\Q .non (aH M2 a (.lst (ds++ys)))
end
section
variable{X:Cx}{tg iter elt:M9}{pos:Pos}{scope:aa1}{cl:List (Str×J7)}{ms:List Bool}{ai:List Str}{ifs:List M9}
end
section
variable{X:Cx}{ae:List (J7×Obj)}{σ:St}{H:Hp}{s:F4}{a:J7}{o:Obj}{ks:List (Key×V)}
theorem Inv.freeze(I:Inv X ae σ H s) (e:H a=some (.dK ks)):∃o,s.heap.get? a=some o/\Inv X ae σ (upd H a (.frz o (.dK ks))) s:=by
 obtain⟨o,he⟩:∃o,s.heap.get? a=some o:=by
  obtain⟨_,_,_,_,o,_,_,q,_⟩:=tK I.hok e;exact⟨o,q⟩
 refine⟨o,he,?_⟩;have:=I.write (x:=a) (e:=a) (o:=.frz o (.dK ks)) (h':=s.heap) (t':=s.toks) (by rw[e];exact al3) (.inl rfl) (fun b u _ q=>q) ⟨o,he⟩ ⟨he,tK I.hok e⟩;exact this
end
section
variable{X:Cx}{tg l:M9}{tl:TE}{te:TEd}
theorem KR.keys{K:F2}{M:DH}{H:Hp}{κ:Type}{kvs:List (κ×D)}{ks:List (κ×V)}(h:KR K M H kvs ks):kvs.map (·.1)=ks.map (·.1):=by
 unfold KR at h
 induction h with
 |nil=>rfl
 |cons r _ ih=>rw[J8,J8,ih,r.1]
end
theorem gx{prog:L1}{w:P9}{A:O0}{R:ao3->F4->Prop}{s:F4}{kx vx target iter:M9}{scope:aa1}{pos:Pos}{it:F3}{D:J7}{env:Env}(I:Nat->F4->Prop)
  (turn:∀ n s,I n s → K2 (L5 prog w) A (ag2 it) (fun r s₁ => match r with
   |none=>R (.ok .next) s₁
   | some v => K2 (L5 prog w) A (ae1 target it v) (fun _ s₁ => K2 (L5 prog w) A (ag8 target env v) (fun _ s₂ =>
     K2 (L5 prog w) A (ad3 kx env) (fun kv s₄=>K2 (L5 prog w) A (ad3 vx env) (fun vv s₅ =>
       K2 (L5 prog w) A (dictSet D kv vv) (fun _ s₆=>∃m,m<n/\I m s₆) (fun _ _=>False) s₅) (fun _ _=>False) s₄) (fun _ _=>False) s₂) (fun _ _=>False) s₁) (fun _ _=>False) s₁) (fun _ _=>False) s)
  (n:Nat) (h:I n s) :
  ad5 (L5 prog w) A (.compLoop (.DictComp kx vx [⟨target,iter,[],0⟩] scope pos) 0 it (.ref D) env) R s:=by
 refine codeAny_loop rfl I (fun n s hI=>?_) n h;show K2 _ A ((compTurn (.DictComp kx vx [⟨target,iter,[],0⟩] scope pos) 0 it (.ref D) env).onRaise (fun x=>do noteFrame x env;theTreesLotGoes x)) _ _ s;refine wpAny_noted ?_;rw[compTurn_dict];refine o0 (X9 (o0 (P0 (turn n s hI) (fun r s₁ h₁=>?_) fun _ _ h'=>h'.elim)));cases r with
 |none=>exact F5 h₁
 |some v =>
  refine o0 (P0 h₁ (fun _ s1 h₁=>?_) fun _ _ h'=>h'.elim);refine o0 (P0 h₁ (fun _ s₂ h₂=>o0 (wpAny_tests_nil ?_)) fun _ _ h'=>h'.elim);exact o0 (o0 (P0 h₂ (fun kv s₄ h₄=>o0 (R5 (P0 h₄ (fun vv s₅ h₅=>o0 (X9 (R5 (P0 h₅ (fun _ s₆ h₆=>F5 ⟨rfl,h₆⟩) fun _ _ h'=>h'.elim)))) fun _ _ h'=>h'.elim))) fun _ _ h'=>h'.elim))
section
variable{X:Cx}{ae:List (J7×Obj)}{σ σ':St}{H2 H':Hp}{s2 s':F4}{scope:aa1}{cl:List (Str×J7)}{ms:List Bool}{ai:List Str}{tg iter kx vx:M9}{g:TG}{tk tv:TE}{pos:Pos}
theorem mv(I2:Inv X ae σ H2 s2) {fp:List J7}(f2:∀b∈fp,eh X ae H2 b)
  (I':Inv (ax X scope cl (X.N++ai) s2.heap.objs.size s2 H2 fp) [] σ' H' s') {h':K7} (hs:O4 s2.heap.objs.size s'.heap h') :
  Inv X ae σ H' { s' with heap:=h' }:=by
 have hC:H' s2.heap.objs.size=none:=I'.free;have up:∀b o,b≠s2.heap.objs.size->s'.heap.get? b=some o->h'.get? b=some o:=fun b o hb e=>(hs.2 b hb).trans e;have nC:∀b u,H' b=some u->b≠s2.heap.objs.size:=fun b u e z=>by rw[z,hC]at e;cases e
 have hok:HOk X.prog X.w H' h':=fun b u e=>(I'.hok b u e).stay (fun c v hc q=>up c v (by
   rcases hc with rfl|hc
   ·exact nC _ _ e
   ·exact nC _ _ hc) q) (fun c q=>q) fun c xs q=>q
 have un:Un (frs X.stack) fp H2 H' s2.heap h':=by
  have U:=I'.base;have ltC:∀b o,s2.heap.get? b=some o->b≠s2.heap.objs.size:=fun b o e=>K0 (J4 e);refine⟨fun b o e nb hb hx=>up b o (ltC b o e) (U.keep b o e nb hb hx),fun b o e nb hb hx=>?_,U.free,fun b o e hx=>?_,U.tups,U.frzs,U.tbls⟩
  ·obtain⟨sl,q⟩:=U.slot b o e nb hb hx;exact⟨sl,up b _ (ltC b o e) q⟩
  ·obtain⟨o',q⟩:=U.there b o e hx;exact⟨o',up b _ (ltC b o e) q⟩
 exact I2.call' (s':={ s' with heap:=h' }) (ch:=fp) I'.os un hok I'.bare fun b hb=>⟨(f2 b hb).2.2.2.1,(f2 b hb).2.1,(f2 b hb).2.2.2.2.1,(f2 b hb).2.2.2.2.2⟩
end
end L2
namespace L2
open PySem PySem.W PyProof.Rows
section
variable{α β:Type}
def tw(n:Nat) (lt:Nat->Nat->Bool):KasT α->(α->Prop)->Prop
 |.ret a,Q=>Q a
 |.ask i j k,Q=>i<n/\j<n/\tw n lt (k (lt i j)) Q
theorem ik{n:Nat}{lt:Nat->Nat->Bool}{f:α->KasT β}{Q:β->Prop}:∀{t:KasT α},tw n lt t (fun a=>tw n lt (f a) Q)->tw n lt (t.bind f) Q
 |.ret _,h=>h
 |.ask _ _ _,h=>⟨h.1,h.2.1,ik h.2.2⟩
theorem xC{n:Nat}{lt:Nat->Nat->Bool}{cmp:Nat->Nat->(Bool->F4->Prop)->F4->Prop}{J:F4->Prop}(hc:∀i j C s,i<n->j<n->J s->(∀s',J s'->C (lt i j) s')->cmp i j C s) {Q:α->Prop}{G:α->F4->Prop}(hG:∀a s,J s->Q a->G a s) :
  ∀{t:KasT α} {s:F4},tw n lt t Q->J s->t.kasWp cmp G s
 |.ret _,s,h,hj=>hG _ s hj h
 |.ask i j k,s,h,hj=>hc i j _ s h.1 h.2.1 hj fun s' hj'=>xC hc hG h.2.2 hj'
variable{O:Z5}{key:Nat->O.α}{n:Nat}
def dS(O:Z5) (key:Nat->O.α) (i j:Nat):Bool:=O.blt (key i) (key j)
def Ae(O:Z5) (key:Nat->O.α):KeyKind:={ O with keyOf:=fun v=>match v with|.int i _=>some (key i.toNat)|_=>none,dflt:=key 0 }
def mz(p:Array Nat):Array Keyed:=p.map fun(i:Nat)=>((ai5 (i:Int) 0,U6):Keyed)
noncomputable def kp(O:Z5) (key:Nat->O.α) (p:Array Nat) (i:Nat):O.α:=key (p.getD i 0)
theorem lE{p:Array Nat}{i:Nat}(h:i<p.size):KK (Ae O key) (mz p) i=kp O key p i:=by
 unfold KK kp mz;rw[Array.getElem?_map,S6 h];simp[Ae,ac0,h]
theorem yH{p:Array Nat}{i j:Nat}:mz (kas_rev p i j)=mirror (mz p) i j ((j-i) / 2):=by
 unfold mz kas_rev mirror;exact(kas_swaps_map _ _ _ _ _).symm
theorem yP{p:Array Nat}{k d:Nat}:mz (bubble p k d)=bubble (mz p) k d:=by
 unfold mz bubble;exact(kas_swaps_map _ _ _ _ _).symm
theorem qB{p:Array Nat}:(mz p).size=p.size:=by simp[mz]
theorem wq{p:Array Nat}{i j:Nat}:(kas_rev p i j).size=p.size:=mirror_size _ _ _ _
theorem qP{p:Array Nat}{i j k:Nat}(hj:j<=p.size) (hk:k<p.size):kp O key (kas_rev p i j) k=if i<=k/\k<j then kp O key p (i+j-1-k)else kp O key p k:=by
 rw[<-lE (by rw[wq];exact hk),yH,KK_mirror (by rw[qB];exact hj)]
 by_cases h:i<=k/\k<j
 ·rw[if_pos h,if_pos h,lE (by lia)]
 ·rw[if_neg h,if_neg h,lE hk]
theorem vo{p:Array Nat}{src d k:Nat}(hs:src<p.size) (hd:d<=src) (hk:k<p.size):kp O key (bubble p src d) k=if k=src-d then kp O key p src else if src-d<k/\k<=src then kp O key p (k-1)else kp O key p k:=by
 rw[<-lE (by rw[bubble_size];exact hk),yP,KK_bubble (by rw[qB];exact hs) hd]
 by_cases h1:k=src-d
 ·rw[if_pos h1,if_pos h1,lE hs]
 ·rw[if_neg h1,if_neg h1]
  by_cases h2:src-d<k/\k<=src
  ·rw[if_pos h2,if_pos h2,lE (by lia)]
  ·rw[if_neg h2,if_neg h2,lE hk]
def cL(n:Nat) (p:Array Nat):Prop:=p.toList.Perm (R8 n)
theorem cL.size{p:Array Nat}(h:cL n p):p.size=n:=by
 have:=h.length_eq;simpa using this
theorem cL.lt{p:Array Nat}(h:cL n p) {i:Nat}(hi:i<n):p.getD i 0<n:=by
 have hs:=h.size;have e:p.getD i 0=p.toList[i]'(by simp;lia):=by simp[ac0,show i<p.size by lia]
 rw[e];exact aa0.mp (h.mem_iff.mp (P3 _))
theorem cL.rev{p:Array Nat}(h:cL n p) (i j:Nat):cL n (kas_rev p i j):=(Array.perm_iff_toList_perm.mp (mirror_perm p i j _)).trans h
theorem cL.bub{p:Array Nat}(h:cL n p) (i j:Nat):cL n (bubble p i j):=(Array.perm_iff_toList_perm.mp (bubble_perm p i j)).trans h
def dA(O:Z5) (key:Nat->O.α) (p:Array Nat) (k:Nat):Prop:=∀i j,i<=j->j<k->O.kle (kp O key p i) (kp O key p j)
def ix(O:Z5) (key:Nat->O.α) (p:Array Nat) (k:Nat):Prop:=∀i j,i<=j->j<k->O.kle (kp O key p j) (kp O key p i)
theorem dA.more{p:Array Nat}{x:Nat}(h:dA O key p x) (hx:1<=x) (le:O.kle (kp O key p (x-1)) (kp O key p x)):dA O key p (x+1):=fun i j hij hj=>by
 rcases ae6 j x with h1|h1
 ·exact h i j hij h1
 ·obtain rfl:j=x:=by lia
  rcases ae6 i j with h2|h2
  ·exact aj2 (h i (j-1) (by lia) (by lia)) le
  ·obtain rfl:i=j:=by lia
   exact ac1 _
theorem ix.more{p:Array Nat}{x:Nat}(h:ix O key p x) (hx:1<=x) (le:O.kle (kp O key p x) (kp O key p (x-1))):ix O key p (x+1):=fun i j hij hj=>by
 rcases ae6 j x with h1|h1
 ·exact h i j hij h1
 ·obtain rfl:j=x:=by lia
  rcases ae6 i j with h2|h2
  ·exact aj2 le (h i (j-1) (by lia) (by lia))
  ·obtain rfl:i=j:=by lia
   exact ac1 _
theorem rB{p:Array Nat}(hp:cL n p):∀{f a:Nat}{Q:Nat->Prop},1<=a->a+f<=n->dA O key p a ->
  (∀m,a<=m->m<=a+f->dA O key p m->(m=a+f∨O.klt (kp O key p m) (kp O key p (m-1)))->Q m)->tw n (dS O key) (kas_asc p f a) Q
 |0,a,Q,h1,h2,hs,k=>k a (F9 _) (F9 _) hs (.inl rfl)
 |f+1,a,Q,h1,h2,hs,k=>by
  refine⟨hp.lt (by lia),hp.lt (by lia),?_⟩;cases q:dS O key (p.getD a 0) (p.getD (a-1) 0)with
  |true=>exact k a (F9 _) (by lia) hs (.inr q)
  |false=>exact rB hp (by lia) (by lia) (hs.more h1 q) fun m m1 m2 ms mo=>k m (by lia) (by lia) ms (mo.imp (fun e=>by lia) id)
theorem jw{p:Array Nat}{i j:Nat}(hj:j<=p.size) (he:∀k,i<=k->k<j->kp O key p k=kp O key p (j-1)) {k:Nat}(hk:k<p.size):kp O key (kas_rev p i j) k=kp O key p k:=by
 rw[qP hj hk]
 by_cases h:i<=k/\k<j
 ·rw[if_pos h,he _ (by lia) (by lia),he k h.1 h.2]
 ·rw[if_neg h]
theorem kT:∀{f:Nat}{p:Array Nat}{x q:Nat}{Q:Array Nat×Nat×Nat->Prop},cL n p->1<=x->x+f<=n->ix O key p x->q+1<=x->(∀i,x-(q+1)<=i->i<x->kp O key p i=kp O key p (x-1)) ->
  (∀p' m q',cL n p'->1<=m->m<=x+f->ix O key p' m->q'+1<=m->(∀i,m-(q'+1)<=i->i<m->kp O key p' i=kp O key p' (m-1))->Q (p',m,q'))->tw n (dS O key) (kas_desc f p x q) Q
 |0,p,x,q,Q,hp,h1,h2,hs,hq,he,k=>k p x q hp h1 (F9 _) hs hq he
 |f+1,p,x,q,Q,hp,h1,h2,hs,hq,he,k=>by
  have hz:=hp.size;refine⟨hp.lt (by lia),hp.lt (by lia),?_⟩;cases c:dS O key (p.getD x 0) (p.getD (x-1) 0)with
  |true =>
   have lt:O.klt (kp O key p x) (kp O key p (x-1)):=c;simp only[if_true]
   by_cases h0:q > 0
   ·rw[if_pos h0];have same:∀{i},i<n->kp O key (kas_rev p (x-(q+1)) x) i=kp O key p i:=fun hi=>jw (by lia) he (by lia);refine kT (hp.rev _ _) (by lia) (by lia) ?_ (by lia) (fun i i1 i2=>by obtain rfl:i=x:=(by lia);rfl) fun p' m q' a b c' d e g=>k p' m q' a b (by lia) d e g;refine ix.more (fun i j hij hj=>?_) h1 ?_
    ·rw[same (by lia),same (by lia)];exact hs i j hij hj
    ·rw[same (by lia),same (by lia)];exact af3 lt
   ·rw[if_neg h0];exact kT hp (by lia) (by lia) (hs.more h1 (af3 lt)) (by lia) (fun i i1 i2=>by obtain rfl:i=x:=(by lia);rfl) fun p' m q' a b c' d e g=>k p' m q' a b (by lia) d e g
  |false =>
   simp only[K1,if_false];refine⟨hp.lt (by lia),hp.lt (by lia),?_⟩;cases c2:dS O key (p.getD (x-1) 0) (p.getD x 0)with
   |true=>exact k p x q hp h1 (by lia) hs hq he
   |false =>
    simp only[K1,if_false];have eq:kp O key p x=kp O key p (x-1):=O.total _ _ c c2;refine kT hp (by lia) (by lia) (hs.more h1 c2) (by lia) (fun i i1 i2=>?_) fun p' m q' a b c' d e g=>k p' m q' a b (by lia) d e g;rw[show x+1-1=x by lia];rcases ae6 i x with h|h
    ·rw[eq];exact he i (by lia) h
    ·obtain rfl:i=x:=by lia
     rfl
theorem sG{p:Array Nat}{m nrem:Nat}{Q:Nat×Array Nat->Prop}(hp:cL n p) (h1:1<=m) (h2:m<=nrem) (h3:nrem<=n) (hs:ix O key p m)
  (k:∀m' p',cL n p'->1<=m'->m'<=nrem->dA O key p' m'->Q (m',p')):tw n (dS O key) (kas_tail3 m nrem p) Q:=by
 have hz:=hp.size;unfold kas_tail3;refine ik (rB (hp.rev 0 m) h1 (by lia) (fun i j hij hj=>?_) fun m' a b c _=>k m' _ (hp.rev 0 m) (by lia) (by lia) c);rw[qP (by lia) (by lia),qP (by lia) (by lia),if_pos ⟨by lia,by lia⟩,if_pos ⟨by lia,by lia⟩];exact hs _ _ (by lia) (by lia)
theorem ke{p:Array Nat}{m nrem:Nat}{Q:Nat×Array Nat->Prop}(hp:cL n p) (h2:m+1<=nrem) (h3:nrem<=n) (hs:ix O key p (m+1))
  (k:∀m' p',cL n p'->1<=m'->m'<=nrem->dA O key p' m'->Q (m',p')):tw n (dS O key) (kas_descPart m nrem p) Q:=by
 unfold kas_descPart;refine ik (kT hp (by lia) (by lia) hs (by lia) (fun i i1 i2=>by obtain rfl:i=m:=(by lia);rfl) fun p' x q' hp' x1 x2 hs' hq he=>?_);have hz:=hp'.size;dsimp only
 by_cases h0:q' > 0
 ·rw[if_pos h0];refine sG (hp'.rev _ _) x1 (by lia) h3 (fun i j hij hj=>?_) k;rw[jw (by lia) he (by lia),jw (by lia) he (by lia)];exact hs' i j hij hj
 ·rw[if_neg h0];exact sG hp' x1 (by lia) h3 hs' k
theorem xR{p:Array Nat}{nrem:Nat}{Q:Nat×Array Nat->Prop}(hp:cL n p) (h1:1<=nrem) (h3:nrem<=n)
  (k:∀m' p',cL n p'->1<=m'->m'<=nrem->dA O key p' m'->Q (m',p')):tw n (dS O key) (kas_count nrem p) Q:=by
 have hz:=hp.size;unfold kas_count;refine ik (rB hp (F9 1) (by lia) (fun i j hij hj=>by obtain rfl:i=j:=(by lia);exact ac1 _) fun m m1 m2 ms mo=>?_)
 by_cases e:m=nrem
 ·rw[if_pos (by simpa using e)];exact k m p hp m1 (by lia) ms
 ·rw[if_neg (by simpa using e)];have lt:O.klt (kp O key p m) (kp O key p (m-1)):=mo.resolve_left (by lia)
  by_cases g:m > 1
  ·rw[if_pos g];refine⟨hp.lt (by lia),hp.lt (by lia),?_⟩;cases c:dS O key (p.getD 0 0) (p.getD (m-1) 0)with
   |true=>exact k m p hp m1 (by lia) ms
   |false =>
    simp only[K1,if_false];have like:∀i,0<=i->i<m->kp O key p i=kp O key p (m-1):=fun i _ hi =>
     Z5.kle_antisymm (ms i (m-1) (by lia) (by lia)) (aj2 (show O.kle (kp O key p (m-1)) (kp O key p 0)from c) (ms 0 i (by lia) hi))
    have same:∀{i},i<n->kp O key (kas_rev p 0 m) i=kp O key p i:=fun hi=>jw (by lia) like (by lia);refine ke (hp.rev _ _) (by lia) h3 (ix.more (fun i j hij hj=>?_) m1 ?_) k
    ·rw[same (by lia),same (by lia),like i (by lia) (by lia),like j (by lia) hj];exact ac1 _
    ·rw[same (by lia),same (by lia)];exact af3 lt
  ·rw[if_neg g];obtain rfl:m=1:=by lia
   refine ke hp (by lia) h3 (ix.more (fun i j hij hj=>by obtain rfl:i=j:=(by lia);exact ac1 _) (F9 1) (af3 lt)) k
theorem mh{p:Array Nat}(hp:cL n p) {x:Nat}(hx:x<n) (hs:dA O key p x):∀{f l r:Nat}{Q:Nat->Prop},l<=r->r<=x->r-l<=f ->
  (∀i,i<l->O.kle (kp O key p i) (kp O key p x))->(∀i,r<=i->i<x->O.klt (kp O key p x) (kp O key p i)) ->
  (∀l',l'<=x->(∀i,i<l'->O.kle (kp O key p i) (kp O key p x))->(∀i,l'<=i->i<x->O.klt (kp O key p x) (kp O key p i))->Q l')->tw n (dS O key) (kas_place p x f l r) Q
 |0,l,r,Q,h1,h2,h3,a,b,k=>by
  obtain rfl:l=r:=by lia
  exact k l h2 a b
 |f+1,l,r,Q,h1,h2,h3,a,b,k=>by
  unfold kas_place
  by_cases g:l>=r
  ·rw[if_pos g];obtain rfl:l=r:=by lia
   exact k l h2 a b
  ·rw[if_neg g];refine⟨hp.lt hx,hp.lt (by lia),?_⟩;cases c:dS O key (p.getD x 0) (p.getD ((l+r) / 2) 0)with
   |true =>
    simp only[if_true];exact mh hp hx hs (by lia) (by lia) (by lia) a (fun i i1 i2=>Z5.klt_of_klt_of_kle (show O.klt (kp O key p x) (kp O key p ((l+r) / 2))from c) (hs _ _ i1 i2)) k
   |false =>
    simp only[K1,if_false];exact mh hp hx hs (by lia) (by lia) (by lia) (fun i hi=>aj2 (hs i ((l+r) / 2) (by lia) (by lia)) (show O.kle (kp O key p ((l+r) / 2)) (kp O key p x)from c)) b k
theorem wz:∀{f:Nat}{p:Array Nat}{x:Nat}{Q:Array Nat->Prop},cL n p->1<=x->x+f<=n->dA O key p x->(∀p',cL n p'->dA O key p' (x+f)->Q p')->tw n (dS O key) (kas_bin f p x) Q
 |0,p,x,Q,hp,_,_,hs,k=>k p hp hs
 |f+1,p,x,Q,hp,h1,h2,hs,k=>by
  have hz:=hp.size;refine ik (mh hp (by lia) hs (P6 _) (F9 _) (by lia) (fun i hi=>by lia) (fun i a b=>by lia) fun l hl lo hi=>?_);refine wz (hp.bub _ _) (by lia) (by lia) (fun i j hij hj=>?_) fun p' a b=>k p' a (by rw[show x+(f+1)=x+1+f by lia];exact b);rw[vo (by lia) (by lia) (by lia),vo (by lia) (by lia) (by lia),show x-(x-l)=l by lia]
  by_cases a1:i=l
  ·rw[if_pos a1]
   by_cases b1:j=l
   ·rw[if_pos b1];exact ac1 _
   ·rw[if_neg b1,if_pos (by lia)];exact af3 (hi _ (by lia) (by lia))
  ·rw[if_neg a1]
   by_cases a2:l<i/\i<=x
   ·rw[if_pos a2,if_neg (by lia),if_pos (by lia)];exact hs _ _ (by lia) (by lia)
   ·rw[if_neg a2]
    by_cases b1:j=l
    ·rw[if_pos b1];exact lo _ (by lia)
    ·rw[if_neg b1]
     by_cases b2:l<j/\j<=x
     ·rw[if_pos b2];exact hs _ _ (by lia) (by lia)
     ·rw[if_neg b2];exact hs _ _ hij (by lia)
theorem yk(h:1<=n) {Q:Array Nat->Prop}(k:∀p,cL n p->dA O key p n->Q p):tw n (dS O key) (kas_sort n) Q:=by
 have h0:cL n (List.toArray (R8 n)):=al4.refl _;unfold kas_sort;refine ik (xR h0 h (F9 _) fun m p hp m1 m2 ms=>?_);dsimp only
 by_cases g:m<n
 ·rw[if_pos g];have e:max m 1=m:=by lia
  rw[e];exact wz hp m1 (by lia) ms fun p' a b=>k p' a (by rwa [show m+(n-m)=n by lia]at b)
 ·rw[if_neg g];obtain rfl:m=n:=by lia
  exact k p hp ms
end
end L2
namespace L2
open PySem PySem.W PySem.Calls PyProof.Rows
section
variable{prog:L1}{w:P9}{A:O0}{E:F3->F4->Prop}{O:Z5}
def gf(vs:List F3) (p:Array Nat):List F3:=p.toList.map fun i=>vs.getD i U6
theorem jY{vs:List F3}{p:Array Nat}(h:cL vs.length p):(gf vs p).length=vs.length:=by
 unfold gf;rw[F1,L0];exact h.size
def qz(x:J7) (s t:F4):Prop:=∀b o,b≠x->s.heap.get? b=some o->t.heap.get? b=some o
theorem vD{s:F4}{x:J7}{vs:List F3}{n:Nat}{key:Nat->O.α}{κ:SortKind}{P:PySem.Fin->F4->Prop}(hx:s.heap.get? x=some (ah6 "list" vs.toArray n)) (hz:vs.length<64)
  (hk:∀s1 Q,2<=vs.length->qz x s s1->Q κ s1->K2 (L5 prog w) A (keyKind' vs.toArray) Q (fun _ _=>False) s1)
  (hc:∀i j s1 C,i<vs.length->j<vs.length->qz x s s1->C (dS O key i j) s1->kas_ask prog w A κ vs i j C s1)
  (k:∀p c h',cL vs.length p->dA O key p vs.length->(∀b o,b≠x->s.heap.get? b=some o->h'.get? b=some o)->h'.get? x=some (ah6 "list" (gf vs p).toArray c)->P (.done (.ret .none)) { s with heap:=h' }) :
  K2 (L5 prog w) A (K6.«list.sort» ⟨[.ref x],[]⟩) P E s:=by
 have lx:x<s.heap.objs.size:=J4 hx;obtain⟨c1,h1⟩:∃c,(s.heap.update x (ab4 fun _=>#[])).get? x=some (ah6 "list" #[] c):=⟨_,get?_update_seq hx (fun _=>#[])⟩;rw[list_sort_plain];refine o0 (listItems_at hx rfl (o0 (listUpdate_at hx rfl (o0 (seqEpoch_at h1 rfl (o0 (wpAny_newTuple (o0 (wpAny_newList (R5 ?_) (P6 _))) ?_)))) ?_ (P6 _))))
 rotate_left
 ·show vs.length<=_;rw[ae2];lia
 ·rw[J0,ae2];lia
 generalize hh:((s.heap.update x (ab4 fun _=>#[])).push (ah6 "tuple" vs.toArray 0)).push (ah6 "list" #[] 0)=h2;show K2 _ A _ P E { s with heap:=h2 };have g2:h2.get? x=some (ah6 "list" #[] c1):=by
  rw[<-hh];exact F0 _ (F0 _ h1)
 have st:qz x s { s with heap:=h2 }:=fun b o ne e=>by
  show h2.get? b=some o;rw[<-hh];exact F0 _ (F0 _ (by rw[K7.get?_update_ne _ _ _ _ ne];exact e))
 have fin:∀p,cL vs.length p->dA O key p vs.length->P (.done (.ret .none)) { s with heap:=h2.update x (ab4 fun _=>(gf vs p).toArray) }:=fun p hp hr =>
  k p _ _ hp hr (fun b o ne e=>by rw[K7.get?_update_ne _ _ _ _ ne];exact st b o ne e) (get?_update_seq g2 fun _=>(gf vs p).toArray)
 dsimp only
 by_cases few:vs.toArray.size<2
 ·rw[if_pos few,if_pos few];refine o0 (F5 ?_);rw[StateT.run_pure];refine o0 (F5 ?_);dsimp only;have few':vs.length<2:=by rw[J0]at few;exact few
  have e0:(arrOf (SortSt.mk' general' (vs.toArray.zip vs.toArray) #[] 7 none)).map (·.2)=(gf vs (List.toArray (R8 vs.length))).toArray:=by
   refine kat_snds rfl ?_;have e:=kas_range (vs.toArray.zip vs.toArray);have z0:(vs.toArray.zip vs.toArray).size=vs.length:=by simp
   rw[z0]at e;exact e.symm
  rw[e0];refine o0 (seqEpoch_at g2 rfl (o0 (listUpdate_at g2 rfl ?_ (P6 _) ?_)))
  ·simp only[failedOf,bne_self_eq_false,K1,if_false];exact F5 (fin _ (al4.refl _) fun i j hij hj=>by
    obtain rfl:i=j:=by lia
    exact ac1 _)
  ·rw[J0,jY (show cL vs.length (List.toArray (R8 vs.length))from al4.refl _),ae2];lia
 ·rw[if_neg few,if_neg few];have two:2<=vs.length:=by rw[J0]at few;lia
  refine o0 (P0 (hk { s with heap:=h2 } (fun q t=>q=κ/\t=({ s with heap:=h2 }:F4)) two st ⟨rfl,rfl⟩) ?_ fun _ _ z=>z.elim);rintro κ' _ ⟨ek,rfl⟩;rw[ek];have ask:(kas_sort vs.length).kasWp (kas_ask prog w A κ vs) (fun p t=>t=({ s with heap:=h2 }:F4)/\cL vs.length p/\dA O key p vs.length) { s with heap:=h2 } :=
   xC (J:=fun t=>t=({ s with heap:=h2 }:F4)) (lt:=dS O key) (Q:=fun p=>cL vs.length p/\dA O key p vs.length) (fun i j C t hi hj ht hC=>by subst ht;exact hc i j _ C hi hj st (hC _ rfl)) (fun p t ht hq=>⟨ht,hq⟩) (yk (by lia) fun p a b=>⟨a,b⟩) rfl
  refine o0 (P0 (kat_run (Q:=fun u t=>∃p:Array Nat,arrOf u=p.map (kas_item (vs.toArray.zip vs.toArray))/\failedOf u=none/\t=({ s with heap:=h2 }:F4)/\cL vs.length p/\dA O key p vs.length) rfl two hz (fun p u t _ a2 a3 a4=>⟨p,a2,a3,a4⟩) ask) ?_ fun _ _ z=>z);rintro⟨⟨⟩,u⟩ t ⟨p,ea,ef,rfl,hp,hr⟩;dsimp only;have e0:(arrOf u).map (·.2)=(gf vs p).toArray:=kat_snds rfl ea;rw[e0];refine o0 (seqEpoch_at g2 rfl (o0 (listUpdate_at g2 rfl ?_ (P6 _) ?_)))
  ·rw[ef];simp only[bne_self_eq_false,K1,if_false];exact F5 (fin p hp hr)
  ·rw[J0,jY hp,ae2];lia
end
noncomputable def ltP(a b:Int×Int):Bool:=decide (a.1<b.1) || (decide (a.1=b.1)&&decide (a.2<b.2))
def leP(a b:Int×Int):Bool:=! ltP b a
theorem hV{a b:Int×Int}:ltP a b=true↔a.1<b.1∨(a.1=b.1/\a.2<b.2):=by simp[ltP]
theorem k5{a b:Int×Int}:ltP a b=false↔b.1<a.1∨(a.1=b.1/\b.2<=a.2):=by
 rw[Bool.eq_false_iff,Ne,hV];lia
def EW:Z5 where
 α:=Int×Int
 blt:=ltP
 irrefl a:=by rw[k5];lia
 trans a b c h1 h2:=by rw[hV]at *;lia
 negTrans a b c h:=by rw[hV,hV];rw[hV]at h;lia
 total a b h1 h2:=by
  rw[k5]at h1 h2;exact Prod.ext (by lia) (by lia)
theorem xl{a b:Int×Int}(h1:leP a b=true) (h2:leP b a=true):a=b:=by
 simp only[leP,ai2,k5]at h1 h2;exact Prod.ext (by lia) (by lia)
def iD(ps:List (Int×Int)):List (Int×Int):=ps.mergeSort leP
theorem iW(ps:List (Int×Int)):(iD ps).Perm ps:=ac7 _ _
theorem xA(ps:List (Int×Int)):(iD ps).Pairwise fun a b=>leP a b=true :=
 List.pairwise_mergeSort (fun a b c h1 h2=>by simp only[leP,ai2,k5]at *;lia) (fun a b=>by
  cases h:leP a b with
  |true=>rfl
  |false =>
   simp only[leP,Bool.not_eq_false',hV]at h;simp only[Bool.false_or,leP,ai2,k5];lia) ps
theorem vG{ps qs:List (Int×Int)}(h:qs.Perm ps) (hs:qs.Pairwise fun a b=>leP a b=true):qs=iD ps :=
 al4.eq_of_pairwise (le:=fun a b=>leP a b=true) (fun a b _ _ h1 h2=>xl h1 h2) hs (xA ps) (h.trans (iW ps).symm)
def pD(p:Int×Int):D:=.tup [.int p.1,.int p.2]
noncomputable def i6:List D->Option (List (Int×Int))
 |[]=>some []
 |.tup [.int i,.int j]::ds=>(i6 ds).map ((i,j)::·)
 |_=>none
theorem nT:∀{ps:List (Int×Int)},i6 (ps.map pD)=some ps
 |[]=>rfl
 |p::ps=>by simp[i6,pD,nT (ps:=ps)]
theorem rX:∀{ds:List D}{ps:List (Int×Int)},i6 ds=some ps->ds=ps.map pD:=by
 intro ds
 induction ds using i6.induct with
 |case1=>intro ps e;cases e;rfl
 |case2 i j ds ih =>
  intro ps e;simp only[i6]at e;cases q:i6 ds with
  |none=>rw[q]at e;cases e
  |some qs=>rw[q]at e;cases e;rw[ih q];rfl
 |case3 ds h1 h2=>intro ps e;rw[i6]at e<;>simp_all
section
variable{X:Cx}{ae:List (J7×Obj)}{s:F4}{σ:St}{H:Hp}{M:DH}
theorem AM(I:Inv X ae σ H s) {ps:List (Int×Int)}{vs:List V}{us:List F3}(rl:ao X.K M H (ps.map pD) vs) (rv:ay vs us) {i:Nat}(hi:i<ps.length) :
  ∃a t u,us[i]?=some (.ref a)/\al6 s.heap a #[.int ps[i].1 t,.int ps[i].2 u]:=by
 obtain⟨v,g,r⟩:=rl.get (i:=i) (d:=pD ps[i]) (by simp[hi]);obtain⟨u',g',r'⟩:=rv.get g;simp only[pD,Rep]at r;obtain⟨a,ws,rfl,sq,rw_⟩:=r;cases r';obtain⟨its,rv2,tp,hz⟩:=I.tuple sq.sq;simp only[ao,Rep]at rw_;obtain⟨_,_,rfl,rfl,_,_,rfl,rfl,rfl⟩:=rw_;obtain⟨x,y,rfl,⟨t,rfl⟩,⟨u,rfl⟩⟩:=ay.two rv2;exact⟨a,t,u,g',tp⟩
theorem eY{us:List F3}{i:Nat}{v:F3}(h:us[i]?=some v):us.getD i U6=v:=by
 rw[N7,h];rfl
theorem tu{h:K7}:∀{ps:List (Int×Int)}{us:List F3},us.length=ps.length->(∀i (hi:i<ps.length),∃a t u,us[i]?=some (.ref a)/\al6 h a #[.int ps[i].1 t,.int ps[i].2 u])->∃fs,KatTups h us fs/\fs.length=ps.length/\∀f∈fs,∃i t,f=ai5 i t
 |[],[],_,_=>⟨[],KatTups.nil,rfl,fun _ h=>(nomatch h)⟩
 |p::ps,u::us,hl,k=>by
  obtain⟨fs,h1,h2,h3⟩:=tu (ps:=ps) (us:=us) (by simpa using hl) fun i hi=>k (i+1) (by simpa using hi);obtain⟨a,t,t',e,o,ho,hc,n,hd⟩:=k 0 (by simp);simp only[List.getElem?_cons_zero,af2]at e;subst e;exact⟨_::fs,KatTups.cons ho hc hd rfl h1,by simp[h2],fun f hf=>by
   rcases J9.mp hf with rfl|hf
   ·exact⟨_,_,rfl⟩
   ·exact h3 f hf⟩
 |[],_::_,hl,_=>by simp at hl
 |_::_,[],hl,_=>by simp at hl
theorem xE{prog:L1}{w:P9}{A:O0}{E:F3->F4->Prop}{s:F4}{x y:J7}{p q:Int×Int}{t1 t2 t3 t4:Tok}{C:Bool->F4->Prop}(hx:al6 s.heap x #[.int p.1 t1,.int p.2 t2]) (hy:al6 s.heap y #[.int q.1 t3,.int q.2 t4]) (k:C (ltP p q) s) :
  K2 (L5 prog w) A (keyLt' (tuples' true) (.ref x) (.ref y)) C E s:=by
 obtain⟨o1,h1,_,n1,d1⟩:=hx;obtain⟨o2,h2,_,n2,d2⟩:=hy;refine kat_lt h1 d1 h2 d2 ?_;refine kat_cons (wpAny_eqBool_int ?_);cases e:(p.1==q.1)with
 |false =>
  refine kat_no (oneLt_int ?_);have:decide (p.1<q.1)=ltP p q:=by
   have e':¬ p.1=q.1:=by simpa using e
   simp[ltP,e']
  rw[this];exact k
 |true =>
  have e':p.1=q.1:=by simpa using e
  refine kat_yes (kat_cons (wpAny_eqBool_int ?_));cases g:(p.2==q.2)with
  |false =>
   refine kat_no (kat_one _ _ ?_);refine wpAny_lt_int ?_;have:decide (p.2<q.2)=ltP p q:=by simp[ltP,e']
   rw[this];exact k
  |true =>
   have g':p.2=q.2:=by simpa using g
   refine kat_yes (kat_nil ?_);have:decide ((#[ai5 p.1 t1,ai5 p.2 t2]:Array F3).size<(#[ai5 q.1 t3,ai5 q.2 t4]:Array F3).size)=ltP p q:=by simp[ltP,e',g']
   rw[this];exact k
def kp_(p:Array Nat) (i:Nat):Nat:=p.getD i 0
theorem iL{h h':K7}{a:J7}{its:Array F3}(t:al6 h a its) (k:∀b o,h.get? b=some o->h'.get? b=some o):al6 h' a its :=
 let⟨o,ho,hc,hd⟩:=t
 ⟨o,k _ _ ho,hc,hd⟩
theorem jI{vs:List V}{us:List F3}(rv:ay vs us):∀{l:List Nat},(∀i∈l,i<vs.length)->ay (l.map fun i=>vs.getD i .non) (l.map fun i=>us.getD i U6)
 |[],_=>.nil
 |i::l,h=>by
  have hi:=h i (.head _);obtain⟨u,g,r⟩:=rv.get (u8 hi);rw[J8,J8];refine .cons ?_ (jI rv fun j hj=>h j (.tail _ hj));rw[eY g,N7,u8 hi];exact r
theorem ni{K:F2}{ps:List (Int×Int)}{vs:List V}(rl:ao K M H (ps.map pD) vs):∀{l:List Nat},(∀i∈l,i<ps.length)->ao K M H ((l.map fun i=>ps.getD i (0,0)).map pD) (l.map fun i=>vs.getD i .non)
 |[],_=>rfl
 |i::l,h=>by
  have hi:=h i (.head _);obtain⟨v,g,r⟩:=rl.get (i:=i) (d:=pD ps[i]) (by simp[hi]);simp only[J8,ao];refine⟨v,_,?_,?_,ni rl fun j hj=>h j (.tail _ hj)⟩
  ·rw[N7,g];rfl
  ·rw[N7,u8 hi];exact r
theorem uq(ps:List (Int×Int)):(R8 ps.length).map (fun i=>ps.getD i (0,0))=ps:=by
 apply aj3 (by simp);intro i h1 h2;simp[u8 h2]
end
end L2
namespace L2
open PySem PySem.Spec PyProof.Rows
theorem EM{X:Cx}{pos:Pos}:QEd X (.Dict [] [] pos) dDK:=by
 simp only[QEd.eq]at *
 exact PE.conv xW fun σ H Q hup=>hup.el fun Δ M R sr hr q k=>fun p hp =>
  k _ _ _ _ (q p (hr.fresh hp)) (Ext.own hp) (hr.put (Ext.own hp) ⟨[],bg,.nil⟩) (by simp only[Rep])
theorem pf{X:Cx}{o:M9}{i:M9}{to:TEd}{ti:TEd}{pos:Pos}(hu:X.A.units+1<ai7) (ho:QEd X o to) (hi:QEd X i ti) (hs:yI i):QEd X (.Subscript o i pos) (z9 to ti):=by
 simp only[QEd.eq]at *
 exact PE.conv (sQ hu ho hi hs) fun σ H Q hup=>hup.el fun Δ M R sr hr q k=>⟨Δ,M,_,sr,hr,q,fun x M1 v H1 q1 e1 hr1 rv=>⟨Δ,M1,_,sr.ext e1,hr1,q1,fun y M2 u H2 ⟨a,kvs,ky,d,ex,em,ey,ed,q2⟩ e2 hr2 ru=>by
   subst ex;subst ey;simp only[Rep]at rv;subst rv;obtain⟨ks,h2,kr⟩:=hr2 a _ em;obtain⟨w,hw,rw_⟩:=(kr.val ky).1 d ed;refine⟨a,w,rfl,?_,k d M2 w H2 q2 (e1.trans e2) hr2 rw_⟩;rw[ox ru,<-hw];exact uz.k h2⟩⟩
theorem rn{X:Cx}{e:M9}{o:M9}{i:M9}{te:TEd}{to:TEd}{ti:TEd}{pos:Pos}{p:Pos}(hu:X.A.units+1<ai7) (ho:QEd X o to) (hi:QEd X i ti) (he:QEd X e te) (hs:ae0 e (some (.Subscript o i p)) pos.line X.env=ad0 false:=by rfl):QSd X (.Assign [.Subscript o i p] e pos) (AH to ti te):=by
 simp only[QEd.eq,QSd.eq]at *
 exact PS.conv (yD hu ho hi he hs) fun D σ H hup=>hup.el fun Δ M E sr hr q k=>⟨Δ,M,_,sr,hr,q,fun d M1 v H1 q1 e1 hr1 rv=>⟨Δ,M1,_,sr.ext e1,hr1,q1,fun x M2 u H2 q2 e2 hr2 ru=>⟨Δ,M2,_,(sr.ext e1).ext e2,hr2,q2,fun y M3 w H3 ⟨a,kvs,ky,ex,em,ey,hz,q3⟩ e3 hr3 rw_=>by
   subst ex;subst ey;simp only[Rep]at ru;subst ru;obtain⟨ks,h3,kr⟩:=hr3 a _ em;have ew:Ext M3 H3 (aH M3 a (.dK (fV kvs ky d))) (upd H3 a (.dK (gA ks ky v))):=Ext.write em;refine⟨a,_,rfl,by rw[ox rw_];exact v4.k h3 (by rw[<-kr.length];exact hz),?_⟩;exact k.nx Δ _ σ _ q3 (((e1.trans e2).trans e3).trans ew) (hr3.put ew ⟨_,bg,(kr.put ky ((rv.ext e2).ext e3)).ext ew⟩) ((((sr.ext e1).ext e2).ext e3).ext ew)⟩⟩⟩
theorem Ef{X:Cx}{o:M9}{to:TEd}{dX bJ:Pos}(ho:QEd X o to) (fD:Z0 o "pop" X.env (ad3 o X.env)=ad3 o X.env:=by rfl) (fC:(dX.endLine==bJ.line)=true:=by rfl):QEd X (.Call (.Attribute o "pop" dX) [] [] bJ) (CY to):=by
 simp only[QEd.eq]at *
 exact(B3 PySem.F.plainAttrs_list PySem.F.slot_list_pop PySem.F.type_list_pop (show MtR X "list.pop" C9 from B5) ho fD fC).conv fun σ H Q hup=>hup.el fun Δ M R sr hr q k=>⟨Δ,M,_,sr,hr,q,fun o M1 ov H1 ⟨a,ds,d,eo,em,q1⟩ e1 hr1 ro=>by
   subst eo;simp only[Rep]at ro;subst ro;obtain⟨vs,hv,rl⟩:=hr1 a _ em;have hl:=rl.length;rw[F6,P2,ab6]at hl;obtain⟨v,gv,rv⟩:=rl.get (i:=ds.length) (d:=d) (by simp);have hl2:vs.length-1=ds.length:=by lia
   refine⟨.inl ⟨rfl,vs,SqL.of hv⟩,a,vs,v,rfl,rfl,hv,by rw[hl2];exact gv,?_⟩;have ew:Ext M1 H1 (aH M1 a (.lst ds)) (upd H1 a (.lst vs.dropLast)):=Ext.write em;refine k _ _ _ _ q1 (e1.trans ew) (hr1.write em ?_) (rv.ext ew);have:=ao.take ds.length rl;rw[List.take_left]at this;rw[List.dropLast_eq_take,hl2];exact this⟩
theorem u6{X:Cx}{e:M9}{o:M9}{te:TEd}{to:TEd}{dX bJ:Pos}(ho:QEd X o to) (he:QEd X e te) (fD:Z0 o "extend" X.env (ad3 o X.env)=ad3 o X.env:=by rfl)
  (hse:K4 [e] X.env=(false,ad3 e X.env)::K4 [] X.env:=by rfl)
  (mn:((V7 bJ (K4 [e] X.env)).all (fun x => !x.1) && (am8 bJ (ah8 [] X.env)).all (fun x => x.1.isSome)
  &&decide ([e].length+([]:List ah9).length+(if([]:List ah9).isEmpty then 0 else 1)<30))=true:=by rfl)
  (fC:(dX.endLine==bJ.line)=true:=by rfl) (fX:(V7 bJ (K4 [] X.env)).any (·.1)=false:=by rfl):QEd X (.Call (.Attribute o "extend" dX) [e] [] bJ) (C3 to te):=by
 simp only[QEd.eq]at *
 exact(As PySem.F.plainAttrs_list PySem.F.slot_list_extend PySem.F.type_list_extend (show MtR X "list.extend" tf from t7) ho (ie he lB hse) fD mn fC hse fX).conv fun σ H Q hup=>hup.el fun Δ M R sr hr q k=>⟨Δ,M,_,sr,hr,q,fun o M1 ov H1 ⟨a,l,eo,em,q1⟩ e1 hr1 ro=>by
   subst eo;simp only[Rep]at ro;subst ro;obtain⟨vs,hv,rl⟩:=hr1 a _ em;refine⟨.inl ⟨rfl,vs,SqL.of hv⟩,Δ,M1,_,sr.ext e1,hr1,q1,fun d M2 v H2 ⟨ds,ys,ed,em2,hz,q2⟩ e2 hr2 rv=>?_⟩;subst ed;simp only[Rep]at rv;obtain⟨b,zs,rfl,hb,rz⟩:=rv;obtain⟨ws,hw,rl2⟩:=hr2 a _ em2;refine⟨a,b,ws,zs,rfl,rfl,hw,hb.1,by rw[<-rl2.length,<-rz.length];exact hz,k _ _ _ _ q2 ((e1.trans e2).trans (Ext.write em2)) (hr2.write em2 (rl2.append rz)) (by simp[Rep])⟩⟩
theorem cU.units1{k:Nat}{A:O0}(r:cU k A):A.units+1<ai7:=by have:=r.un;lia
theorem CN{i:Int}{P:Key->Prop}:(∃k,D.int i=kD k/\P k)↔P (.inl i) :=
 ⟨fun⟨k,e,h⟩=>match k,e with|.inl _,rfl=>h,fun h=>⟨_,rfl,h⟩⟩
theorem D0{x:Str}{P:Key->Prop}:(∃k,D.str x=kD k/\P k)↔P (.inr x) :=
 ⟨fun⟨k,e,h⟩=>match k,e with|.inr _,rfl=>h,fun h=>⟨_,rfl,h⟩⟩
theorem sD{i j:Int}:yM [.int i,.int j]=some (.int (if j<i then j else i)):=rfl
theorem sz2:(2:Nat)<=F7:=sz3 2
abbrev BKd:=DE->DH->List D->(List D->DE->DH->Prop)->Prop
def gJ(g:GD) (tc:TTd) (B:BKd):List D->DE->DH->List D->(List D->DE->DH->Prop)->Prop
 |[],Δ,M,acc,Q=>Q acc Δ M
 |d::ds,Δ,M,acc,Q=>∃ Δ',g d Δ=some Δ'/\tc Δ' M fun b M1=>if b=true then B Δ' M1 acc fun acc' Δ'' M2=>acc'.length<=F7/\gJ g tc B ds Δ'' M2 acc' Q else gJ g tc B ds Δ' M1 acc Q
def k6(te:TEd):BKd:=fun Δ M acc Q=>te Δ M fun y M2=>Q (acc++[y]) Δ M2
def iX(wi:TId) (g:GD) (tc:TTd) (B:BKd):BKd:=fun Δ M acc Q=>wi Δ M fun es M2=>gJ g tc B es Δ M2 acc Q
def upB(K:F2) (b:BKd):BK:=fun ys σ H Z=>∃(Δ:DE) (M:DH) (acc:List D) (R:List D->DE->DH->Prop),SR K M H σ Δ/\HR K M H/\ao K M H acc ys/\acc.length<=F7/\b Δ M acc R /\
 ∀acc' Δ' M' ys' σ' H',R acc' Δ' M'->Ext M H M' H'->HR K M' H'->SR K M' H' σ' Δ'->ao K M' H' acc' ys'->Z ys' σ' H'
section
variable{K:F2}{g:GD}{gv:TG}{tc:TTd}{te:TEd}{wi:TId}{Bd:BKd}{B:BK}
theorem sO{ys:List V}{σ:St}{H:Hp}{Z:List V->St->Hp->Prop}(h:upB K (k6 te) ys σ H Z):ku (up K te) ys σ H Z:=by
 obtain⟨Δ,M,acc,R,sr,hr,ra,_,q,k⟩:=h;exact⟨Δ,M,_,sr,hr,q,fun d M' v H' q1 e1 hr1 rv=>k _ _ _ _ _ _ q1 e1 hr1 (sr.ext e1) ((ra.ext e1).append (ao.cons rv ao.nil))⟩
theorem tQ(kg:lD K g gv) (hB:∀{ys σ H Z},upB K Bd ys σ H Z->B ys σ H Z) {J:It}{es:List D}{M5:DH}{H5:Hp}(it5:ItD K J es M5 H5) (hr5:HR K M5 H5) {Δ:DE}{acc:List D}{R:List D->DE->DH->Prop}{ys:List V}{σ:St}{Z:List V->St->Hp->Prop}
  (sr:SR K M5 H5 σ Δ) (ra:ao K M5 H5 acc ys) (la:acc.length<=F7) (q:gJ g tc Bd es Δ M5 acc R)
  (k:∀acc' Δ' M' ys' σ' H',R acc' Δ' M'->Ext M5 H5 M' H'->HR K M' H'->SR K M' H' σ' Δ'->ao K M' H' acc' ys'->Z ys' σ' H') :
  ∃W:Nat->Nat->List V->St->Hp->Prop,(∃m,W 0 m ys σ H5)/\jU J gv (upT K tc) B W Z:=by
 refine⟨fun j m ys' σ' H'=>∃ Δ' M' acc',m=es.length-j/\j<=es.length/\Ext M5 H5 M' H'/\HR K M' H'/\SR K M' H' σ' Δ'/\ao K M' H' acc' ys'/\acc'.length<=F7/\gJ g tc Bd (es.drop j) Δ' M' acc' R,
  ⟨es.length,Δ,M5,acc,by simp,P6 _,Ext.refl _ _,hr5,sr,ra,la,q⟩,?_⟩
 rintro j m ys' σ6 H6 ⟨Δ6,M6,acc6,rfl,hj,e6,hr6,sr6,ra6,la6,f6⟩;refine⟨by rw[<-ra6.length];exact la6,?_⟩;obtain⟨go2,stop2⟩:=it5 M6 H6 e6 hr6 j
 by_cases hlt2:j<es.length
 ·have hd2:es[j]?=some es[j]:=by simp[hlt2]
  obtain⟨g2,y2⟩:=go2 _ hd2;rw[aa3 hlt2]at f6;simp only[gJ]at f6;obtain⟨Δ7,eg7,f7⟩:=f6;refine .inr ⟨g2,fun x7 H7 hy7=>?_⟩;obtain⟨e7,hr7,rx7⟩:=y2 x7 H7 hy7;refine kg _ x7 σ6 Δ6 Δ7 M6 H7 _ (sr6.ext e7) hr7 rx7 eg7 fun σ7 sr7=>?_;refine⟨Δ7,M6,_,sr7,hr7,f7,fun b M8 H8 q8 e8 hr8=>?_⟩;cases b with
  |true =>
   simp only[if_true]at q8 ⊢;refine hB ⟨Δ7,M8,acc6,_,sr7.ext e8,hr8,(ra6.ext e7).ext e8,la6,q8,?_⟩;rintro acc' Δ' M' ys9 σ' H' ⟨hz9,q9⟩ e9 hr9 sr9 ra9;exact⟨es.length-(j+1),by lia,Δ',M',acc',rfl,hlt2,((e6.trans e7).trans e8).trans e9,hr9,sr9,ra9,hz9,q9⟩
  |false =>
   simp only[K1,if_false]at q8 ⊢;exact⟨es.length-(j+1),by lia,Δ7,M8,acc6,rfl,hlt2,(e6.trans e7).trans e8,hr8,sr7.ext e8,(ra6.ext e7).ext e8,la6,q8⟩
 ·rw[ad7 (by lia)]at f6;simp only[gJ]at f6;exact .inl ⟨stop2 (by lia),k _ _ _ _ _ _ f6 e6 hr6 sr6 ra6⟩
theorem oZ(kg:lD K g gv) (hB:∀{ys σ H Z},upB K Bd ys σ H Z->B ys σ H Z) {ys:List V}{σ:St}{H:Hp}{Z:List V->St->Hp->Prop}(h:upB K (iX wi g tc Bd) ys σ H Z):qh (upI K wi) gv (upT K tc) B ys σ H Z:=by
 obtain⟨Δ,M,acc,R,sr,hr,ra,la,q,k⟩:=h;exact⟨Δ,M,_,sr,hr,q,fun es M2 J H2 q2 e2 hr2 it2=>tQ kg hB it2 hr2 (sr.ext e2) (ra.ext e2) la q2 fun a1 a2 a3 a4 a5 a6 b1 b2=>k a1 a2 a3 a4 a5 a6 b1 (e2.trans b2)⟩
end
def yn(ms:List Bool) (k:Nat) (w0:TId) (g0:GD) (tc0:TTd) (B:BKd):TEd:=fun Δ M Q=>w0 Δ M fun ds M1=>gJ g0 tc0 B ds (nL ms k Δ) M1 [] fun ys _ M2=>Q (.lst ys) M2
theorem pR{K:F2}{w0:TId}{g0:GD}{tc0:TTd}{gv0:TG}{Bd:BKd}{B:BK}{ms:List Bool}{kk:Nat}(kg:lD K g0 gv0) (hB:∀{ys σ H Z},upB K Bd ys σ H Z->B ys σ H Z):∀ σ H Q,up K (yn ms kk w0 g0 tc0 Bd) σ H Q->yg ms kk (upI K w0) gv0 (upT K tc0) B σ H Q:=by
 rintro σ H Q ⟨Δ,M,R,sr,hr,q,k⟩;refine⟨Δ,M,_,sr,hr,q,fun ds M1 J H1 q1 e1 hr1 it=>?_⟩;obtain⟨W,hW,hC⟩:=tQ (Z:=fun ys' _ H'=>∃M' acc,Ext M1 H1 M' H'/\HR K M' H'/\ao K M' H' acc ys'/\R (.lst acc) M') kg hB it hr1 ((sr.ext e1).comp ms kk) ao.nil (P6 _) q1
  (fun acc' Δ' M' ys' σ' H' q' e' hr' _ ra'=>⟨M',acc',e',hr',ra',q'⟩)
 refine⟨W,_,hW,hC,?_⟩;rintro ys σ' H' p ⟨M',acc,e',hr',ra,q'⟩ hp;refine k _ M' _ _ q' ((e1.trans e').trans (Ext.new hr' hp)) (hr'.new hp) ?_;simp only[Rep];exact⟨p,ys,rfl,⟨bg,hr'.fresh hp⟩,ra.ext (Ext.new hr' hp)⟩
abbrev Fb(elt t0 i0 t1 i1:M9) (f0 f1:List M9) (scope:aa1) (pos:Pos):M9:=.ListComp elt [⟨t0,i0,f0,0⟩,⟨t1,i1,f1,0⟩] scope pos
def AS(ms:List Bool) (k:Nat) (w0:TId) (g0:GD) (tc0:TTd) (wi:TId) (g:GD) (tc:TTd) (te:TEd):TEd:=yn ms k w0 g0 tc0 (iX wi g tc (k6 te))
section
variable{X:Cx}{scope:aa1}{cl:List (Str×J7)}{ms:List Bool}{ai:List Str}{elt t0 i0 t1 i1:M9}{f0 f1:List M9}{pos:Pos}
theorem By{w1:TI}{g1:TG}{tc1:TT}{te:TE}(hi1:∀C s H ex,PI (ax X scope cl (X.N++ai) C s H ex) t1 i1 w1) (hg1:∀C s H ex,PG (ax X scope cl (X.N++ai) C s H ex) t1 g1) (hif1:∀C s H ex,PIf (ax X scope cl (X.N++ai) C s H ex) f1 tc1) (he:∀C s H ex,PE (ax X scope cl (X.N++ai) C s H ex) elt te)
  (hs1:∀C x,N3 i1 (am0 scope cl C X.env) x=ad0 x):LvC X scope cl ai (lcE elt [⟨t0,i0,f0,0⟩,⟨t1,i1,f1,0⟩] scope pos) i0.pos t0 f0 (qh w1 g1 tc1 (ku te)):=fun _ _ _ _ _ c =>
 oY c (oX (k:=1) (p:=i1.pos) c (he _ _ _ _) fun _ _ _=>rfl) (fun _ _ _=>rfl) (hs1 _) (hi1 _ _ _ _) (hg1 _ _ _ _) (hif1 _ _ _ _) fun _ _ _=>rfl
end
@[irreducible] def zE(t:TSd):TSd:=t
theorem tU{t:TSd}:zE t=t:=by unfold zE;rfl
theorem ar{t:TSd}{E:gj}{Δ:DE}{M:DH}(h:t E Δ M):zE t E Δ M:=by rw[tU];exact h
theorem aJ{X:Cx}{st:List ac2}{t:TSd}(h:QSs X st t):QSs X st (zE t):=by rw[tU];exact h
theorem xP{K:Params->F2}{as:List J7}{n t:Nat}{q:L1}{loose:List Str}{XP:(Str->Option F3)->K7->Prop}{r:PySem.W.RowW}{d:DefRec}{kwd:List (Str×M9)}{run:F3->List F3->Sem F3}(hk:∀P,as=(K P).map (·.1))
  (h:PySem.W.WalkO q loose XP (fun w h=>(K w.params).In h) r d kwd run):PySem.W.WalkX q loose XP (PySem.W.X.obsZ as) (PySem.W.X.valZ K n t) r d kwd run:=by
 intro w s₀ s₁ mg mb G y a o pm cd doc dV kV ho hd hcd hD hmg hg args vals as' L hpre hlay hrd hwl hlo;refine h w s₀ s₁ mg mb G (fun b u hu=>L.keeps b u ?_) a o pm cd doc dV kV ho hd hcd hD hmg hg args vals as' hpre hlay hrd hwl hlo;have y1:as.map s₀.heap.get?=(K w.params).map fun p=>some p.2:=congrArg (·.1) y;rw[hk w.params,N0]at y1;have key:∀(l:F2),(l.map fun p=>s₀.heap.get? p.1)=l.map (fun p=>some p.2)->an5 b l=some u->s₀.heap.get? b=some u:=by
  intro l
  induction l with
  |nil=>intro _ z;cases z
  |cons p l ih =>
   intro e z;rw[J8,J8,S4]at e;rw[N8]at z
   by_cases c:b=p.1
   ·subst c;rw[beq_self_eq_true]at z;cases z;exact e.1
   ·rw[beq_eq_false_iff_ne.mpr c]at z;exact ih e.2 z
 exact key _ y1 hu
end L2
namespace L2
open PySem PySem.W PySem.Calls PyProof.Rows
section
variable{prog:L1}{w:P9}{A:O0}{E:F3->F4->Prop}{O:Z5}
theorem nI{T:String}{o:Obj}{n:Nat}{s:F4}{l:J7}{vs:List F3}{key:Nat->O.α}{κ:SortKind}{Q:F3->F4->Prop}(hT:T="list"∨T="tuple") (hg:s.heap.get? l=some o) (hcl:o.cls=.type T) (hd:o.data=.seq vs.toArray n) (hz:vs.length<64)
  (hk:∀s1 Q,2<=vs.length->(∀b o,s.heap.get? b=some o->s1.heap.get? b=some o)->Q κ s1->K2 (L5 prog w) A.in1.in1 (keyKind' vs.toArray) Q (fun _ _=>False) s1)
  (hc:∀i j s1 C,i<vs.length->j<vs.length->(∀b o,s.heap.get? b=some o->s1.heap.get? b=some o)->C (dS O key i j) s1->kas_ask prog w A.in1.in1 κ vs i j C s1)
  (k:∀(h1:K7) p x c h',(∀b o,s.heap.get? b=some o->h1.get? b=some o)->cL vs.length p->dA O key p vs.length->h1.objs.size<=x->(∀b o,h1.get? b=some o->h'.get? b=some o)->h'.get? x=some (ah6 "list" (gf vs p).toArray c)->Q (.ref x) { s with heap:=h' }) :
  K2 (L5 prog w) A (call (.builtin "sorted") [.ref l]) Q E s:=by
 refine call_function_entry kind_sorted plain_sorted entry_sorted (args_sorted1 _) ?_;unfold K6.«sorted»;refine o0 (m:=checkCount "sorted" 1 1 _) (F5 ?_);have hz':vs.length<=F7:=by rw[ae2];lia
 refine o0 (wpAny_collect_seq l hT hg hcl hd (fun h1 kp0=>o0 (wpAny_newList ?_ hz')) (by simpa using hz'));have kp2:∀b o,h1.get? b=some o->(h1.push (ah6 "list" vs.toArray 0)).get? b=some o:=fun b o e=>by
  rw[K7.get?_push_ne _ _ _ (K0 (J4 e))];exact e
 have kp1:∀b o,s.heap.get? b=some o->(h1.push (ah6 "list" vs.toArray 0)).get? b=some o:=fun b o e=>kp2 b o (kp0 b o e);have new:(h1.push (ah6 "list" vs.toArray 0)).get? h1.objs.size=some (ah6 "list" vs.toArray 0):=J3 _ rfl;have old1:h1.get? h1.objs.size=none:=K7.get?_none_of_le (F9 _);have old:s.heap.get? h1.objs.size=none:=by
  cases e:s.heap.get? h1.objs.size with
  |none=>rfl
  |some u=>rw[kp0 _ _ e]at old1;cases old1
 show K2 _ _ _ _ _ { s with heap:=h1.push (ah6 "list" vs.toArray 0) };have go:∀(t:F4),qz h1.objs.size { s with heap:=h1.push (ah6 "list" vs.toArray 0) } t->∀b o,s.heap.get? b=some o->t.heap.get? b=some o:=fun t ht b o e=>ht b o (fun q=>by rw[q,old]at e;cases e) (kp1 b o e);have go1:∀(t:F4),qz h1.objs.size { s with heap:=h1.push (ah6 "list" vs.toArray 0) } t->∀b o,h1.get? b=some o->t.heap.get? b=some o:=fun t ht b o e=>ht b o (fun q=>by rw[q,old1]at e;cases e) (kp2 b o e);refine o0 (R5 (Q6 slot_list_sort ⟨_,new,rfl⟩ entry_list_sort ?_ (args_list_sort _)));refine vD (κ:=κ) (key:=key) new hz (fun t Q' two ht q=>hk t Q' two (go t ht) q) (fun i j t C hi hj ht q=>hc i j t C hi hj (go t ht) q) fun p c h' hp hr hs hx=>?_;refine⟨_,rfl,F5 ⟨_,rfl,?_⟩⟩;exact k h1 p _ c h' kp0 hp hr (F9 _) (fun b o e=>go1 { s with heap:=h' } hs b o e) hx
end
def EZ:Z5 where
 α:=Int
 blt a b:=decide (a<b)
 irrefl a:=by simp
 trans a b c h1 h2:=by simp only[decide_eq_true_eq]at *;lia
 negTrans a b c h:=by simp only[decide_eq_true_eq]at *;lia
 total a b h1 h2:=by simp only[decide_eq_false_iff_not]at *;lia
def nt(ns:List Int):List Int:=ns.mergeSort fun a b=>decide (a<=b)
theorem rZ(ns:List Int):(nt ns).Perm ns:=ac7 _ _
theorem wO(ns:List Int):(nt ns).Pairwise fun a b=>a<=b:=by
 have:=List.pairwise_mergeSort (le:=fun a b:Int=>decide (a<=b)) (fun a b c h1 h2=>by simp only[decide_eq_true_eq]at *;lia) (fun a b=>by simp only[ah4,decide_eq_true_eq];lia) ns;exact this.imp fun h=>by simpa using h
theorem uY{ns ms:List Int}(h:ms.Perm ns) (hs:ms.Pairwise fun a b=>a<=b):ms=nt ns :=
 al4.eq_of_pairwise (le:=fun a b:Int=>a<=b) (fun a b _ _ h1 h2=>by lia) hs (wO ns) (h.trans (rZ ns).symm)
section
variable{X:Cx}{ae:List (J7×Obj)}{s:F4}{σ:St}{H:Hp}{M:DH}
theorem qU(ns:List Int):(R8 ns.length).map (fun i=>ns.getD i 0)=ns:=by
 apply aj3 (by simp);intro i h1 h2;simp[u8 h2]
theorem Bl{K:F2}{ns:List Int}{vs:List V}{us:List F3}(rl:ao K M H (ns.map D.int) vs) (rv:ay vs us) {i:Nat}(hi:i<ns.length):∃t,us[i]?=some (.int ns[i] t):=by
 obtain⟨v,g,r⟩:=rl.get (i:=i) (d:=D.int ns[i]) (by simp[hi]);obtain⟨u',g',r'⟩:=rv.get g;simp only[Rep]at r;subst r;obtain⟨t,rfl⟩:=r';exact⟨t,g'⟩
theorem nM{K:F2}{ns:List Int}{vs:List V}(rl:ao K M H (ns.map D.int) vs):∀{l:List Nat},(∀i∈l,i<ns.length)->ao K M H ((l.map fun i=>ns.getD i 0).map D.int) (l.map fun i=>vs.getD i .non)
 |[],_=>rfl
 |i::l,h=>by
  have hi:=h i (.head _);obtain⟨v,g,r⟩:=rl.get (i:=i) (d:=D.int ns[i]) (by simp[hi]);simp only[J8,ao];refine⟨v,_,?_,?_,nM rl fun j hj=>h j (.tail _ hj)⟩
  ·rw[N7,g];rfl
  ·rw[N7,u8 hi];exact r
theorem vI{us:List F3}:∀{ns:List Int},us.length=ns.length->(∀i (hi:i<ns.length),∃t,us[i]?=some (.int ns[i] t))->ap7 us ns:=by
 induction us with
 |nil=>intro ns h _;cases ns with|nil=>exact .nil|cons n ns=>cases h
 |cons u us ih =>
  intro ns h hh;cases ns with
  |nil=>cases h
  |cons n ns =>
   obtain⟨t,e⟩:=hh 0 (by simp);have e':u=.int n t:=by simpa using e
   subst e';exact .cons _ _ (ih (by simpa using h) fun i hi=>by
    obtain⟨t2,e2⟩:=hh (i+1) (by simpa using hi);exact⟨t2,by rw[U4]at e2;exact e2⟩)
theorem wG(I:Inv X ae σ H s) (hr:HR X.K M H) {ns:List Int}(h64:ns.length<64) {l:J7}{T:String}{o:Obj}{n:Nat}{vs:List V}{its:List F3}(rl:ao X.K M H (ns.map D.int) vs) (rv:ay vs its) (hzv:vs.length<=F7)
  (hT:T="list"∨T="tuple") (hg:s.heap.get? l=some o) (hcl:o.cls=.type T) (hd:o.data=.seq its.toArray n) {Q:VK}
  (k:∀w H',Ext M H M H'->HR X.K M H'->Rep X.K M H' (.lst ((nt ns).map D.int)) w->Q w H'):K2 (L5 X.prog X.w) X.A (call (.builtin "sorted") [.ref l]) (EP X ae σ Q) X.xe s:=by
 have hn:ns.length=its.length:=by rw[<-rv.length,<-rl.length,F1]
 have at_:=fun i (hi:i<ns.length)=>Bl rl rv hi;have key:∀i (hi:i<ns.length),ns.getD i 0=ns[i]:=fun i hi=>by rw[N7,u8 hi];rfl
 refine nI (O:=EZ) (key:=fun i=>ns.getD i 0) (κ:=oneType') hT hg hcl hd (by lia) (fun s1 Q' two kp q=>?_) (fun i j s1 C hi hj kp q=>?_) fun h1 p x c h' kp0 hp hs hx kp ho=>?_
 ·have ia:=vI hn.symm at_
  match its,two,ia with
  |v1::v2::r,_,ia=>rw[keyKind_ints ia];exact F5 q
 ·rw[<-hn]at hi hj;obtain⟨t,g⟩:=at_ i hi;obtain⟨u,g'⟩:=at_ j hj;show K2 _ _ (keyLt' _ _ _) _ _ _;rw[eY g,eY g'];refine kat_lt_int ?_;have q':C (decide (ns.getD i 0<ns.getD j 0)) s1:=q
  rwa [key i hi,key j hj]at q'
 ·have hlt:∀i∈p.toList,i<ns.length:=fun i hi=>by rw[hn];exact aa0.mp (hp.mem_iff.mp hi)
  have hlv:vs.length=its.length:=rv.length;have lo:(p.toList.map fun i=>vs.getD i .non).length=its.length:=by rw[F1,L0];exact hp.size
  have I1:Inv X ae σ H { s with heap:=h1,toks:=s.toks }:=I.kept kp0;have I2:=I1.laid (t':=s.toks) (o:=.lst (p.toList.map fun i=>vs.getD i .non)) kp hx (show bT X.prog X.w _ h' x (.lst _)from⟨by rw[lo,<-hlv];exact hzv,gf its p,c,jI rv (fun i hi=>by rw[hlv,<-hn];exact hlt i hi),ho⟩);have es:(p.toList.map fun i=>ns.getD i 0)=nt ns:=by
   have hp':p.toList.Perm (R8 ns.length):=by rw[hn];exact hp
   have hm:=hp'.map fun i=>ns.getD i 0;rw[qU]at hm;refine uY hm ?_;rw[aa5];intro i j hi hj hij;have sz:p.size=its.length:=hp.size;rw[F1,L0]at hi hj;have:=hs i j (ai6 hij) (by lia);have e1:kp_ p i=p.toList[i]'(by simpa using hi):=by simp[kp_,ac0,hi]
   have e2:kp_ p j=p.toList[j]'(by simpa using hj):=by simp[kp_,ac0,hj]
   have g:ns.getD (kp_ p i) 0<=ns.getD (kp_ p j) 0:=by
    have z:decide (ns.getD (kp_ p j) 0<ns.getD (kp_ p i) 0)=false:=this;simp only[decide_eq_false_iff_not]at z
    lia
   rw[e1,e2]at g;simpa using g
  refine⟨.ref x,_,I2,rfl,eM hr (I1.hok.fresh hx) (nM rl hlt) fun w H' a b c=>?_⟩;rw[es]at c;exact k w H' a b c
theorem tY(I:Inv X ae σ H s) (hr:HR X.K M H) {ps:List (Int×Int)}(h64:ps.length<64) {l:J7}{T:String}{o:Obj}{n:Nat}{vs:List V}{its:List F3}(rl:ao X.K M H (ps.map pD) vs) (rv:ay vs its) (hzv:vs.length<=F7)
  (hT:T="list"∨T="tuple") (hg:s.heap.get? l=some o) (hcl:o.cls=.type T) (hd:o.data=.seq its.toArray n) {Q:VK}
  (k:∀w H',Ext M H M H'->HR X.K M H'->Rep X.K M H' (.lst ((iD ps).map pD)) w->Q w H'):K2 (L5 X.prog X.w) X.A (call (.builtin "sorted") [.ref l]) (EP X ae σ Q) X.xe s:=by
 have hn:ps.length=its.length:=by rw[<-rv.length,<-rl.length,F1]
 have at_:=fun i (hi:i<ps.length)=>AM I rl rv hi;have key:∀i (hi:i<ps.length),ps.getD i (0,0)=ps[i]:=fun i hi=>by rw[N7,u8 hi];rfl
 refine nI (O:=EW) (key:=fun i=>ps.getD i (0,0)) (κ:=tuples' true) hT hg hcl hd (by lia) (fun s1 Q' two kp q=>?_) (fun i j s1 C hi hj kp q=>?_) fun h1 p x c h' kp0 hp hs hx kp ho=>?_
 ·obtain⟨fs,t1,t2,t3⟩:=tu (h:=s1.heap) hn.symm fun i hi=>let⟨a,t,u,g,z⟩:=at_ i hi;⟨a,t,u,g,iL z kp⟩
  exact kat_kind (T:=.type "int") t1 (by lia) (fun f hf=>by obtain⟨i,t,rfl⟩:=t3 f hf;exact Looks.of_pure rfl) rfl q
 ·rw[<-hn]at hi hj;obtain⟨a,t,u,g,z⟩:=at_ i hi;obtain⟨b,t',u',g',z'⟩:=at_ j hj;show K2 _ _ (keyLt' _ _ _) _ _ _;rw[eY g,eY g'];refine xE (iL z kp) (iL z' kp) ?_;have q':C (ltP (ps.getD i (0,0)) (ps.getD j (0,0))) s1:=q
  rwa [key i hi,key j hj]at q'
 ·have hlt:∀i∈p.toList,i<ps.length:=fun i hi=>by rw[hn];exact aa0.mp (hp.mem_iff.mp hi)
  have hlv:vs.length=its.length:=rv.length;have lo:(p.toList.map fun i=>vs.getD i .non).length=its.length:=by rw[F1,L0];exact hp.size
  have I1:Inv X ae σ H { s with heap:=h1,toks:=s.toks }:=I.kept kp0;have I2:=I1.laid (t':=s.toks) (o:=.lst (p.toList.map fun i=>vs.getD i .non)) kp hx (show bT X.prog X.w _ h' x (.lst _)from⟨by rw[lo,<-hlv];exact hzv,gf its p,c,jI rv (fun i hi=>by rw[hlv,<-hn];exact hlt i hi),ho⟩);have es:(p.toList.map fun i=>ps.getD i (0,0))=iD ps:=by
   have hp':p.toList.Perm (R8 ps.length):=by rw[hn];exact hp
   have hm:=hp'.map fun i=>ps.getD i (0,0);rw[uq]at hm;refine vG hm ?_;rw[aa5];intro i j hi hj hij;have sz:p.size=its.length:=hp.size;rw[F1,L0]at hi hj;have:=hs i j (ai6 hij) (by lia);have e1:kp_ p i=p.toList[i]'(by simpa using hi):=by simp[kp_,ac0,hi]
   have e2:kp_ p j=p.toList[j]'(by simpa using hj):=by simp[kp_,ac0,hj]
   have g:leP (ps.getD (kp_ p i) (0,0)) (ps.getD (kp_ p j) (0,0))=true:=by
    have z:ltP (ps.getD (kp_ p j) (0,0)) (ps.getD (kp_ p i) (0,0))=false:=this;simp only[leP,z,Bool.not_false]
   rw[e1,e2]at g;simpa using g
  refine⟨.ref x,_,I2,rfl,eM hr (I1.hok.fresh hx) (ni rl hlt) fun w H' a b c=>?_⟩;rw[es]at c;exact k w H' a b c
def qk(ds:List D):Option D:=if ds.length<64 then(match i6 ds with|some ps=>some (.lst ((iD ps).map pD))|none=>(cJ ds).map fun ns=>.lst ((nt ns).map D.int))else none
def yc:D->Option D
 |.lst ds=>qk ds
 |.tup ds=>qk ds
 |_=>none
theorem qM:∀{ds:List D}{ns:List Int},cJ ds=some ns->ds=ns.map D.int:=by
 intro ds
 induction ds using cJ.induct with
 |case1=>intro ns e;cases e;rfl
 |case2 i ds ih =>
  intro ns e;simp only[cJ]at e;cases q:cJ ds with
  |none=>rw[q]at e;cases e
  |some qs=>rw[q]at e;cases e;rw[ih q];rfl
 |case3 ds h1 h2=>intro ns e;rw[cJ]at e<;>simp_all
theorem xv(I:Inv X ae σ H s) (hr:HR X.K M H) {ds:List D}{dz:D}(e:qk ds=some dz) {l:J7}{T:String}{o:Obj}{n:Nat}{vs:List V}{its:List F3}(rl:ao X.K M H ds vs) (rv:ay vs its) (hzv:vs.length<=F7)
  (hT:T="list"∨T="tuple") (hg:s.heap.get? l=some o) (hcl:o.cls=.type T) (hd:o.data=.seq its.toArray n) {Q:VK}
  (k:∀w H',Ext M H M H'->HR X.K M H'->Rep X.K M H' dz w->Q w H'):K2 (L5 X.prog X.w) X.A (call (.builtin "sorted") [.ref l]) (EP X ae σ Q) X.xe s:=by
 unfold qk at e
 split at e
 ·rename_i h64
  split at e
  ·rename_i ps q;cases e;have:=rX q;subst this;exact tY I hr (by simpa using h64) rl rv hzv hT hg hcl hd k
  ·cases q:cJ ds with
   |none=>rw[q]at e;cases e
   |some ns =>
    rw[q]at e;cases e;have:=qM q;subst this;exact wG I hr (by simpa using h64) rl rv hzv hT hg hcl hd k
 ·cases e
theorem yf:bH X (.builtin "sorted") (lY yc):=by
 intro ae s σ H M xs us ds dz Q I hr rv rp e k;obtain⟨d,rfl,e0⟩:=cF e;clear e;obtain⟨v,rfl,r⟩:=i7 rp;obtain⟨u,rfl,ru⟩:=ay.one rv;cases d with
 |lst ds =>
  obtain⟨l,vs,rfl,sq,rl⟩:=r;cases ru;obtain⟨its,rv,pl,hz⟩:=I.list (SqL.of sq);obtain⟨o,ho,hc,n,hd⟩:=pl.isList;exact xv I hr e0 rl rv hz (.inl rfl) ho hc hd fun w H' a b c=>k w H' a b c
 |tup ds =>
  obtain⟨l,vs,rfl,sq,rl⟩:=r;cases ru;obtain⟨its,rv,tp,hz⟩:=I.tuple sq;obtain⟨o,ho,hc,n,hd⟩:=tp;exact xv I hr e0 rl rv hz (.inr rfl) ho hc hd fun w H' a b c=>k w H' a b c
 |_=>cases e0
theorem zo{ps:List (Int×Int)}(h:ps.length<64):yc (.lst (ps.map pD))=some (.lst ((iD ps).map pD)):=by simp[yc,qk,nT,h]
end
end L2
namespace L2
open PySem PySem.Spec PyProof.Rows
section
variable{X:Cx}{scope:aa1}{cl:List (Str×J7)}{ms:List Bool}{ai:List Str}{elt t0 i0 t1 i1:M9}{f0 f1:List M9}{pos:Pos}
theorem xq{i:Nat}{x:Str}{spos pos':Pos}{w0 wi:TId}{g0 g:GD}{tc0 tc:TTd}{te:TEd}(hN:X.N.Nodup) (hix:X.N[i]?=some x) (hx:X.env.scope.names.lookup x=some .local)
  (hsw:ae0 (.ListComp elt [⟨t0,i0,f0,0⟩,⟨t1,i1,f1,0⟩] scope pos) (some (.Name x pos')) spos.line X.env=ad0 true) (S:cK X scope cl ms ai) (cp:X.calm=true) (hi:QId X t0 i0 w0) (hg0:PGa X scope cl ai t0 g0)
  (hif0:∀C s H ex,QIf (ax X scope cl (X.N++ai) C s H ex) f0 tc0) (hi1:∀C s H ex,QId (ax X scope cl (X.N++ai) C s H ex) t1 i1 wi) (hg:PGa X scope cl ai t1 g) (hif:∀C s H ex,QIf (ax X scope cl (X.N++ai) C s H ex) f1 tc) (he:∀C s H ex,QEd (ax X scope cl (X.N++ai) C s H ex) elt te)
  (hs:∀x,N3 i0 X.env x=ad0 x:=by intro _;rfl) (hs1:∀C x,N3 i1 (am0 scope cl C X.env) x=ad0 x:=by intro _ _;rfl):QSd X (.Assign [.Name x pos'] (.ListComp elt [⟨t0,i0,f0,0⟩,⟨t1,i1,f1,0⟩] scope pos) spos) (qq i (AS ms ai.length w0 g0 tc0 wi g tc te)):=by
 simp only[QEd.eq,QSd.eq,QId.eq,QIf.eq]at *
 obtain⟨gv0,pg0,kg0⟩:=hg0;obtain⟨gv,pg,kg⟩:=hg;refine(jV (tc:=upT X.K tc0) hN hix hx hsw S cp hi pg0 hif0 (By (w1:=upI X.K wi) (tc1:=upT X.K tc) (te:=up X.K te) hi1 pg hif he hs1) hs).conv fun D σ H hh=>?_;obtain⟨Δ,M,E,sr,hr,q,k⟩:=hh;unfold qq AS at q;exact pR kg0 (fun h=>oZ kg sO h) σ H _ ⟨Δ,M,_,sr,hr,q,fun d M1 v H1 q1 e1 hr1 rv=>k.nx _ M1 _ H1 q1 e1 hr1 ((sr.ext e1).set i rv)⟩
end
section
variable{X:Cx}
end
section
variable{X:Cx}
def inF(x y:D):Option D:=match y with
 |.lst ds=>if dLe x 59=true/\dF ds 59=true then some (.bl (ds.any fun d=>eqD d x))else none
 |_=>none
theorem DO{x:D}{ds:List D}:inF x (.lst ds)=if dLe x 59=true/\dF ds 59=true then some (.bl (ds.any fun d=>eqD d x))else none:=rfl
end
section
variable{X:Cx}{a b e:M9}{ta tb te:TEd}{pos:Pos}
def Ax(ta tb:TEd):TEd:=fun Δ M Q=>ta Δ M fun x M1=>tb Δ M1 fun y M2=>∃xs n,rdM M2 x=.lst xs/\y=.int n/\-(2 ^ 63)<=n/\n<2 ^ 63/\xs.length*n.toNat<=F7/\∀p,M2 p=none->Q (.ref p) (aH M2 p (.lst (I0 n.toNat xs).flatten))
theorem AN(ha:QEd X a ta) (hb:QEd X b tb):QEd X (.BinOp a .Mult b pos) (Ax ta tb):=by
 simp only[QEd.eq]at *
 exact(zW wA ha hb).conv fun σ H Q hup=>hup.el fun Δ M R sr hr q k=>⟨Δ,M,_,sr,hr,q,fun x M1 v H1 q1 e1 hr1 rv=>⟨Δ,M1,_,sr.ext e1,hr1,q1,fun y M2 u H2 ⟨xs,n,ex,ey,h0,h1,hz,q2⟩ e2 hr2 ru=>by
   have r1:=(rv.ext e2).rd hr2;rw[ex]at r1;subst ey;simp only[Rep]at ru;obtain⟨l1,vs,rfl,hl,l1r⟩:=r1;exact⟨l1,n,vs,rfl,ru,hl,h0,h1,by rw[<-l1r.length];exact hz,fun p hp=>k _ _ _ _ (q2 p (hr2.fresh hp)) ((e1.trans e2).trans (Ext.own hp)) (hr2.own hp (l1r.rep n.toNat)) (by simp only[Rep])⟩⟩⟩
def qQ(ds:List D) (x:D):Option Nat:=if dLe x 59=true/\dF ds 59=true/\ds.length<2 ^ 62 then ds.findIdx? (fun d=>eqD d x)else none
theorem wJ{ds:List D}{x:D}{j:Nat}(h:qQ ds x=some j):dLe x 59=true/\dF ds 59=true/\ds.length<2 ^ 62/\∃hj:j<ds.length,eqD ds[j] x=true/\∀m (hm:m<ds.length),m<j->eqD ds[m] x=false:=by
 unfold qQ at h
 by_cases hc:dLe x 59=true/\dF ds 59=true/\ds.length<2 ^ 62
 ·rw[if_pos hc]at h;obtain⟨hj,h1,h2⟩:=List.findIdx?_eq_some_iff_getElem.mp h;exact⟨hc.1,hc.2.1,hc.2.2,hj,h1,fun m hm hl=>by have:=h2 m hl;simpa using this⟩
 ·rw[if_neg hc]at h;cases h
section
open PySem.SeqAt PySem.MeetsSeq AutoSeq1
theorem uh(l:J7) (xs:Array F3) (y:F3) (hit:Nat->Bool) (j:Nat) (lj:j<xs.size) (ls:(j:Int)<2 ^ 63-1) (yes:hit j=true) (no:∀m,m<j->hit m=false) :
  Meets (K6.«tuple.index» ⟨[.ref l,y],[]⟩)
   (fun B R t=>(∃o n,t.heap.get? l=some o/\o.data=.seq xs n)/\(∀m (h:m<xs.size),EqAt B.in1 t xs[m] y (hit m))/\R (.ok (.ret (.int j t.toks))) { t with toks:=t.toks+1 }):=by
 intro prog w B R t q;obtain⟨th,tg,td,tt,to⟩:=t;obtain⟨⟨o,n,ql,qd⟩,qe,qr⟩:=q;unfold K6.«tuple.index»
 wp_walk
 rw[qd];refine F5 (F5 ?_);refine o0 (F5 ?_);refine o0 (F5 ?_);dsimp only;rw[Nat.min_self];refine o0 ?_;rw[Std.Legacy.Range.forIn_eq_forIn_range'];refine wpAny_forIn_list _ (fun rest b t'=>b=(none,())/\t'=(⟨th,tg,td,tt,to⟩:F4)/\∃i,i<=j/\rest=an6 i (xs.size-i) 1) _ ?_ ?_ _ _ ⟨rfl,rfl,0,P6 _,?_⟩
 ·rintro x rest b t' ⟨rfl,rfl,i,hi,er⟩;have li:i<xs.size:=by lia
  have e2:an6 i (xs.size-i) 1=i::an6 (i+1) (xs.size-(i+1)) 1:=by
   rw[show xs.size-i=xs.size-(i+1)+1 by lia,List.range'_succ]
  rw[e2]at er;obtain⟨rfl,rfl⟩:=Z6.inj er;rw[S6 li];dsimp only;refine o0 (qe x li prog w _ _ ?_)
  by_cases z:x=j
  ·subst z;rw[yes];simp only[if_true];refine o0 ?_;unfold retInt;refine o0 (wpAny_mkInt (F5 ?_));refine F5 ?_;exact F5 qr
  ·rw[no x (by lia)];simp only[K1,if_false];exact F5 ⟨rfl,rfl,x+1,by lia,rfl⟩
 ·rintro b t' ⟨rfl,rfl,i,hi,er⟩;have:=congrArg X0 er;simp at this
  lia
 ·simp[Std.Legacy.Range.size]
end
end
section
variable{X:Cx}{o e:M9}{to te:TEd}{dX bJ:Pos}
def pI(ds:List D) (d:D) (m:Nat):Bool:=match ds[m]? with|some x=>eqD x d|none=>false
theorem zI{ae:List (J7×Obj)}{σ:St}{H:Hp}{s:F4}{M:DH}{ds:List D}{d:D}{vs:List V}{its:List F3}{y:V}{u:F3}(I:Inv X ae σ H s) (hu:X.A.units+64<ai7) (rl:ao X.K M H ds vs) (r:ay vs its) (r1:aT X.K M H d y) (ry:aN y u) (h1:dLe d 59=true) (h2:dF ds 59=true) :
  ∀m (h:m<its.toArray.size),PySem.SeqAt.EqAt X.A.in1 s its.toArray[m] u (pI ds d m):=fun m h=>by
 have hl:ds.length=its.length:=rl.length.trans r.length;have h':m<its.length:=by simpa using h
 have h3:m<ds.length:=by lia
 obtain⟨v1,g1,p1⟩:=rl.get (i:=m) (d:=ds[m]) (by simp[h3]);obtain⟨u1,k1,m1⟩:=r.get g1;have e1:its.toArray[m]=u1:=by simpa[u8 h']using k1
 rw[e1,show pI ds d m=eqD ds[m] d by simp[pI,h3]];exact(qW I 59 (by show X.A.units+1+59<ai7;lia) (i3 h2 (i:=m) (by simp[h3])) h1 p1.r r1 m1 ry).1
theorem xM{ds:List D}{x:D}{j:Nat}(h:qQ ds x=some j):dLe x 59=true/\dF ds 59=true/\(j:Int)<2 ^ 63-1/\j<ds.length/\pI ds x j=true/\∀m,m<j->pI ds x m=false:=by
 obtain⟨h1,h2,h3,lj,yes,no⟩:=wJ h;refine⟨h1,h2,by lia,lj,by simp[pI,lj,yes],fun m hm=>?_⟩;have hm':m<ds.length:=by lia
 simp[pI,hm',no m hm' hm]
theorem yG(hu:X.A.units+64<ai7):MtR X "tuple.index" (fun x xs H Q=>∃M ds d y j,xs=[y]/\aT X.K M H (.tup ds) x/\aT X.K M H d y/\qQ ds d=some j/\Q (.int j) H):=by
 intro ae s σ H x xs v us Q I rx rv h;obtain⟨M,ds,d,y,j,rfl,r2,r1,hj,q⟩:=h;obtain⟨u,rfl,ry⟩:=ay.one rv;obtain⟨l,vs,rfl,sq,rl⟩:=r2;cases rx;obtain⟨its,r,⟨ob,ho,hc,⟨n,hd⟩,_⟩,hz⟩:=I.tupN sq;obtain⟨h1,h2,h3,lj,yes,no⟩:=xM hj;have hl:ds.length=its.length:=rl.length.trans r.length;exact ag5 F.slot_tuple_index ⟨_,ho,hc⟩ F.entry_tuple_index (F.args_tuple_index_2 _ _) (uh l its.toArray u (pI ds d) j (by simp;lia) h3 yes no) ⟨⟨ob,n,ho,hd⟩,zI I hu rl r r1 ry h1 h2,⟨.int _,H,I.tok _,⟨_,rfl⟩,q⟩⟩
def Ex(K:F2) (r:V->List V->Hp->VK->Prop) (to:TE) (t:TA):TE:=fun σ H Q=>to σ H fun x H1=>(∃p xs,x=.ref p/\SqT K H1 p xs)/\t σ H1 fun xs H2=>r x xs H2 Q
theorem BQ{name:Str}{id:String}{r:V->List V->Hp->VK->Prop}{es:List M9}{to:TE}{t:TA}(slot:Slot "tuple" name id) (hty:typeOf (.builtin id)=ad0 (.type "method_descriptor")) (hm:MtR X id r) (ho:PE X o to) (ha:PA X (e::es) t)
  (fD:Z0 o name X.env (ad3 o X.env)=ad3 o X.env)
  (mn:((V7 bJ (K4 (e :: es) X.env)).all (fun x => !x.1) && (am8 bJ (ah8 [] X.env)).all (fun x => x.1.isSome)
  &&decide ((e::es).length+([]:List ah9).length+(if([]:List ah9).isEmpty then 0 else 1)<30))=true)
  (fC:(dX.endLine==bJ.line)=true) (hs:K4 (e::es) X.env=(false,ad3 e X.env)::K4 es X.env) (fX:(V7 bJ (K4 es X.env)).any (·.1)=false) :
  PE X (.Call (.Attribute o name dX) (e::es) [] bJ) (Ex X.K r to t):=by
 intro ae s σ H Q I h;refine wpAny_Call_method_late fD mn fC rfl (thn (ho ae s σ H _ I h) fun v s1 ⟨x,H1,I1,r1,⟨p,xs,ex,sq⟩,q1⟩=>?_);subst ex;cases r1;obtain⟨its,_,⟨ob,eo,ec,_,en⟩,_⟩:=I1.tupN sq;refine⟨"tuple",id,F.plainAttrs_tuple,slot,hty,⟨ob,eo,ec⟩,fun a z=>by cases z;exact⟨ob,eo,en⟩,?_⟩;have hA:=ha bJ ae s1 σ H1 _ I1 q1;rw[hs]at hA ⊢;refine Calls.callWith_builtin (by show(false || (V7 bJ (K4 es X.env)).any (·.1))=false;rw[fX]<;>rfl) (Calls.evalArgs_plain ?_);exact thn hA fun us s2 hup=>hup.el fun vs H2 I2 r2 q2=>hm ae s2 σ H2 (.ref p) vs (V4 p) us Q I2 rfl r2 q2
def Ab(to te:TEd):TEd:=fun Δ M Q=>to Δ M fun o M1=>∃ds,o=.tup ds/\te Δ M1 fun x M2=>∃j,qQ ds (rdM M2 x)=some j/\Q (.int j) M2
theorem BE(hu:X.A.units+64<ai7) (ho:QEd X o to) (he:QEd X e te) (fD:Z0 o "index" X.env (ad3 o X.env)=ad3 o X.env:=by rfl)
  (hse:K4 [e] X.env=(false,ad3 e X.env)::K4 [] X.env:=by rfl)
  (mn:((V7 bJ (K4 [e] X.env)).all (fun x => !x.1) && (am8 bJ (ah8 [] X.env)).all (fun x => x.1.isSome)
  &&decide ([e].length+([]:List ah9).length+(if([]:List ah9).isEmpty then 0 else 1)<30))=true:=by rfl)
  (fC:(dX.endLine==bJ.line)=true:=by rfl) (fX:(V7 bJ (K4 [] X.env)).any (·.1)=false:=by rfl):QEd X (.Call (.Attribute o "index" dX) [e] [] bJ) (Ab to te):=by
 rw[QEd.eq]at *
 refine(BQ PySem.F.slot_tuple_index PySem.F.type_tuple_index (yG hu) ho (ie he lB hse) fD mn fC hse fX).conv fun σ H Q hh=>?_;obtain⟨Δ,M,R,sr,hr,q,k⟩:=hh;refine⟨Δ,M,_,sr,hr,q,fun o M1 ov H1 ⟨ds,eo,q1⟩ e1 hr1 ro=>?_⟩;subst eo;have r0:aT X.K M1 H1 (.tup ds) ov:=ro.rd hr1;obtain⟨l0,vs0,rfl,hl0,_⟩:=r0;refine⟨⟨_,_,rfl,hl0⟩,Δ,M1,_,sr.ext e1,hr1,q1,fun d M2 v H2 ⟨j,hj,q2⟩ e2 hr2 rv=>?_⟩;have r2:aT X.K M2 H2 (.tup ds) (.ref l0):=(ro.ext e2).rd hr2;exact⟨M2,ds,_,v,j,rfl,r2,rv.rd hr2,hj,k _ M2 _ H2 q2 (e1.trans e2) hr2 (by simp[Rep])⟩
end
noncomputable def itN:Bool->String
 |true=>"tuple_iterator"
 |false=>"list_iterator"
def sqN:Bool->String
 |true=>"tuple"
 |false=>"list"
def dW(b:Bool) (h:K7) (i l:J7) (k:Nat):Prop:=∃o,h.get? i=some o/\o.cls=.type (itN b)/\o.data=.fields #[.ref l,.int k 0]
def eV(b:Bool) (h:K7) (l:J7) (xs:Array F3):Prop:=∃o,h.get? l=some o/\o.cls=.type (sqN b)/\∃n,o.data=.seq xs n
section
variable{prog:L1}{w:P9}{A:O0}{E:F3->F4->Prop}{s:F4}{b c:Bool}
theorem dW.go{h h':K7}{i l:J7}{k:Nat}(x:dW b h i l k) (f:∀o,h.get? i=some o->h'.get? i=some o):dW b h' i l k:=let⟨o,e,r⟩:=x;⟨o,f o e,r⟩
theorem eV.go{h h':K7}{l:J7}{xs:Array F3}(x:eV b h l xs) (f:∀o,h.get? l=some o->h'.get? l=some o):eV b h' l xs:=let⟨o,e,r⟩:=x;⟨o,f o e,r⟩
theorem iJ{it l:J7}{i:Nat}{xs:Array F3}{x:F3}{Q:F3->F4->Prop}(p:dW b s.heap it l i) (q:eV b s.heap l xs) (hx:xs[i]?=some x)
  (k:∀h',dW b h' it l (i+1)->O4 it s.heap h'->Q x { s with heap:=h' }):K2 (L5 prog w) A (O8 (.ref it)) Q E s:=by
 cases b with
 |true=>exact kz (show s.heap.IsTupleIter it l i from p) (show s.heap.IsTuple l xs from q) hx k
 |false=>exact wpAny_nextOf_list_item (show s.heap.IsListIter it l i from p) (show s.heap.IsList l xs from q) hx k
theorem ny{it l:J7}{i:Nat}{xs:Array F3}{Q:F3->F4->Prop}(hh:A.handled=none) (p:dW b s.heap it l i) (q:eV b s.heap l xs) (hx:xs[i]?=none)
  (k:∀h' e,an7 it s.heap h'->(∃o,h'.get? e=some o/\o.cls=.type "StopIteration")->E (.ref e) { s with heap:=h' }):K2 (L5 prog w) A (O8 (.ref it)) Q E s:=by
 cases b with
 |true=>exact lw hh (show s.heap.IsTupleIter it l i from p) (show s.heap.IsTuple l xs from q) hx k
 |false=>exact wpAny_nextOf_list_end hh (show s.heap.IsListIter it l i from p) (show s.heap.IsList l xs from q) hx k
theorem tX{z T U i j l m:J7}{k:Nat}{xs ys:Array F3}{x y u v:F3}{Q:F3->F4->Prop}(D:ao5 z T U i j l m)
  (hz:an8 s.heap z T U .none) (hT:ag0 s.heap T (.ref i) (.ref j)) (hU:ag0 s.heap U u v) (hi:dW b s.heap i l k) (hj:dW c s.heap j m k) (hl:eV b s.heap l xs) (hm:eV c s.heap m ys) (hx:xs[k]?=some x) (hy:ys[k]?=some y)
  (q:∀ h',an8 h' z T U (X5 s.heap.objs.size) → ag0 h' U x y → dW b h' i l (k + 1) → dW c h' j m (k + 1) → ag0 h' s.heap.objs.size x y → h'.objs.size = s.heap.objs.size + 1 →
   (∀d o,d≠z->d≠U->d≠i->d≠j->s.heap.get? d=some o->h'.get? d=some o)->Q (.ref s.heap.objs.size) { s with heap:=h' }) :
  K2 (L5 prog w) A (K6.«zip.__next__» ⟨[.ref z],[]⟩) (fun fin s'=>∃v,fin=.done (.ret v)/\Q v s') E s:=by
 show K2 _ _ (field (.ref z) 2 >>= _) _ _ _;refine o0 (U2 hz rfl (x:=.bool false) rfl ?_);show K2 _ _ (field (.ref z) 3 >>= _) _ _ _;refine o0 (U2 hz rfl (x:=.ref T) rfl (o0 (W6 hT rfl ?_)));show K2 _ _ (T8 (.ref z) >>= _) _ _ _;refine o0 ?_;unfold T8;refine o0 (U2 hz rfl (x:=.none) rfl (F5 ?_));simp only[if_true];refine o0 (ab0 (o0 (U2 hz rfl (x:=.ref U) rfl ?_)));refine o0 (Z7 hz (by simp) fun g1 z1 s1=>?_);replace z1:an8 g1 z T U .ellipsis:=z1;refine o0 ?_;simp only[List.zipIdx_cons,List.zipIdx_nil,List.forIn_cons,List.forIn_nil];refine o0 (o0 (aj9 ?_));show K2 _ _ (O8 (.ref i) >>= _) _ _ _;refine o0 (iJ (hi.go fun o e=>s1.extBut _ _ D.i1z e) (hl.go fun o e=>s1.extBut _ _ D.l1z e) hx fun g2 i2 s2=>F5 ?_);have u2:ag0 g2 U u v:=s2.extBut _ _ D.TOi1 (s1.extBut _ _ D.TOz hU);refine o0 (W6 u2 rfl (o0 (wpAny_updateSeq_pair u2 fun g3 u3 s3=>?_)));replace u3:ag0 g3 U x v:=u3;refine o0 (wpAny_letGo (F5 (o0 (o0 (aj9 ?_)))));show K2 _ _ (O8 (.ref j) >>= _) _ _ _;refine o0 (iJ (hj.go fun o e=>s3.extBut _ _ D.TOi2.symm (s2.extBut _ _ D.i12.symm (s1.extBut _ _ D.i2z e))) (hm.go fun o e=>s3.extBut _ _ D.l2TO (s2.extBut _ _ D.l2i1 (s1.extBut _ _ D.l2z e))) hy fun g4 j4 s4=>F5 ?_);have u4:ag0 g4 U x v:=s4.extBut _ _ D.TOi2 u3;refine o0 (W6 u4 rfl (o0 (wpAny_updateSeq_pair u4 fun g5 u5 s5=>?_)));replace u5:ag0 g5 U x y:=u5;refine o0 (wpAny_letGo (F5 (F5 (o0 (W6 u5 rfl (o0 (wpAny_newTuple ?_)))))));have sz:g5.objs.size=s.heap.objs.size:=by rw[s5.1,s4.1,s3.1,s2.1,s1.1]
 have z5:an8 g5 z T U .ellipsis:=s5.extBut _ _ D.TOz.symm (s4.extBut _ _ D.i2z.symm (s3.extBut _ _ D.TOz.symm (s2.extBut _ _ D.i1z.symm z1)));have kp:∀d o,d≠z->d≠U->d≠i->d≠j->s.heap.get? d=some o->g5.get? d=some o:=fun d o a1 a2 a3 a4 e =>
  s5.extBut _ _ a2 (s4.extBut _ _ a4 (s3.extBut _ _ a2 (s2.extBut _ _ a3 (s1.extBut _ _ a1 e))))
 have i5:dW b g5 i l (k+1):=i2.go fun o e=>s5.extBut _ _ D.TOi1.symm (s4.extBut _ _ D.i12 (s3.extBut _ _ D.TOi1.symm e));have j5:dW c g5 j m (k+1):=j4.go fun o e=>s5.extBut _ _ D.TOi2.symm e;have lz:z<g5.objs.size:=J4 z5;show K2 _ _ (K6.SmallTypes.ownedTupleHandOut (.ref z) (.ref g5.objs.size) >>= _) _ _ _;refine o0 ?_;unfold K6.SmallTypes.ownedTupleHandOut;have z6:an8 (g5.push { cls:=.type "tuple",data:=.seq #[x,y] }) z T U .ellipsis:=F0 _ z5;refine o0 (Z7 z6 (by simp) fun g7 z7 s7=>?_);replace z7:an8 g7 z T U (X5 g5.objs.size):=z7;refine Z7 z7 (by simp) fun g8 z8 s8=>?_;replace z8:an8 g8 z T U (X5 g5.objs.size):=z8;have up:∀d o,d≠z->g5.get? d=some o->g8.get? d=some o:=fun d o a1 e=>s8.extBut _ _ a1 (s7.extBut _ _ a1 (F0 _ e));have t8:ag0 g8 g5.objs.size x y:=s8.extBut _ _ (W5 lz) (s7.extBut _ _ (W5 lz) (J3 _ rfl));have n8:g8.objs.size=g5.objs.size+1:=by rw[s8.1,s7.1,R4]
 rw[sz]at z8 t8 n8;refine F5 ⟨_,rfl,?_⟩;show Q (.ref g5.objs.size) _;rw[sz];exact q g8 z8 (up _ _ D.TOz u5) (i5.go fun o e=>up _ o D.i1z e) (j5.go fun o e=>up _ o D.i2z e) t8 n8 fun d o a1 a2 a3 a4 e=>up d o a1 (kp d o a1 a2 a3 a4 e)
theorem xB{z T U i j l m:J7}{k:Nat}{xs ys:Array F3}{u v:F3}{Q:PySem.Fin->F4->Prop}(hh:A.handled=none) (D:ao5 z T U i j l m)
  (hz:an8 s.heap z T U .none) (hT:ag0 s.heap T (.ref i) (.ref j)) (hU:ag0 s.heap U u v) (hi:dW b s.heap i l k) (hj:dW c s.heap j m k) (hl:eV b s.heap l xs) (hm:eV c s.heap m ys) (no:xs[k]?=none∨ys[k]?=none)
  (q:∀h' e,(∀d o,d≠z->d≠U->d≠i->d≠j->s.heap.get? d=some o->h'.get? d=some o)->(∃o,h'.get? e=some o/\o.cls=.type "StopIteration")->E (.ref e) { s with heap:=h' }) :
  K2 (L5 prog w) A (K6.«zip.__next__» ⟨[.ref z],[]⟩) Q E s:=by
 show K2 _ _ (field (.ref z) 2 >>= _) _ _ _;refine o0 (U2 hz rfl (x:=.bool false) rfl ?_);show K2 _ _ (field (.ref z) 3 >>= _) _ _ _;refine o0 (U2 hz rfl (x:=.ref T) rfl (o0 (W6 hT rfl ?_)));show K2 _ _ (T8 (.ref z) >>= _) _ _ _;refine o0 ?_;unfold T8;refine o0 (U2 hz rfl (x:=.none) rfl (F5 ?_));simp only[if_true];refine o0 (ab0 (o0 (U2 hz rfl (x:=.ref U) rfl ?_)));refine o0 (Z7 hz (by simp) fun g1 z1 s1=>?_);replace z1:an8 g1 z T U .ellipsis:=z1;refine o0 ?_;simp only[List.zipIdx_cons,List.zipIdx_nil,List.forIn_cons,List.forIn_nil];refine o0 (o0 (aj9 ?_));show K2 _ _ (O8 (.ref i) >>= _) _ _ _;cases hx:xs[k]? with
 |none =>
  refine o0 (ny hh (hi.go fun o e=>s1.extBut _ _ D.i1z e) (hl.go fun o e=>s1.extBut _ _ D.l1z e) hx fun g2 e s2 he=>?_);obtain⟨oe,e1,e2⟩:=he;have z2:an8 g2 z T U .ellipsis:=s2 _ _ D.i1z.symm z1;have ne:e≠z:=fun p=>by subst p;rw[z2]at e1;cases e1;simp at e2
  exact Z7 z2 (by simp) fun g3 _ s3=>q g3 e (fun d o a1 _ a3 _ p=>s3.extBut _ _ a1 (s2 _ _ a3 (s1.extBut _ _ a1 p))) ⟨oe,s3.extBut _ _ ne e1,e2⟩
 |some x =>
  have hy:ys[k]?=none:=no.resolve_left (by rw[hx];exact nofun);refine o0 (iJ (hi.go fun o e=>s1.extBut _ _ D.i1z e) (hl.go fun o e=>s1.extBut _ _ D.l1z e) hx fun g2 i2 s2=>F5 ?_);have u2:ag0 g2 U u v:=s2.extBut _ _ D.TOi1 (s1.extBut _ _ D.TOz hU);refine o0 (W6 u2 rfl (o0 (wpAny_updateSeq_pair u2 fun g3 u3 s3=>?_)));refine o0 (wpAny_letGo (F5 (o0 (o0 (aj9 ?_)))));show K2 _ _ (O8 (.ref j) >>= _) _ _ _;refine o0 (ny hh (hj.go fun o e=>s3.extBut _ _ D.TOi2.symm (s2.extBut _ _ D.i12.symm (s1.extBut _ _ D.i2z e))) (hm.go fun o e=>s3.extBut _ _ D.l2TO (s2.extBut _ _ D.l2i1 (s1.extBut _ _ D.l2z e))) hy fun g4 e s4 he=>?_);obtain⟨oe,e1,e2⟩:=he;have z4:an8 g4 z T U .ellipsis:=s4 _ _ D.i2z.symm (s3.extBut _ _ D.TOz.symm (s2.extBut _ _ D.i1z.symm z1));have ne:e≠z:=fun p=>by subst p;rw[z4]at e1;cases e1;simp at e2
  exact Z7 z4 (by simp) fun g5 _ s5=>q g5 e (fun d o a1 a2 a3 a4 p=>s5.extBut _ _ a1 (s4 _ _ a4 (s3.extBut _ _ a2 (s2.extBut _ _ a3 (s1.extBut _ _ a1 p))))) ⟨oe,s5.extBut _ _ ne e1,e2⟩
theorem og{z T U i j l m:J7}{k:Nat}{xs ys:Array F3}{x y u v:F3}{Q:Option F3->F4->Prop}(D:ao5 z T U i j l m)
  (hz:an8 s.heap z T U .none) (hT:ag0 s.heap T (.ref i) (.ref j)) (hU:ag0 s.heap U u v) (hi:dW b s.heap i l k) (hj:dW c s.heap j m k) (hl:eV b s.heap l xs) (hm:eV c s.heap m ys) (hx:xs[k]?=some x) (hy:ys[k]?=some y)
  (q:∀ h',an8 h' z T U (X5 s.heap.objs.size) → ag0 h' U x y → dW b h' i l (k + 1) → dW c h' j m (k + 1) → ag0 h' s.heap.objs.size x y → h'.objs.size = s.heap.objs.size + 1 →
   (∀d o,d≠z->d≠U->d≠i->d≠j->s.heap.get? d=some o->h'.get? d=some o)->Q (some (.ref s.heap.objs.size)) { s with heap:=h' }) :
  K2 (L5 prog w) A (ag2 (.ref z)) Q E s:=by
 have ty:s.TypeIs (.ref z) "zip":=⟨_,hz,rfl⟩;unfold ag2;exact o0 (ah5 (P5 (name:=K3 "__next__") ty ak5 (Q6 ak5 ty F.entry_zip_next
  (tX D hz hT hU hi hj hl hm hx hy fun h' a1 a2 a3 a4 a5 a6 a7=>F5 (q h' a1 a2 a3 a4 a5 a6 a7)) (F.args_zip_next_1 _))))
theorem pL{z T U i j l m:J7}{k:Nat}{xs ys:Array F3}{u v:F3}{Q:Option F3->F4->Prop}(hh:A.handled=none) (D:ao5 z T U i j l m)
  (hz:an8 s.heap z T U .none) (hT:ag0 s.heap T (.ref i) (.ref j)) (hU:ag0 s.heap U u v) (hi:dW b s.heap i l k) (hj:dW c s.heap j m k) (hl:eV b s.heap l xs) (hm:eV c s.heap m ys) (no:xs[k]?=none∨ys[k]?=none)
  (q:∀h',(∀d o,d≠z->d≠U->d≠i->d≠j->s.heap.get? d=some o->h'.get? d=some o)->Q none { s with heap:=h' }):K2 (L5 prog w) A (ag2 (.ref z)) Q E s:=by
 have ty:s.TypeIs (.ref z) "zip":=⟨_,hz,rfl⟩;unfold ag2;refine o0 (ah5 (P5 (name:=K3 "__next__") ty ak5 (Q6 ak5 ty F.entry_zip_next (xB hh D hz hT hU hi hj hl hm no fun h' e kp he=>?_) (F.args_zip_next_1 _))));obtain⟨o,e1,e2⟩:=he;exact o0 (aj4 (T:="StopIteration") (b:=true) ⟨o,e1,e2⟩ isSubtype_stop (F5 (q _ kp)))
end
abbrev itO(b:Bool) (l:J7):Obj:={ cls:=.type (itN b),data:=.fields #[.ref l,.int 0 0] }
abbrev zp1(h:K7) (b:Bool) (l:J7):K7:=h.push (itO b l)
abbrev zp2(h:K7) (b c:Bool) (l m:J7):K7:=(zp1 h b l).push (itO c m)
abbrev zp3(h:K7) (b c:Bool) (l m:J7):K7:=(zp2 h b c l m).push { cls:=.type "tuple",data:=.seq #[.ref h.objs.size,.ref (zp1 h b l).objs.size] }
abbrev zp4(h:K7) (b c:Bool) (l m:J7):K7:=(zp3 h b c l m).push { cls:=.type "tuple",data:=.seq #[.none,.none] }
abbrev zp5(h:K7) (b c:Bool) (l m:J7):K7:=(zp4 h b c l m).push { cls:=.type "zip",data:=.fields #[.none,.bool false,.bool false,.ref (zp2 h b c l m).objs.size,.ref (zp3 h b c l m).objs.size] }
set_option maxHeartbeats 4000000 in
theorem qT(b c:Bool) (l m:J7) (xs ys:Array F3) :
  Meets (K6.«zip.__new__» ⟨[.type "zip",.ref l,.ref m],[]⟩) (fun _ R s=>eV b s.heap l xs/\eV c s.heap m ys/\R (.ok (.ret (.ref (zp4 s.heap b c l m).objs.size))) { s with heap:=zp5 s.heap b c l m }) :=
 .of_wp fun prog w A R s h=>by
  obtain⟨hp,g,d,tk,os⟩:=s;obtain⟨h1,h2,hR⟩:=h;have hsub:=sub_zip;cases b with
  |true =>
   have p1:K7.IsTuple (ak6 ⟨hp,g,d,tk,os⟩) l xs:=h1;cases c with
   |true =>
    have p2:K7.IsTuple (ak6 ⟨hp.push { cls:=.type "tuple_iterator",data:=.fields #[.ref l,.int 0 0] },g,d,tk,os⟩) m ys:=eV.go (b:=true) h2 fun o e=>F0 _ e
    wp_walk using Z4 p1,Z4 p2
    exact⟨_,rfl,hR⟩
   |false =>
    have p2:K7.IsList (ak6 ⟨hp.push { cls:=.type "tuple_iterator",data:=.fields #[.ref l,.int 0 0] },g,d,tk,os⟩) m ys:=eV.go (b:=false) h2 fun o e=>F0 _ e
    wp_walk using Z4 p1,V1 p2
    exact⟨_,rfl,hR⟩
  |false =>
   have p1:K7.IsList (ak6 ⟨hp,g,d,tk,os⟩) l xs:=h1;cases c with
   |true =>
    have p2:K7.IsTuple (ak6 ⟨hp.push { cls:=.type "list_iterator",data:=.fields #[.ref l,.int 0 0] },g,d,tk,os⟩) m ys:=eV.go (b:=true) h2 fun o e=>F0 _ e
    wp_walk using V1 p1,Z4 p2
    exact⟨_,rfl,hR⟩
   |false =>
    have p2:K7.IsList (ak6 ⟨hp.push { cls:=.type "list_iterator",data:=.fields #[.ref l,.int 0 0] },g,d,tk,os⟩) m ys:=eV.go (b:=false) h2 fun o e=>F0 _ e
    wp_walk using V1 p1,V1 p2
    exact⟨_,rfl,hR⟩
theorem uU{prog:L1}{w:P9}{A:O0}{E:F3->F4->Prop}{s:F4}{b c:Bool}{l m:J7}{xs ys:Array F3}{Q:F3->F4->Prop}(h1:eV b s.heap l xs) (h2:eV c s.heap m ys)
  (q:∀ h',an8 h' (s.heap.objs.size + 4) (s.heap.objs.size + 2) (s.heap.objs.size + 3) .none → ag0 h' (s.heap.objs.size + 2) (.ref s.heap.objs.size) (.ref (s.heap.objs.size + 1)) →
   ag0 h' (s.heap.objs.size+3) .none .none->dW b h' s.heap.objs.size l 0->dW c h' (s.heap.objs.size+1) m 0->h'.objs.size=s.heap.objs.size+5 ->
   (∀d o,s.heap.get? d=some o->h'.get? d=some o)->Q (.ref (s.heap.objs.size+4)) { s with heap:=h' }) :
  K2 (L5 prog w) A (call (.type "zip") [.ref l,.ref m]) Q E s:=by
 refine callType_new F.called_zip (by decide) (F.typeCall_zip_2 _ _) (F.newCall_zip_2 _ _) (fun ob=>F.args_object_init_3 ob _ _) F.entry_zip_new (qT b c l m xs ys) ⟨h1,h2,?_⟩;have y1:(zp1 s.heap b l).objs.size=s.heap.objs.size+1:=R4 ..;have y2:(zp2 s.heap b c l m).objs.size=s.heap.objs.size+2:=by rw[R4,y1]
 have y3:(zp3 s.heap b c l m).objs.size=s.heap.objs.size+3:=by rw[R4,y2]
 have y4:(zp4 s.heap b c l m).objs.size=s.heap.objs.size+4:=by rw[R4,y3]
 have y5:(zp5 s.heap b c l m).objs.size=s.heap.objs.size+5:=by rw[R4,y4]
 have f5:(zp5 s.heap b c l m).get? (zp4 s.heap b c l m).objs.size=some _:=J3 _ rfl;have f4:(zp5 s.heap b c l m).get? (zp3 s.heap b c l m).objs.size=some _:=F0 _ (J3 _ rfl);have f3:(zp5 s.heap b c l m).get? (zp2 s.heap b c l m).objs.size=some _:=F0 _ (F0 _ (J3 _ rfl));have f2:(zp5 s.heap b c l m).get? (zp1 s.heap b l).objs.size=some _:=F0 _ (F0 _ (F0 _ (J3 _ rfl)));have f1:(zp5 s.heap b c l m).get? s.heap.objs.size=some _:=F0 _ (F0 _ (F0 _ (F0 _ (J3 _ rfl))));show _/\_;rw[y2,y3,y4]at f5;rw[y1,y2]at f3;rw[y3]at f4;rw[y1]at f2;rw[y4];exact⟨⟨_,f5,rfl⟩,q _ f5 f3 f4 ⟨_,f1,rfl,rfl⟩ ⟨_,f2,rfl,rfl⟩ y5 fun d o p=>F0 _ (F0 _ (F0 _ (F0 _ (F0 _ p))))⟩
section
variable{X:Cx}{ae:List (J7×Obj)}{σ:St}{H:Hp}{s:F4}{h':K7}
theorem Inv.turnedF{t':Nat}{fp:List J7}(I:Inv X ae σ H s) (k:∀b o,b∉fp->s.heap.get? b=some o->h'.get? b=some o) (f:∀b∈fp,eh X ae H b):Inv X ae σ H { s with heap:=h',toks:=t' }:=by
 have nit:∀b u,H b=some u->b∉fp:=fun b u q z=>by rw[(f b z).1]at q;cases q
 refine I.step (g':=s.gens) (d':=s.drawn) (ch:=fp) (fun b hb=>?_) (fun b o _ _ hc q _=>k b o hc q) (fun b o _ _ hc q _=>⟨o.slots,k b o hc q⟩) (fun _ _ _ _ n=>n)
  (fun b o hc q=>⟨o,k b o hc q⟩) (fun _ _ q=>q) (fun _ _ _ q=>q) (fun b ps q=>⟨#[],by rw[q];simp⟩) (fun m hm=>?_) (fun b u q=>?_) I.bare
 ·obtain⟨b0,b1,b2,b3,b4,b5⟩:=f b hb;exact⟨b3,b1,b4,b5⟩
 ·obtain⟨o,es,ep,ho,r⟩:=hm;exact⟨o,es,ep,k _ o (fun z=>(f _ z).2.1 rfl) ho,r⟩
 ·refine(I.hok b u q).stay (fun c v hc q'=>?_) (fun _ q=>q) fun _ _ q=>q;rcases hc with z|z
  ·rw[z]at q' ⊢;exact k _ _ (nit b u q) q'
  ·exact k c v (nit c _ z) q'
end
def SqB(b:Bool) (K:F2) (H:Hp) (a:J7) (xs:List V):Prop:=match b with
 |true=>SqT K H a xs
 |false=>SqL K H a xs
theorem Inv.sqB{X:Cx}{ae:List (J7×Obj)}{σ:St}{H:Hp}{s:F4}{b:Bool}{a:J7}{xs:List V}(I:Inv X ae σ H s) (h:SqB b X.K H a xs):∃its:List F3,ay xs its/\eV b s.heap a its.toArray:=by
 cases b with
 |true=>obtain⟨its,r,p,_⟩:=I.tuple h;exact⟨its,r,p⟩
 |false=>obtain⟨its,r,p,_⟩:=I.list h;exact⟨its,r,p.isList⟩
theorem Inv.sqB_inj{X:Cx}{ae:List (J7×Obj)}{σ:St}{H:Hp}{s:F4}{b:Bool}{a:J7}{xs ys:List V}(I:Inv X ae σ H s) (h:SqB b X.K H a xs) (h':SqB b X.K H a ys):xs=ys:=by
 cases b with
 |true=>exact I.tuple_inj h h'
 |false=>exact I.list_inj h h'
def Itz(K:F2) (b c:Bool) (l m:J7) (n:Nat):It :=
  ⟨fun i H=>(∃xs ys,SqB b K H l xs/\SqB c K H m ys/\min xs.length ys.length=n)/\i<n,
   fun i H x H'=>∃T u v,x=.ref T/\H T=none/\H'=upd H T (.tup [u,v])/\(∀xs,SqB b K H l xs->xs[i]?=some u)/\∀ys,SqB c K H m ys->ys[i]?=some v,
   fun i H=>(∃xs ys,SqB b K H l xs/\SqB c K H m ys/\min xs.length ys.length=n)/\n<=i⟩
theorem vi{P:L1}{w:P9}{K:F2}{elts:List M9}{x1:Nat}{pt:Pos}(b c:Bool) (l m z T U i1 i2:J7) (n:Nat):mF P w K (.Tuple elts x1 pt) (Itz K b c l m n) [z,T,U,i1,i2] z
  (fun i h=>an8 h z T U .none/\ag0 h T (.ref i1) (.ref i2)/\(∃u v,ag0 h U u v)/\dW b h i1 l i/\dW c h i2 m i/\ao5 z T U i1 i2 l m/\i<=n) where
 mem:=by simp
 obj:=fun i h st d hd=>by
  obtain⟨a1,a2,⟨u,v,a3⟩,⟨o4,a4,_,d4⟩,⟨o5,a5,_,d5⟩,_⟩:=st;simp only[J9,L4,or_false]at hd;rcases hd with rfl|rfl|rfl|rfl|rfl
  ·exact⟨_,a1,fun v y=>by cases y⟩
  ·exact⟨_,a2,fun v y=>by cases y⟩
  ·exact⟨_,a3,fun v y=>by cases y⟩
  ·exact⟨o4,a4,fun v y=>by rw[d4]at y;cases y⟩
  ·exact⟨o5,a5,fun v y=>by rw[d5]at y;cases y⟩
 keep:=fun i h h' st k=>by
  obtain⟨a1,a2,⟨u,v,a3⟩,a4,a5,a6,a7⟩:=st;exact⟨k z (by simp) _ a1,k T (by simp) _ a2,⟨u,v,k U (by simp) _ a3⟩,a4.go fun o e=>k i1 (by simp) o e,a5.go fun o e=>k i2 (by simp) o e,a6,a7⟩
 item:=by
  intro X hP hw hK hc i ae s σ H E I hf st hg;subst hP hw hK;obtain⟨⟨xs,ys,hq,hq2,hmin⟩,hin⟩:=hg;obtain⟨a1,a2,⟨u0,v0,a3⟩,a4,a5,D,le⟩:=st;obtain⟨its,rv,p⟩:=I.sqB hq;obtain⟨its2,rv2,p2⟩:=I.sqB hq2;have l1:=rv.length;have l2:=rv2.length;have hx:xs[i]?=some (xs[i]'(by lia)):=by simp
  have hy:ys[i]?=some (ys[i]'(by lia)):=by simp
  generalize xs[i]'(by lia)=x at hx;generalize ys[i]'(by lia)=y at hy;obtain⟨u,hu,ru⟩:=rv.get hx;obtain⟨v,hv,rv3⟩:=rv2.get hy;refine og D a1 a2 a3 a4 a5 p p2 (by simpa using hu) (by simpa using hv) fun h1 b1 b2 b3 b4 b5 b6 kp=>?_;refine⟨_,rfl,?_⟩;have In:H s.heap.objs.size=none:=I.hok.fresh (F9 _);have lt:∀{d o},s.heap.get? d=some o->d≠s.heap.objs.size:=fun e=>K0 (J4 e);have n1:=lt a1;have n2:=lt a2;have n3:=lt a3;have n4:i1≠s.heap.objs.size:=by obtain⟨o,e,_⟩:=a4;exact lt e
  have n5:i2≠s.heap.objs.size:=by obtain⟨o,e,_⟩:=a5;exact lt e
  have ne:∀d∈[z,T,U,i1,i2],d≠s.heap.objs.size:=fun d hd=>by
   simp only[J9,L4,or_false]at hd;rcases hd with rfl|rfl|rfl|rfl|rfl<;>assumption
  have I1:Inv X ae σ (upd H s.heap.objs.size (.tup [x,y])) { s with heap:=s.heap.push { cls:=.type "tuple",data:=.seq #[u,v] },toks:=s.toks } :=
   I.laid (fun b o q=>F0 _ q) (F9 _) ⟨by simp only[P2,ab6];rw[ae2];decide,[u,v],.cons ru (.cons rv3 .nil),jd.new _ _⟩
  have f1:∀d∈[z,T,U,i1,i2],eh X ae (upd H s.heap.objs.size (.tup [x,y])) d:=fun d hd=>(hf d hd).upd (ne d hd);have I2:Inv X ae σ (upd H s.heap.objs.size (.tup [x,y])) { s with heap:=h1,toks:=s.toks }:=I1.turnedF (t':=s.toks) (fun d o hd q=>by
   simp only[J9,L4,or_false,not_or]at hd
   by_cases hs:d=s.heap.objs.size
   ·subst hs;rw[J3 s.heap rfl]at q;cases q;exact b5
   ·refine kp d o hd.1 hd.2.2.1 hd.2.2.2.1 hd.2.2.2.2 ?_;rcases K7.get?_push_cases q with y|y
    ·exact absurd y.1 hs
    ·exact y) f1
  refine wpAny_letOwnedTupleGo_zip b1 fun h2 c1 c2=>?_;have I3:=I2.turnedF (t':=s.toks) (h':=h2) (fp:=[z,T,U,i1,i2]) (fun d o hd q=>(c2.2 d (fun e=>hd (by simp[e]))).trans q) f1;refine⟨.ref s.heap.objs.size,_,I3,rfl,⟨_,x,y,rfl,In,rfl,fun zs hzs=>by rw[I.sqB_inj hzs hq];exact hx,fun zs hzs=>by rw[I.sqB_inj hzs hq2];exact hy⟩,⟨c1,?_,⟨u,v,(c2.2 U D.TOz).trans b2⟩,b3.go fun o e=>(c2.2 i1 D.i1z).trans e,b4.go fun o e=>(c2.2 i2 D.i2z).trans e,D,hin⟩,fun d hd=>(f1 d hd).1⟩;exact(c2.2 T D.TIz).trans (kp T _ D.TIz D.TITO D.TIi1 D.TIi2 a2)
 done:=by
  intro X hP hw hK hc i ae s σ H E I hf st hg;subst hP hw hK;obtain⟨⟨xs,ys,hq,hq2,hmin⟩,hin⟩:=hg;obtain⟨a1,a2,⟨u0,v0,a3⟩,a4,a5,D,le⟩:=st;obtain⟨its,rv,p⟩:=I.sqB hq;obtain⟨its2,rv2,p2⟩:=I.sqB hq2;have l1:=rv.length;have l2:=rv2.length;refine pL (I.ok.hd hc) D a1 a2 a3 a4 a5 p p2 ?_ fun h' kp=>⟨rfl,I.turnedF (t':=s.toks) (fp:=[z,T,U,i1,i2]) (fun d o hd q=>?_) hf⟩
  ·rcases Nat.le_total xs.length ys.length with h|h
   ·left;simp;lia
   ·right;simp;lia
  ·simp only[J9,L4,or_false,not_or]at hd;exact kp d o hd.1 hd.2.2.1 hd.2.2.2.1 hd.2.2.2.2 q
 self:=fun _ _ _ _ _ st h=>wpAny_pyIter_zip st.1 h
noncomputable def uX:D->Option (Bool×List D)
 |.tup es=>some (true,es)
 |.lst es=>some (false,es)
 |_=>none
noncomputable def gM:List D->List D->List D
 |a::as,b::bs=>.tup [a,b]::gM as bs
 |_,_=>[]
theorem qf:∀(as bs:List D) (i:Nat),(gM as bs)[i]?=match as[i]?,bs[i]? with|some a,some b=>some (.tup [a,b])|_,_=>none
 |[],bs,i=>by simp[gM]
 |a::as,[],i=>by
  simp only[gM,List.getElem?_nil];cases(a::as)[i]?<;>rfl
 |a::as,b::bs,0=>by simp[gM]
 |a::as,b::bs,i+1=>by simp only[gM,U4];exact qf as bs i
theorem pZ:∀(as bs:List D),(gM as bs).length=min as.length bs.length
 |[],bs=>by simp[gM]
 |a::as,[]=>by simp[gM]
 |a::as,b::bs=>by simp only[gM,P2,pZ as bs];lia
def An(ta:TAd):TId:=fun Δ M R=>ta Δ M fun ds M1=>∃x y b c es fs,ds=[x,y]/\uX x=some (b,es)/\uX y=some (c,fs)/\R (gM es fs) M1
theorem wg:W4 "zip"=some (.type "zip"):=by kernel_rfl
theorem qL{K:F2}{M:DH}{H:Hp}{x:D}{b:Bool}{es:List D}{v:V}(h:uX x=some (b,es)) (r:Rep K M H x v):∃a vs,v=.ref a/\ao K M H es vs/\SqB b K H a vs/\∀M' H',Ext M H M' H'->SqB b K H' a vs/\ao K M' H' es vs:=by
 cases x with
 |tup ds =>
  cases h;simp only[Rep]at r;obtain⟨a,vs,rfl,t,rl⟩:=r;exact⟨a,vs,rfl,rl,t.sq,fun M' H' e=>⟨(t.ext e).sq,rl.ext e⟩⟩
 |lst ds =>
  cases h;simp only[Rep]at r;obtain⟨a,vs,rfl,t,rl⟩:=r;exact⟨a,vs,rfl,rl,SqL.of t.1,fun M' H' e=>⟨SqL.of (t.ext e).1,rl.ext e⟩⟩
 |_=>cases h
section
variable{X:Cx}{a1 a2:M9}{t:TAd}{pos:Pos}
theorem vJ{elts:List M9}{x1:Nat}{pt p:Pos}(hg:Gl X "zip") (hm:X.mg "zip"=none) (ha:QAd X [a1,a2] t) (hs:K4 [a1,a2] X.env=(false,ad3 a1 X.env)::K4 [a2] X.env:=by rfl) (hpl:(V7 pos (K4 [a2] X.env)).any (·.1)=false:=by rfl):QId X (.Tuple elts x1 pt) (.Call (.Name "zip" p) [a1,a2] [] pos) (An t):=by
 simp only[QAd.eq,QId.eq]at *
 intro ae s σ H R I hh;obtain⟨Δ,M,R',sr,hr,q,k⟩:=hh;refine Call_ (iF I hg hm wg (W9 (thn (ha pos ae s σ H (fun vs H1=>∃x y b c es fs M1,uX x=some (b,es)/\uX y=some (c,fs)/\ao X.K M1 H1 [x,y] vs/\R' (gM es fs) M1/\Ext M H M1 H1/\HR X.K M1 H1) I ⟨Δ,M,_,sr,hr,q,fun ds M1 vs H1 ⟨x,y,b,c,es,fs,ed,ex,ey,q1⟩ e1 hr1 rv=>⟨x,y,b,c,es,fs,M1,ex,ey,by rw[<-ed];exact rv,q1,e1,hr1⟩⟩) fun us s1 ⟨vs,H1,I1,r1,x,y,b,c,es,fs,M1,ex,ey,rv,q1,e1,hr1⟩=>?_) hs hpl));obtain⟨v1,v2,rfl,rx,ry⟩:∃v1 v2,vs=[v1,v2]/\Rep X.K M1 H1 x v1/\Rep X.K M1 H1 y v2:=by
  simp only[ao]at rv;obtain⟨v1,ws,rfl,h1,v2,ws2,rfl,h2,rfl⟩:=rv;exact⟨v1,v2,rfl,h1,h2⟩
 obtain⟨l,vs,rfl,rl,sl,kl⟩:=qL ex rx;obtain⟨m,ws,rfl,rm,sm,km⟩:=qL ey ry;obtain⟨u1,u2,rfl,w1,w2⟩:∃u1 u2,us=[u1,u2]/\aN (.ref l) u1/\aN (.ref m) u2:=by
  cases r1 with
  |cons p1 r1 =>
   cases r1 with
   |cons p2 r1 =>
    cases r1;exact⟨_,_,rfl,p1,p2⟩
 cases w1;cases w2;obtain⟨its,rvv,pl⟩:=I1.sqB sl;obtain⟨its2,rvv2,pm⟩:=I1.sqB sm;have ll:l<s1.heap.objs.size:=by obtain⟨o,e,_⟩:=pl;exact J4 e
 have lm:m<s1.heap.objs.size:=by obtain⟨o,e,_⟩:=pm;exact J4 e
 refine uU pl pm fun h' c1 c2 c3 c4 c5 c6 kp=>?_;refine wpAny_pyIter_zip c1 ?_;have DA:ao5 (s1.heap.objs.size+4) (s1.heap.objs.size+2) (s1.heap.objs.size+3) s1.heap.objs.size (s1.heap.objs.size+1) l m:=zipApart_new ll lm;refine⟨_,[_,_,_,_,_],_,_,H1,rfl,I1.kept (t':=s1.toks) kp,vi b c l m _ _ _ _ _ (min es.length fs.length),⟨c1,c2,⟨_,_,c3⟩,c4,c5,DA,P6 _⟩,fun d hd=>?_,?_⟩
 ·have hle:s1.heap.objs.size<=d:=by
   simp only[J9,L4,or_false]at hd;rcases hd with rfl|rfl|rfl|rfl|rfl
   ·exact aj5 _ _
   ·exact aj5 _ _
   ·exact aj5 _ _
   ·exact F9 _
   ·exact aj5 _ _
  exact I1.fpOk hle (I1.hok.fresh hle)
 ·have h1:=rl.length;have h2:=rm.length;refine k _ M1 _ H1 q1 e1 hr1 fun M2 H2 e2 hr2 i=>⟨fun d hd=>?_,fun hl=>⟨⟨vs,ws,(kl _ _ e2).1,(km _ _ e2).1,by lia⟩,by rw[pZ]at hl;exact hl⟩⟩;rw[qf]at hd;cases hda:es[i]? with
  |none=>rw[hda]at hd;cases hd
  |some d1 =>
   cases hdb:fs[i]? with
   |none=>rw[hda,hdb]at hd;cases hd
   |some d2 =>
    rw[hda,hdb]at hd;have hd':D.tup [d1,d2]=d:=by simpa using hd
    subst hd';have hi:i<es.length:=(F8.mp hda).1;have hi2:i<fs.length:=(F8.mp hdb).1;obtain⟨g1,gv,g2⟩:=(kl _ _ e2).2.get hda;obtain⟨g3,gw,g4⟩:=(km _ _ e2).2.get hdb;refine⟨⟨⟨vs,ws,(kl _ _ e2).1,(km _ _ e2).1,by lia⟩,by lia⟩,fun x' H' ⟨T,u,v,ex',hT,eH,hy1,hy2⟩=>?_⟩;subst ex';subst eH;have z1:=hy1 vs (kl _ _ e2).1;have z2:=hy2 ws (km _ _ e2).1;rw[gv]at z1;cases z1;rw[gw]at z2;cases z2;refine⟨Ext.new hr2 hT,hr2.new hT,?_⟩;simp only[Rep];refine⟨T,[g1,g3],rfl,.inl ⟨.inl bg,hr2.fresh hT⟩,?_⟩;exact ao.cons (g2.ext (Ext.new hr2 hT)) (ao.cons (g4.ext (Ext.new hr2 hT)) ao.nil)
end
section
variable{X:Cx}{scope:aa1}{cl:List (Str×J7)}{ai:List Str}{tg:M9}{pos:Pos}
end
section
variable{K:F2}{M:DH}{H:Hp}
theorem wL{κ:Type}:∀{ks:List κ}{ds:List D}{vs:List V},ks.length=vs.length->ao K M H ds vs->KR K M H (ks.zip ds) (ks.zip vs)
 |[],_,_,_,_=>by simp only[List.zip_nil_left];exact .nil
 |k::ks,ds,vs,hl,h=>by
  cases vs with
  |nil=>cases hl
  |cons v vs =>
   cases ds with
   |nil=>have:=h.length;cases this
   |cons d ds =>
    simp only[ao]at h;obtain⟨_,_,e,h1,h2⟩:=h;cases e;exact .cons ⟨rfl,h1⟩ (wL (Nat.succ.inj hl) h2)
noncomputable def asK(M:DH):D->Option (List (Key×D))
 |.ref a=>match M a with|some (.dK kvs)=>some kvs|_=>none
 |.box (.dk ks) ds=>some (ks.zip ds)
 |_=>none
theorem zm{x:D}{v:V}{kvs:List (Key×D)}(hr:HR K M H) (h:Rep K M H x v) (e:asK M x=some kvs):∃a ks,v=.ref a/\Rd H a (.dK ks)/\KR K M H kvs ks:=by
 cases x with
 |ref a =>
  simp only[asK]at e;simp only[Rep]at h
  split at e
  ·rename_i q;cases e;obtain⟨ks,h1,kr⟩:=hr a _ q;exact⟨a,ks,h,.inl h1,kr⟩
  ·cases e
 |box t ds =>
  cases t with
  |dk ks =>
   cases e;simp only[Rep,lI]at h;obtain⟨a,vs,e,⟨hl,⟨o,r⟩,_⟩,h2⟩:=h;exact⟨a,_,e,.inr ⟨o,r⟩,wL hl h2⟩
  |_=>cases e
 |_=>cases e
theorem zS{ks:List Key}{ds:List D}:asK M (.box (.dk ks) ds)=some (ks.zip ds):=rfl
end
section
variable{X:Cx}{e i o:M9}{es:List M9}{te ti to:TEd}{t:TAd}{pos:Pos}
def Ak(to ti:TEd):TEd:=fun Δ M Q=>to Δ M fun x M1=>ti Δ M1 fun y M2=>∃kvs k d,asK M2 x=some kvs/\y=kD k/\eQ kvs k=some d/\Q d M2
end
section
variable{X:Cx}{e:M9}{te:TEd}
def Dy(t:TE):TE:=fun σ H Q=>t σ H fun x H1=>∃a ks,x=.ref a/\H1 a=some (.dK ks)/\∀o,Q x (upd H1 a (.frz o (.dK ks)))
theorem yT{t:TE}(h:PE X e t):PE X e (Dy t):=by
 intro ae s σ H Q I q;refine thn (h ae s σ H _ I q) fun v s1 ⟨x,H1,I1,r,a,ks,ex,ea,q1⟩=>?_;obtain⟨o,_,I2⟩:=I1.freeze ea;exact⟨x,_,I2,r,q1 o⟩
theorem il{κ β:Type}:∀l:List (κ×β),(l.map (·.1)).zip (l.map (·.2))=l
 |[]=>rfl
 |p::l=>by rw[J8,J8,ad9,il l]
theorem tH{K:F2}{M:DH}{H:Hp}{κ:Type}{kvs:List (κ×D)}{ks:List (κ×V)}(h:KR K M H kvs ks):ao K M H (kvs.map (·.2)) (ks.map (·.2)):=by
 unfold KR at h
 induction h with
 |nil=>exact ao.nil
 |cons r _ ih=>exact ao.cons r.2 ih
def dO(kvs:List (Key×D)):D:=.box (.dk (kvs.map (·.1))) (kvs.map (·.2))
theorem eS{M:DH}{kvs:List (Key×D)}:asK M (dO kvs)=some kvs:=by unfold dO;rw[zS,il]
theorem hJ{M1:DH}{H1:Hp}{a:J7}{u:HD}{o:HO}(em:M1 a=some u):Ext M1 H1 (iq M1 a) (upd H1 a o):=fun b w z n=>by
 have hb:b≠a:=fun w=>by rw[w,em]at n;cases n
 rw[aZ hb,tM hb];exact⟨z,n⟩
theorem v7{K:F2}{M1:DH}{H1:Hp}{a:J7}{u:HD}{o:HO}(hr:HR K M1 H1) (em:M1 a=some u):HR K (iq M1 a) (upd H1 a o):=fun b w z=>by
 have hb:b≠a:=fun w=>by rw[w,fK]at z;cases z
 rw[tM hb]at z;exact(hr b w z).keep (hJ em) (aZ hb)
def xS(te:TEd):TEd:=fun Δ M Q=>te Δ M fun d M1=>∃a kvs,d=.ref a/\M1 a=some (.dK kvs)/\Q (dO kvs) (iq M1 a)
theorem Bo(h:PEd X e te):PEd X e (xS te) :=
 PE.conv (yT h) fun σ H Q hup=>hup.el fun Δ M R sr hr q k=>⟨Δ,M,_,sr,hr,q,fun d M1 v H1 ⟨a,kvs,ed,em,q1⟩ e1 hr1 rv=>by
  subst ed;simp only[Rep]at rv;subst rv;obtain⟨ks,h1,kr⟩:=hr1 a _ em;refine⟨a,ks,rfl,h1,fun o=>k _ _ _ _ q1 (e1.trans (hJ em)) (v7 hr1 em) ?_⟩;simp only[dO,Rep,lI];refine⟨a,ks.map (·.2),rfl,⟨by rw[F1,F1];exact kr.length,⟨o,?_⟩,fK⟩,(tH kr).ext (hJ em)⟩;rw[bg,kr.keys,il]⟩
end
def AU(ms:List Bool) (k:Nat) (w0:TId) (g0:GD) (tc0:TTd) (w1:TId) (g1:GD) (tc1:TTd) (w2:TId) (g2:GD) (tc2:TTd) (te:TEd):TEd:=yn ms k w0 g0 tc0 (iX w1 g1 tc1 (iX w2 g2 tc2 (k6 te)))
section
variable{X:Cx}{e i o l:M9}{es:List M9}{te ti to:TEd}{t:TAd}{pos p pos' dX bJ:Pos}{f x:Str}{C:J7}{elts:List M9}{x1:Nat}{pt:Pos}
theorem iQ(hu:X.A.units+1<ai7) (ho:QEd X o to) (hi:QEd X i ti) (hs:yI i):QEd X (.Subscript o i pos) (Ak to ti):=by
 simp only[QEd.eq]at *
 exact PE.conv (sQ hu ho hi hs) fun σ H Q hup=>hup.el fun Δ M R sr hr q k=>⟨Δ,M,_,sr,hr,q,fun x M1 v H1 q1 e1 hr1 rv=>⟨Δ,M1,_,sr.ext e1,hr1,q1,fun y M2 u H2 ⟨kvs,ky,d,ea,ey,ed,q2⟩ e2 hr2 ru=>by
   subst ey;obtain⟨a,ks,rfl,h2,kr⟩:=zm hr2 (rv.ext e2) ea;obtain⟨w,hw,rw_⟩:=(kr.val ky).1 d ed;exact⟨a,w,rfl,.inl ⟨ks,ky,h2,ox ru,hw.symm⟩,k d M2 w H2 q2 (e1.trans e2) hr2 rw_⟩⟩⟩
end
section
variable{X:Cx}{a b c e o i:M9}{es:List M9}{te ta tb to ti:TEd}{t:TAd}{pos:Pos}{tg iter:M9}
end
def C2:D->Option D
 |.box (.dk ks) _=>some (.lst (ks.map kD))
 |_=>none
theorem zP{kvs:List (Key×D)}:C2 (dO kvs)=some (.lst (kvs.map fun p=>kD p.1)):=by
 show some (D.lst ((kvs.map (·.1)).map kD))=_;rw[N0];rfl
noncomputable def E8:D->Option D
 |.int i=>some (.int i)
 |.bl k=>some (.int (if k then 1 else 0))
 |_=>none
theorem BF{k:Bool}:E8 (.bl k)=some (.int (if k then 1 else 0)):=rfl
noncomputable def ltS(a b:Str):Bool:=decide (a.cps.toList<b.cps.toList)
def leS(a b:Str):Bool:=!ltS b a
theorem vH{a b:Str}(h:a.cps.toList=b.cps.toList):a=b:=by
 cases a;cases b;simp only[Str.mk.injEq];exact Array.toList_inj.mp h
theorem sF(a:Str):ltS a a=false:=decide_eq_false (List.lt_irrefl _)
theorem jN{a b c:Str}(h1:ltS a b=true) (h2:ltS b c=true):ltS a c=true:=decide_eq_true (List.lt_trans (of_decide_eq_true h1) (of_decide_eq_true h2))
theorem oi{a b:Str}(h1:ltS a b=false) (h2:ltS b a=false):a=b :=
 vH (List.le_antisymm (List.not_lt.mp (of_decide_eq_false h2)) (List.not_lt.mp (of_decide_eq_false h1)))
theorem tD{a b c:Str}(h:ltS a c=true):ltS a b=true∨ltS b c=true:=by
 cases h1:ltS a b with
 |true=>exact .inl rfl
 |false =>
  refine .inr ?_;cases h2:ltS b a with
  |true=>exact jN h2 h
  |false=>rw[<-oi h1 h2];exact h
def Er:Z5 where
 α:=Str
 blt:=ltS
 irrefl:=sF
 trans _ _ _:=jN
 negTrans _ _ _:=tD
 total _ _:=oi
theorem vT{a b:Str}(h1:leS a b=true) (h2:leS b a=true):a=b:=oi (by simpa[leS]using h2) (by simpa[leS]using h1)
def cO(ps:List Str):List Str:=ps.mergeSort leS
theorem iO(ps:List Str):(cO ps).Perm ps:=ac7 _ _
theorem qo(ps:List Str):(cO ps).Pairwise fun a b=>leS a b=true :=
 List.pairwise_mergeSort (fun a b c h1 h2=>by
  simp only[leS,ai2]at *
  cases h:ltS c a with
  |false=>rfl
  |true =>
   rcases tD (b:=b) h with z|z
   ·rw[h2]at z;cases z
   ·rw[h1]at z;cases z) (fun a b=>by
  cases h:leS a b with
  |true=>rfl
  |false =>
   have h':ltS b a=true:=by simpa[leS]using h
   cases h2:ltS a b with
   |false=>simp[leS,h2]
   |true=>have:=jN h' h2;rw[sF]at this;cases this) ps
theorem pO{ps qs:List Str}(h:qs.Perm ps) (hs:qs.Pairwise fun a b=>leS a b=true):qs=cO ps :=
 al4.eq_of_pairwise (le:=fun a b=>leS a b=true) (fun a b _ _ h1 h2=>vT h1 h2) hs (qo ps) (h.trans (iO ps).symm)
section
variable{X:Cx}{ae:List (J7×Obj)}{s:F4}{σ:St}{H:Hp}{M:DH}
theorem rM(ns:List Str):(R8 ns.length).map (fun i=>ns.getD i ac6)=ns:=by
 apply aj3 (by simp);intro i h1 h2;simp[u8 h2]
theorem A9{K:F2}{ns:List Str}{vs:List V}{us:List F3}(rl:ao K M H (ns.map D.str) vs) (rv:ay vs us) {i:Nat}(hi:i<ns.length):∃t,us[i]?=some (.str ns[i] t):=by
 obtain⟨v,g,r⟩:=rl.get (i:=i) (d:=D.str ns[i]) (by simp[hi]);obtain⟨u,g',r'⟩:=rv.get g;simp only[Rep]at r;subst r;obtain⟨t,rfl⟩:=r';exact⟨t,g'⟩
end
section
variable{X:Cx}
end
section
variable{X:Cx}{e:M9}{t:TEd}
end
section
variable{P:L1}{w:P9}{K:F2}{h base:K7}{mg:Str->Option F3}{x qual:Str}{st:ac2}{f:J7}{fd:L8}{k:Nat}{S:SpD}
structure bR(K:F2) (x:Str) (st:ac2) (f:J7) (fd:L8):Prop where
 a:O5 K L3 x=some (some (.ref f))
 F:Fun K x x st f fd
theorem CM{oc:F3}{od an:Option J7}{osl:Array (Option F3)}{kV doc pm cdv ct:F3}(a:O5 K L3 x=some (some (.ref f))) (l:K.lookup f=some ⟨oc,od,.func (ac3 x x (fR st) (dG st) (aj st) .none kV doc pm an cdv ct),osl⟩)
  (c:al0 K cdv x=true) (k:af8 K (.ref f)=true):bR K x st f (ac3 x x (fR st) (dG st) (aj st) .none kV doc pm an cdv ct):=⟨a,vy l c k⟩
theorem usS{p:List F3->Prop}{n:Nat}(h:∀a us,us.length=n->p (a::us)):∀us:List F3,us.length=n+1->p us:=by
 intro us e;cases us with
 |nil=>cases e
 |cons a us=>exact h a us (Nat.succ.inj e)
theorem us0{p:List F3->Prop}(h:p []):∀us:List F3,us.length=0->p us:=by
 intro us e;cases us with
 |nil=>exact h
 |cons a us=>cases e
def Bd(x qual:Str) (st:ac2) (ps:List Str) (us:List F3):Prop:=∀(kV doc pm:F3) (an:Option J7) (cdv ct:F3),bindArgs (ac3 x qual (fR st) (dG st) (aj st) .none kV doc pm an cdv ct) ⟨us,[]⟩=ad0 (ps.zip us)
theorem qy{ps:List Str}(F:Fun K x qual st f fd) (b:∀us:List F3,us.length=ps.length->Bd x qual st ps us):fb K fd ps []:=F.binds fun kV doc pm an cdv ct us hl=>b us hl kV doc pm an cdv ct
variable{p1 p2 p3 p4 p5:Str}
theorem bd1(F:Fun K x qual st f fd) (b:∀a,Bd x qual st [p1] [a]):fb K fd [p1] []:=qy F (usS fun a=>us0 (b a))
theorem bd2(F:Fun K x qual st f fd) (b:∀a c,Bd x qual st [p1,p2] [a,c]):fb K fd [p1,p2] []:=qy F (usS fun a=>usS fun c=>us0 (b a c))
theorem bd3(F:Fun K x qual st f fd) (b:∀a c d,Bd x qual st [p1,p2,p3] [a,c,d]):fb K fd [p1,p2,p3] []:=qy F (usS fun a=>usS fun c=>usS fun d=>us0 (b a c d))
theorem bd4(F:Fun K x qual st f fd) (b:∀a c d e,Bd x qual st [p1,p2,p3,p4] [a,c,d,e]):fb K fd [p1,p2,p3,p4] []:=qy F (usS fun a=>usS fun c=>usS fun d=>usS fun e=>us0 (b a c d e))
theorem bd5(F:Fun K x qual st f fd) (b:∀a c d e g,Bd x qual st [p1,p2,p3,p4,p5] [a,c,d,e,g]):fb K fd [p1,p2,p3,p4,p5] []:=qy F (usS fun a=>usS fun c=>usS fun d=>usS fun e=>usS fun g=>us0 (b a c d e g))
theorem fg{ps:List Str}{n:Nat}(X:K.In h) (G:h.Ns L3 mg) (i:bR K x st f fd) (o:bA P w K mg base CX0 k f fd ps (spD K n S)) (b:fb K fd ps []):FnD P w K mg base x k n S:=⟨_,_,_,o,Z1 X G i.a,i.F.kp,b⟩
theorem BL{fa:J7}{sp:Sp}{lp:L1}(X:K.In h) (G:h.Ns L3 mg) (hfa:mg "law"=some (.ref fa)) (i:bR K "law" st f fd) (b:∀a,Bd "law" "law" st [p1] [a]) (o:∀base:K7,bA lp w K mg base CX0 k f fd [p1] sp) :
  ∃fd:L8,(∀(s:F4) (v:F3),ao6 s fd ⟨[v],[]⟩ [(p1,v)])/\∀base:K7,K.In base->base.Ns L3 mg->bA lp w K mg base CX0 k fa fd [p1] sp:=by
 have e:=hfa.symm.trans (Z1 X G i.a);cases e;refine⟨fd,fun s v=>?_,fun base _ _=>o base⟩;obtain⟨oc,od,kV,doc,pm,an,cdv,ct,osl,rfl,lk,hcd⟩:=i.F.ex;exact .of_eq (b v kV doc pm an cdv ct)
end
theorem mT:typeLookup (.type "tuple") "keys"=ad0 none:=by rw[typeLookup_type,builtinLookup_eq_fast];kernel_rfl
theorem nS:entryFor table "dict.update.loop"=some K6.«dict.update.loop»:=entryFor_of_tree (by kernel_rfl)
theorem gX:plainId "dict.update.loop"=true:=by decide +kernel
section
variable{prog:L1}{w:P9}{A:O0}{E:F3->F4->Prop}{s:F4}
theorem uo{a:J7}{o:Obj}{xs:Array F3}{k:Nat}{Q:Option F3->F4->Prop}(hx:s.heap.get? a=some o) (hc:o.cls=.type "tuple") (hdat:o.data=.seq xs k) (hd:o.dict=none) (hA:A.handled=none)
  (h:∀h' tk e,K7.NewExcOf s.heap h' e "AttributeError"->Q none { s with heap:=h',toks:=tk }):K2 (L5 prog w) A (getAttr? (.ref a) "keys") Q E s:=by
 obtain⟨c,dct,dat,sl⟩:=o;simp only at hc hdat hd;subst hc hdat hd;obtain⟨hp,g,d,tk,os⟩:=s;have hT:∀tk',(⟨hp,g,d,tk',os⟩:F4).TypeIs (.ref a) "tuple":=fun _=>⟨_,hx,rfl⟩;have f1:=sub_AttributeError;have f3:=F.slot_tuple_getattribute.lookup;have f4:=F.slot_tuple_getattribute.bind (.ref a);have f5:=am_tuple_getattr_none;unfold getAttr? getAttrBy? getAttrBy
 repeat (any_goals (first|assumption|exact hT _|((with_reducible show K2 _ _ (call (F3.builtin "tuple.__getattribute__") _ _) _ _ _);refine ag5 F.slot_tuple_getattribute (hT _) am_entry_tuple_getattribute (F.args_tuple_getattribute_2 _ _) (meets_getattribute_miss_tuple a xs k sl "keys" _ mT (by decide) (by decide)) ⟨hx,hA,fun h' tk' e hx'=>?_⟩)|wp_step))
 obtain⟨t',u',he⟩:=hx'.there;show K2 _ _ (getattributeRaised _ _ _ _ _ _ _) _ _ _;unfold getattributeRaised
 repeat (any_goals (first|assumption|wp_step))
 exact h _ _ _ hx'.of
theorem sA{b:J7}{x y:F3}{Q:List F3->F4->Prop}(ht:al6 s.heap b #[x,y]) (h:Q [x,y] s):K2 (L5 prog w) A (K6.Dict.pairItems (.ref b)) Q E s:=by
 obtain⟨o,h1,h2,n,h3⟩:=ht;unfold K6.Dict.pairItems;refine o0 (ag4 (T:="tuple") ⟨o,h1,h2⟩ ?_);rw[if_pos (by decide)];refine o0 (W6 h1 h3 ?_);exact F5 h
variable{K:Type} [DecidableEq K] {knd:KeyKind prog w K}{R:ao3->F4->Prop}{I:J7}{fp wr:List J7}{G:Array ao0->Array ao0->Prop}{n:Nat}{P:Nat->F3->Prop}{St:Nat->F4->Prop}
def lQ(knd:KeyKind prog w K) (h:K7) (b:J7) (kv:K×F3):Prop:=∃key,al6 h b #[key,kv.2]/\knd.is kv.1 key=true
theorem zp(W:WalksS prog w A.in1 I fp wr G n P St) (d:J7) (hdf:d∉fp) (kvs:List (K×F3)) (hn:kvs.length=n) (hz:n<=F7) (hnd:(kvs.map (·.1)).Nodup) (bs:Nat->J7)
  (hP:∀i v,P i v->v=.ref (bs i)) (hbs:∀i,i<n->bs i∉d::wr) :
  ∀(k i:Nat) (s:F4) (t:Tok),n-i=k->i<=n->St i s->s.heap.DictOf knd d (kvs.take i)->(∀j (kv:K×F3),kvs[j]?=some kv->lQ knd s.heap (bs j) kv) ->
   (∀s',Moved (d::wr) G s s'->s'.heap.DictOf knd d kvs->R (.ok (.ret .none)) s') ->
   ad5 (L5 prog w) A (.builtin "dict.update.loop" ⟨[.ref d,.ref I,.int i t,.none],[]⟩) R s:=by
 have hSw:d∉wr:=fun h=>hdf (W.sub _ h);have hsub:∀b∈wr,b∈d::wr:=fun b hb=>O7 _ hb;intro k
 induction k with
 |zero =>
  intro i s t hk hi hst hS hpa hR;have hin:i=n:=by lia
  subst hin;refine X3 nS ?_;rw[U7 gX _];show K2 _ A.in1 (ag2 (.ref I) >>= _) _ _ s;refine o0 (W.done s _ _ hst fun s' hm=>?_);show K2 _ A.in1 (K6.Dict.addKeywords d [] >>= _) _ _ s';refine o0 (F5 (F5 (hR s' (hm.mono hsub) ?_)));rw[S9 (by lia)]at hS;obtain⟨o,es,ep,ho,rest⟩:=hS;exact⟨o,es,ep,hm.heap d _ hSw ho,rest⟩
 |succ k ih =>
  intro i s t hk hi hst hS hpa hR;have hlt:i<n:=by lia
  refine X3 nS ?_;rw[U7 gX _];show K2 _ A.in1 (ag2 (.ref I) >>= _) _ _ s;refine o0 (W.item i s _ _ hlt hst fun v s' hPi hst' hm=>?_);obtain rfl:=hP i v hPi;have hS':s'.heap.DictOf knd d (kvs.take i):=by
   obtain⟨o,es,ep,ho,rest⟩:=hS;exact⟨o,es,ep,hm.heap d _ hSw ho,rest⟩
  have hpa':∀j (kv:K×F3),kvs[j]?=some kv->lQ knd s'.heap (bs j) kv:=fun j kv hj=>by
   obtain⟨key,⟨o,h1,h2,m,h3⟩,h4⟩:=hpa j kv hj;have hjn:j<n:=by have:=(F8.mp hj).1;lia
   exact⟨key,⟨o,hm.heap _ _ (fun z=>hbs j hjn (hsub _ z)) h1,h2,m,h3⟩,h4⟩
  have hi':i<kvs.length:=by lia
  obtain⟨key,ht,hkey⟩:=hpa' i kvs[i] (u8 hi');have hstored:stored (kvs.take i) kvs[i].1 kvs[i].2=kvs.take (i+1):=by
   have hno:¬ ((kvs.take i).any fun kv=>decide (kv.1=kvs[i].1))=true:=by
    rw[List.any_eq_true];rintro⟨x,hx,e⟩;have e':x.1=kvs[i].1:=by simpa using e
    obtain⟨j,hj,ej⟩:=W1.mp hx;rw[M0]at hj;rw[List.getElem_take]at ej;have hd2:=aa5.mp hnd j i (by rw[F1];lia) (by rw[F1];lia) (by lia);simp only[List.getElem_map]at hd2;exact hd2 (by rw[ej];exact e')
   rw[stored,if_neg hno,O6,u8 hi'];rfl
  show K2 _ A.in1 (ak9 [V4 (bs i)] _ >>= _) _ _ s';refine o0 (R5 (o0 (wpAny_tryCatch (sA ht ?_))));refine R5 (wpAny_dictSet_pairs (hsz:=by rw[M0];lia) hkey hS' fun h' hd' hs'=>?_);rw[hstored]at hd';refine F5 ⟨af4 gX _,ih (i+1) _ _ (by lia) hlt (W.frame _ s' _ _ hst' (ai1 _) fun b hb o e=>?_) hd' (fun j kv hj=>?_) fun s'' hm'' hS''=>?_⟩
  ·rw[hs'.2 b (fun h:b=d=>hdf (by rw[<-h];exact hb))];exact e
  ·obtain⟨key,⟨o,h1,h2,m,h3⟩,h4⟩:=hpa' j kv hj;have hjn:j<n:=by have:=(F8.mp hj).1;lia
   refine⟨key,⟨o,?_,h2,m,h3⟩,h4⟩;show h'.get? (bs j)=_;rw[hs'.2 _ (fun z=>hbs j hjn (by rw[z];exact Q8))];exact h1
  ·refine hR s'' (Moved.trans W.gtrans ((hm.mono hsub).then_heap (ai1 _) fun b o hb e=>?_) hm'') hS'';rw[hs'.2 b (fun h:b=d=>hb (by rw[h];exact Q8))];exact e
def rJ(its:Array F3) (i:Nat):J7:=match its[i]? with|some (.ref b)=>b|_=>0
theorem kH{l:J7}{its:Array F3}{kvs:List (K×F3)}{Q:F3->F4->Prop}(hh:A.handled=none) (hl:jd s.heap l its) (hn:kvs.length=its.size) (hz:its.size<=F7) (hnd:(kvs.map (·.1)).Nodup)
  (hit:∀(i:Nat) (kv:K×F3),kvs[i]?=some kv->∃b,its[i]?=some (V4 b)/\lQ knd s.heap b kv)
  (h:∀h' tk,h'.DictOf knd s.heap.objs.size kvs->(∀b o,s.heap.get? b=some o->h'.get? b=some o)->Q (.ref s.heap.objs.size) { s with heap:=h',toks:=tk }) :
  K2 (L5 prog w) A (call (.type "dict") [.ref l]) Q E s:=by
 refine callType_codes (Q₁:=fun(obj:F3) (s₁:F4)=>obj=V4 s.heap.objs.size/\s₁={ s with heap:=s.heap.push { cls:=.type "dict",data:=.dict #[] } }) F.kt_called_dict (F.kt_typeCall_dict_1 _) F.entry_dict_init (kt_code_dict_new _ ⟨rfl,rfl⟩) ?_;rintro obj s₁ ⟨rfl,rfl⟩;have hnew:(s.heap.push { cls:=.type "dict",data:=.dict #[] }).DictOf knd s.heap.objs.size []:=K7.DictOf.new s.heap;have hlt:l<s.heap.objs.size:=hl.lt;obtain⟨o,ho,hc,⟨m,hd⟩,hdict⟩:=hl;have ho':(s.heap.push { cls:=.type "dict",data:=.dict #[] }).get? l=some o:=F0 _ ho;refine⟨hnew.typeIs,F.args_dict_init_2 _ _,?_⟩;unfold K6.«dict.__init__»;refine o0 ?_;unfold K6.Dict.selfAndRest;refine o0 (wpAny_notOrdered_dict hnew.typeIs ?_);show K2 _ _ (ad0 (s.heap.objs.size,[V4 l])) _ _ _;refine F5 ?_;show K2 _ _ (K6.Dict.updateFrom "dict.__init__" s.heap.objs.size (.ref l) [] .none) _ _ _;unfold K6.Dict.updateFrom;refine o0 (ag4 (T:="tuple") ⟨o,ho',hc⟩ ?_);rw[if_pos (by decide)];have hh2:A.in1.in1.handled=none:=hh;refine o0 (uo ho' hc hd hdict hh2 fun h1 tk1 e1 hx=>?_);have ht1:h1.IsTuple l its:=⟨o,hx.keeps _ _ ho',hc,m,hd⟩;have hd1:h1.DictOf knd s.heap.objs.size []:=by
  obtain⟨q,es,ep,hq,rest⟩:=hnew;exact⟨q,es,ep,hx.keeps _ _ hq,rest⟩
 have hsz:s.heap.objs.size<h1.objs.size:=by
  obtain⟨q,es,ep,hq,rest⟩:=hd1;exact J4 hq
 have hold:∀b q,s.heap.get? b=some q->h1.get? b=some q:=fun b q e=>hx.keeps _ _ (F0 _ e);rw[if_pos (show(Option.isNone (none:Option F3))=true from rfl)];refine o0 (ab0 (o0 (Z4 ht1 ?_)));refine F5 ⟨af4 gX _,?_⟩;have hb:∀(i:Nat) (kv:K×F3),kvs[i]?=some kv->rJ its i<s.heap.objs.size/\lQ knd s.heap (rJ its i) kv:=fun i kv hi=>by
  obtain⟨b,e,q⟩:=hit i kv hi;have eb:rJ its i=b:=by unfold rJ;rw[e]
  rw[eb];obtain⟨key,⟨ob,g1,_⟩,_⟩:=id q;exact⟨J4 g1,q⟩
 have hget:∀i,i<its.size->∃kv,kvs[i]?=some kv:=fun i hi=>⟨kvs[i]'(by lia),u8 (by lia)⟩;refine zp (n:=its.size) ((ap4.tuple (A:=A.in1.in1) hh2 h1.objs.size l (K0 (ai8 hlt hsz)) its).toS) s.heap.objs.size (by
  simp only[J9,L4,or_false,not_or];exact⟨K0 hsz,W5 hlt⟩) kvs hn hz hnd (rJ its) (fun i v hi=>?_) (fun i hi=>?_) _ 0 _ 0 rfl (P6 _) ⟨⟨_,J3 _ rfl,rfl,rfl⟩,ht1.push _⟩ (hd1.push _) (fun j kv hj=>?_) fun s' hm hS'=>?_
 ·have hi':i<its.size:=(Array.getElem?_eq_some_iff.mp hi).1;obtain⟨kv,hkv⟩:=hget i hi';obtain⟨b,e,_⟩:=hit i kv hkv;have e':its[i]?=some v:=hi;rw[e]at e';have eb:rJ its i=b:=by unfold rJ;rw[e]
  rw[eb];exact(Q7 e').symm
 ·obtain⟨kv,hkv⟩:=hget i hi;have:=(hb i kv hkv).1;simp only[J9,L4,or_false,not_or];exact⟨K0 this,K0 (ai8 this hsz)⟩
 ·obtain⟨key,⟨ob,g1,g2,gm,g3⟩,g4⟩:=(hb j kv hj).2;exact⟨key,⟨ob,F0 _ (hold _ _ g1),g2,gm,g3⟩,g4⟩
 ·obtain⟨h',g',d',tk',os'⟩:=s';have eg:g'=s.gens:=hm.gens;have ed:d'=s.drawn:=hm.drawn;have eo:os'=s.os:=hm.os;subst eg;subst ed;subst eo;refine⟨rfl,h h' tk' hS' fun b q e=>?_⟩;have hbl:=J4 e;exact hm.heap b q (by simp only[J9,L4,or_false,not_or];exact⟨K0 hbl,K0 (ai8 hbl hsz)⟩) (F0 _ (hold _ _ e))
end
noncomputable def rS:List D->Option (List (Key×D))
 |[]=>some []
 |.tup [.str k,d]::ds=>(rS ds).map fun l=>(.inr k,d)::l
 |_=>none
def qw:D->Option D
 |.tup ds=>(rS ds).bind fun kvs=>if(kvs.map (·.1)).Nodup then some (dO kvs)else none
 |_=>none
theorem yr{ds:List D}{kvs:List (Key×D)}(h:rS ds=some kvs) (n:(kvs.map (·.1)).Nodup):qw (.tup ds)=some (dO kvs):=by
 simp only[qw,h,ad2,if_pos n]
section
variable{X:Cx}{ae:List (J7×Obj)}{σ:St}{H:Hp}{s:F4}{M:DH}
theorem zV(I:Inv X ae σ H s) (hr:HR X.K M H):∀(ds:List D) (vs:List V) (its:List F3) (kvs:List (Key×D)),ao X.K M H ds vs->ay vs its->rS ds=some kvs ->
  ∃(ws:List V) (us:List F3),ao X.K M H (kvs.map (·.2)) ws/\ay ws us/\kvs.length=its.length/\us.length=its.length/\∀(i:Nat) (kv:Key×F3),((kvs.map (·.1)).zip us)[i]?=some kv->∃b,its[i]?=some (V4 b)/\lQ (bX X.prog X.w) s.heap b kv
 |[],vs,its,kvs,rl,rv,e=>by
  cases e;simp only[ao]at rl;subst rl;cases rv;exact⟨[],[],ao.nil,.nil,rfl,rfl,fun i kv h=>by simp at h⟩
 |d::ds,vs,its,kvs,rl,rv,e=>by
  simp only[ao]at rl;obtain⟨v,vs',rfl,r1,rl'⟩:=rl;cases rv with
  |@cons _ u _ its' ru rv' =>
   cases d with
   |tup es =>
    cases es with
    |nil=>cases e
    |cons e1 es =>
     cases e1 with
     |str k =>
      cases es with
      |nil=>cases e
      |cons d2 es =>
       cases es with
       |cons _ _=>cases e
       |nil =>
        simp only[rS]at e;obtain⟨kvs',ek,rfl⟩:=Option.map_eq_some_iff.mp e;obtain⟨ws,us,h1,h2,h3,h4,h5⟩:=zV I hr ds vs' its' kvs' rl' rv' ek;simp only[Rep]at r1;obtain⟨b,xs,rfl,ta,rx⟩:=r1;simp only[ao]at rx;obtain⟨x1,_,rfl,rx1,x2,_,rfl,rx2,rfl⟩:=rx;cases(show u=V4 b from ru);obtain⟨its2,rv2,tn,_⟩:=I.tupN ta.sq;obtain⟨u1,u2,rfl,ru1,ru2⟩:=ay.two rv2;simp only[Rep]at rx1;subst rx1;refine⟨x2::ws,u2::us,ao.cons rx2 h1,.cons ru2 h2,by simp[h3],by simp[h4],fun i kv hi=>?_⟩;cases i with
        |zero =>
         simp only[J8,ad9,List.getElem?_cons_zero,af2]at hi;subst hi;exact⟨b,rfl,u1,tn.tup,pk (k:=.inr k) ru1⟩
        |succ i =>
         simp only[J8,ad9,U4]at hi;obtain⟨c,g1,g2⟩:=h5 i kv hi;exact⟨c,by rw[U4];exact g1,g2⟩
     |_=>cases e
   |_=>cases e
theorem ib{α β γ:Type}:∀{l:List (α×β)}{us:List γ},us.length=l.length->(((l.map (·.1)).zip us).map (·.1))=l.map (·.1)
 |[],[],_=>rfl
 |a::l,u::us,h=>by
  simp only[J8,ad9];rw[ib (by simpa using h)]
theorem wu{κ:Type}:∀{ks:List κ}{ws:List V}{us:List F3},ay ws us->ks.length=us.length->KV (ks.zip ws) (ks.zip us)
 |[],_,_,_,_=>.nil
 |k::ks,_,_,.nil,h=>by simp at h
 |k::ks,_,_,.cons r rv,h=>.cons ⟨rfl,r⟩ (wu rv (by simpa using h))
theorem rh(hc:X.calm=true):bH X (.type "dict") (lY qw):=by
 intro ae s σ H M xs us ds dz Q I hr rv rp e k;obtain⟨d,rfl,e0⟩:=cF e;clear e;obtain⟨v,rfl,r⟩:=i7 rp;obtain⟨u,rfl,ru⟩:=ay.one rv;cases d with
 |tup ds =>
  simp only[qw]at e0;obtain⟨kvs,ek,e1⟩:=Option.bind_eq_some_iff.mp e0
  by_cases hn:(kvs.map (·.1)).Nodup
  ·rw[if_pos hn]at e1;cases e1;obtain⟨a,vs,rfl,sq,rl⟩:=r;cases(show u=V4 a from ru);obtain⟨its,rv',tn,hz⟩:=I.tupN sq;obtain⟨ws,us,h1,h2,h3,h4,h5⟩:=zV I hr ds vs its kvs rl rv' ek;have cS:=rv'.length;refine kH (knd:=bX X.prog X.w) (kvs:=(kvs.map (·.1)).zip us) (I.ok.hd hc) tn (by simp[h3,h4]) (by simp;lia) (by rw[ib (by lia)];exact hn) (fun i kv hi=>by
    obtain⟨b,g1,g2⟩:=h5 i kv hi;exact⟨b,by simpa using g1,g2⟩) fun h' tk hd' hk'=>?_
   obtain⟨ob,es,ep,hob,rest⟩:=id hd';have hp:=I.hok.fresh (F9 s.heap.objs.size);have hwl:ws.length=kvs.length:=by have:=h2.length;lia
   have I1:=I.laid (a:=s.heap.objs.size) (o:=.frz ob (.dK ((kvs.map (·.1)).zip ws))) (h':=h') (t':=tk) hk' (F9 _) ⟨hob,by simp[hwl];lia,by
    have:=I.big;exact beq_false_of_ne (W5 this),_,wu h2 (by simp;lia),hd'⟩
   refine⟨.ref s.heap.objs.size,_,I1,rfl,k _ _ (Ext.new hr hp) (hr.new hp) ?_⟩;unfold dO;simp only[Rep];exact⟨_,ws,rfl,⟨by simp[hwl],⟨ob,bg⟩,hr.fresh hp⟩,h1.ext (Ext.new hr hp)⟩
  ·rw[if_neg hn]at e1;cases e1
 |_=>cases e0
end
theorem nbh{op:ap3}{b:M9}(h:op≠.In:=by decide) (h2:op≠.NotIn:=by decide):af0 op b=false:=vS b h h2
theorem fsc{N P:List Str}{sc:aa1}(a:sc.kind=.function:=by exact rfl) (b:sc.isCoroutine=false:=by exact rfl) (c:sc.isGenerator=false:=by exact rfl) (d:N.Nodup:=by decide +kernel) (e:N.take P.length=P:=by exact rfl)
  (f:∀x∈P,sc.names.lookup x=some .local∨sc.names.lookup x=some .cell:=by decide +kernel) (g:∀y∈sc.names,y.2≠.free:=by decide +kernel):aB N P sc:=⟨a,b,c,d,e,f,g⟩
section
variable{X:Cx}{e:M9}{es:List M9}{t:TAd}{pos p:Pos}{x:Str}{j k n:Nat}{S:SpD}
theorem qd(F:FnD X.prog X.w X.K X.mg X.base x j n S) (hr:cU k X.A) (ha:QAd X (e::es) t) (h:j<=k:=by decide) (hg:Gl X x:=by exact rfl) (hdb:(x==("__debug__":Str))=false:=by decide) (he:K4 (e::es) X.env=(false,ad3 e X.env)::K4 es X.env:=by rfl) (hpl:(V7 pos (K4 es X.env)).any (·.1)=false:=by rfl) :
  QEd X (.Call (.Name x p) (e::es) [] pos) (qg n S t):=qc F (hr.mono h) hg ha hdb he hpl
end
def txt:F3->Str|.str x _=>x|_=>ac6
theorem w6(t:N9) (n:Nat):(t.orStandIn n).led=t.led:=by unfold N9.orStandIn;split<;>rfl
theorem rN(t:N9) (es:Array (Int×F3)) (h:Int) (x:F3):(layNew t es h x).2.1.led=t.led:=by
 unfold layNew
 split
 ·exact w6 _ _
 ·rfl
theorem lh{t t':N9}{hs:Array Int}{n:Nat}{o:Array Nat}(e:t.relaid hs n=some (t',o)):t'.led=t.led/\t'.plain=t.plain:=by
 unfold N9.relaid N9.laid at e;cases q:N9.layClean (N9.sizeAbove n-1) hs with
 |none=>rw[q]at e;cases e
 |some w=>rw[q]at e;cases e;exact⟨rfl,rfl⟩
theorem oP(t:N9) (es:Array (Int×F3)) (n:Nat):(am2 t es n).2.1.led=t.led:=by
 unfold am2
 split
 ·rename_i e;dsimp only;split
  ·exact(lh e).1
  ·rfl
 ·rfl
theorem lS(t:N9) (es:Array (Int×F3)) (n:Nat) (z:t.plain=false):(am2 t es n).2.1.plain=false:=by
 unfold am2
 split
 ·rename_i e;dsimp only;split
  ·rw[(lh e).2];exact z
  ·rfl
 ·rfl
section
variable{prog:L1}{w:P9}{A:O0}{E:F3->F4->Prop}{s:F4}
noncomputable def byT(w:P9):Bool:=w.params.followText "set-order"
def ElT(prog:L1) (w:P9) (l:List (Int×F3)):Prop:=∀e∈l,∃x t,e=((strKind prog w).hash x,.str x t)
theorem ElT.of{l:List (Int×F3)}(h:ElT prog w l):ElemsOf (strKind prog w) l:=fun e he=>by
 obtain⟨x,t,rfl⟩:=h e he;exact⟨⟨x,ap0 _ _ _ _,rfl⟩,rfl⟩
structure oM(prog:L1) (w:P9) (h:K7) (a:J7) (o:Obj) (es:Array (Int×F3)) (ep:Nat) (t:N9):Prop where
 get:h.get? a=some o
 ex:o.ExactSet
 data:o.data=.set es ep t
 el:ElT prog w es.toList
 nd:(es.toList.map fun e=>txt e.2).Nodup
 room:es.size<ae7
 fit:t.fits es.size=true
 led:t.led=!byT w
 pl:es.size≠0->t.plain=false
def fj(prog:L1) (w:P9) (h:K7) (a:J7) (xs:List Str):Prop:=∃o es ep t,oM prog w h a o es ep t/\(es.toList.map fun e=>txt e.2).Perm xs
theorem fj.mono{h h':K7}{a:J7}{xs:List Str}(z:fj prog w h a xs) (k:∀o,h.get? a=some o->h'.get? a=some o):fj prog w h' a xs:=by
 obtain⟨o,es,ep,t,p,q⟩:=z;exact⟨o,es,ep,t,⟨k _ p.get,p.ex,p.data,p.el,p.nd,p.room,p.fit,p.led,p.pl⟩,q⟩
theorem fj.perm{h:K7}{a:J7}{xs ys:List Str}(z:fj prog w h a xs) (k:xs.Perm ys):fj prog w h a ys:=by
 obtain⟨o,es,ep,t,p,q⟩:=z;exact⟨o,es,ep,t,p,q.trans k⟩
theorem Cv{x:Str}{v:F3}(h:(strKind prog w).is x v=true):∃t,v=.str x t:=by
 cases v<;>simp[PySem.strKind,F3.isStrOf]at h
 rename_i y t;exact⟨t,by rw[h]⟩
theorem oM.mem{h:K7}{a:J7}{o:Obj}{es:Array (Int×F3)}{ep:Nat}{t:N9}(p:oM prog w h a o es ep t) (x:Str) :
  (∃e∈es.toList,(strKind prog w).is x e.2=true)↔x∈es.toList.map fun e=>txt e.2:=by
 constructor
 ·rintro⟨e,he,q⟩;obtain⟨t,z⟩:=Cv q;exact O9.mpr ⟨e,he,by rw[z];rfl⟩
 ·intro q;obtain⟨e,he,z⟩:=O9.mp q;obtain⟨y,t,rfl⟩:=p.el e he;have:y=x:=z;subst this;exact⟨_,he,ap0 _ _ _ _⟩
theorem m4{h:K7}{a:J7}{o:Obj}{es:Array (Int×F3)}{ep:Nat}{t:N9}(ho:h.get? a=some o) (hd:o.data=.set es ep t) (es':Array (Int×F3)) (t':N9) :
  (h.update a (am9 es' t')).get? a=some { o with data:=.set es' (ep+1) t' }:=by
 have:=S0 (am9 es' t') ho (by rw[putSet_of es' t' hd];rfl);rw[putSet_of es' t' hd]at this;exact this
theorem jb{l l':List (Int×F3)}(h:l.Perm l'):(l.map fun e=>txt e.2).Perm (l'.map fun e=>txt e.2):=h.map _
theorem oM.laid{h h':K7}{a:J7}{o:Obj}{es es':Array (Int×F3)}{ep ep':Nat}{t t':N9}(p:oM prog w h a o es ep t)
  (g:h'.get? a=some { o with data:=.set es' ep' t' }) (q:es'.toList.Perm es.toList) (f:t'.fits es'.size=true) (l:t'.led=t.led) (z:es'.size≠0->t'.plain=false):oM prog w h' a { o with data:=.set es' ep' t' } es' ep' t':=by
 have sz:es'.size=es.size:=by rw[<-L0,q.length_eq,L0]
 exact⟨g,p.ex,rfl,fun e he=>p.el e (q.mem_iff.mp he),((jb q).nodup_iff).mpr p.nd,by rw[sz];exact p.room,f,l.trans p.led,z⟩
theorem AB{g:Bool->Sem Unit}(hg:∀(b:Bool) (s₁:F4) (Q':Unit->F4->Prop),Q' () s₁->K2 (L5 prog w) A (g b) Q' E s₁)
  {a:J7} {o:Obj} {es:Array (Int×F3)} {ep:Nat} {t:N9} (ho:s.heap.get? a=some o) (hex:o.ExactSet) (hd:o.data=.set es ep t)
  {es1:Array (Int×F3)} {t2:N9} (el:ElT prog w es1.toList) (nd:(es1.toList.map fun e=>txt e.2).Nodup) (hb1:es1.size<ae7) (hf2:t2.fits es1.size=true) (ld:t2.led=!byT w) (pl:t2.plain=false)
  {wasDummy:Bool} {R:Option Bool->F4->Prop}
  (h:∀h',O4 a s.heap h'->fj prog w h' a (es1.toList.map fun e=>txt e.2)->R (some true) { s with heap:=h' }) :
  K2 (L5 prog w) A (do
    storeSet a es1 t2
    if(!wasDummy&&t2.tooFull)=true then do
      g (am2 t2 es1 (aa6 es1.size)).2.2
      storeSet a (am2 t2 es1 (aa6 es1.size)).1 (am2 t2 es1 (aa6 es1.size)).2.1
      ad0 (some true)
     else ad0 (some true)) R E s:=by
 refine o0 (wpAny_storeSet_of ho hd ?_ (ai3 hb1));have ho1:=m4 ho hd es1 t2;have hS1:oM prog w (s.heap.update a (am9 es1 t2)) a { o with data:=.set es1 (ep+1) t2 } es1 (ep+1) t2:=⟨ho1,hex,rfl,el,nd,hb1,hf2,ld,fun _=>pl⟩;have hsb1:=S2 s.heap a (am9 es1 t2)
 split
 ·have hp:=relayAll_perm t2 es1 (aa6 es1.size);have hfr:=relayAll_fits t2 es1 (aa6 es1.size);have hl:=oP t2 es1 (aa6 es1.size);have hpl:=lS t2 es1 (aa6 es1.size) pl;generalize hRl:am2 t2 es1 (aa6 es1.size)=Rl at hp hfr hl hpl ⊢;obtain⟨es2,t3,gave2⟩:=Rl;dsimp only at hp hfr hl hpl ⊢;have hsz:es2.size=es1.size:=by rw[<-L0,hp.length_eq,L0]
  have hb2:es2.size<ae7:=by rw[hsz];exact hb1
  refine o0 (hg _ _ _ ?_);refine o0 (wpAny_storeSet_of ho1 rfl ?_ (ai3 hb2));have ho2:=m4 (h:=s.heap.update a (am9 es1 t2)) ho1 rfl es2 t3;exact F5 (h _ (hsb1.trans (S2 _ a _)) ⟨_,_,_,_,hS1.laid ho2 hp hfr hl (fun _=>hpl),jb hp⟩)
 ·exact F5 (h _ hsb1 ⟨_,_,_,_,hS1,.refl _⟩)
theorem EL{a:J7}{xs:List Str}{x:Str}{tk:Tok}{Q:Bool->F4->Prop}(hS:fj prog w s.heap a xs) (hroom:xs.length+1<ae7)
  (h:∀b h',O4 a s.heap h'->fj prog w h' a (if x∈xs then xs else xs++[x])->Q b { s with heap:=h' }) :
  K2 (L5 prog w) A (setAddHashed a (.str x tk) ((strKind prog w).hash x)) Q E s:=by
 obtain⟨o,es,ep,t,p,pm⟩:=hS;have hkey:=ap0 prog w x tk;have hel:=p.el.of;have hn:es.size=xs.length:=by rw[<-L0,<-pm.length_eq,F1]
 have hb1:es.size+1<ae7:=by rw[hn];exact hroom
 unfold setAddHashed setAddHashedIn;refine R5 (o0 (wpAny_setState_of p.get p.data p.fit ?_));dsimp only;rw[byScan_of rfl p.room hel];simp only[↓reduceIte];unfold setAddByScan;refine o0 ?_;refine o0 (ab0 ?_);refine o0 (wpAny_setScan_of hkey p.get p.data p.fit hel ?_);cases hr:List.findIdx? (fun e=>(strKind prog w).is x e.2) es.toList with
 |some j =>
  dsimp only;obtain⟨hj,hpj,_⟩:=List.findIdx?_eq_some_iff_getElem.mp hr;have hx:x∈xs:=pm.mem_iff.mp ((p.mem x).mp ⟨es.toList[j],P3 hj,hpj⟩);refine F5 (F5 ?_);have e:s={ s with heap:=s.heap }:=by cases s;rfl
  rw[e];exact h _ s.heap (O4.refl a s.heap) (by rw[if_pos hx];exact⟨o,es,ep,t,p,pm⟩)
 |none =>
  dsimp only;have hx:x∉es.toList.map fun e=>txt e.2:=fun q=>by
   obtain⟨e,he,z⟩:=(p.mem x).mpr q;have:=List.findIdx?_eq_none_iff.mp hr e he;rw[z]at this;exact Bool.noConfusion this
  have hx':x∉xs:=fun q=>hx (pm.mem_iff.mpr q);have hgw:∀(b:Bool) {s₁:F4} {Q':Unit->F4->Prop},Q' () s₁->K2 (L5 prog w) A (match b with|true=>rule "set.scan.the-table-gave-way" |false=>ad0 ()) Q' E s₁ :=
   fun b s₁ Q' hq=>by cases b<;>first|exact F5 hq|exact ab0 hq
  have hperm:=layNew_perm t es ((strKind prog w).hash x) (.str x tk);have hfits:=layNew_fits t es ((strKind prog w).hash x) (.str x tk);have hled:=rN t es ((strKind prog w).hash x) (.str x tk);generalize hL:layNew t es ((strKind prog w).hash x) (.str x tk)=L at hperm hfits hled ⊢;obtain⟨es1,t1,wasDummy,gave⟩:=L;dsimp only at hperm hfits hled ⊢;rw[Array.toList_push]at hperm;have hel1:ElT prog w es1.toList:=fun e he=>by
   rcases O3.mp (hperm.mem_iff.mp he)with he|he
   ·exact p.el e he
   ·rw[N5]at he;exact⟨x,tk,he⟩
  have hm:(es1.toList.map fun e=>txt e.2).Perm ((es.toList.map fun e=>txt e.2)++[x]):=by
   have:=jb hperm
   rwa [O2]at this
  have hnd:(es1.toList.map fun e=>txt e.2).Nodup:=by
   rw[hm.nodup_iff,af5];exact⟨p.nd,by simp,fun a ha b hb=>by rw[N5]at hb;subst hb;intro q;subst q;exact hx ha⟩
  have hb1':es1.size<ae7:=by rw[<-L0,hperm.length_eq,F6,L0];simpa using hb1
  refine o0 (hgw _ ?_);have hend:∀h',O4 a s.heap h'->fj prog w h' a (es1.toList.map fun e=>txt e.2)->Q true { s with heap:=h' }:=fun h' hsb hS' =>
   h _ h' hsb (by rw[if_neg hx'];exact hS'.perm (hm.trans (pm.append_right _)))
  split
  ·refine o0 ?_;rw[hashByValue_scannable 8 rfl];refine F5 ?_;refine AB (t2:={ t1 with plain:=false }) ?_ p.get p.ex p.data hel1 hnd hb1' (N9.fits_plain_off hfits) (hled.trans p.led) rfl ?_
   ·intro b s₁ Q' hq;cases b<;>first|exact F5 hq|exact ab0 hq
   ·intro h' hsb hS';dsimp only;exact F5 (hend h' hsb hS')
  ·rename_i hp;refine o0 (F5 ?_);simp only[↓reduceIte];refine AB ?_ p.get p.ex p.data hel1 hnd hb1' hfits (hled.trans p.led) (by simpa using hp) ?_
   ·intro b s₁ Q' hq;cases b<;>first|exact F5 hq|exact ab0 hq
   ·intro h' hsb hS';dsimp only;exact F5 (hend h' hsb hS')
end
def gT(xs:List Str) (x:Str):List Str:=if x∈xs then xs else xs++[x]
def eI(xs:List Str):List Str:=xs.foldl gT []
theorem uu(xs:List Str) (x:Str):(gT xs x).length<=xs.length+1:=by unfold gT;split<;>simp
theorem uK(xs:List Str) (x y:Str):y∈gT xs x↔y∈xs∨y=x:=by
 unfold gT;split
 ·rename_i h;exact⟨.inl,fun q=>q.elim id fun e=>e▸h⟩
 ·simp
theorem nA:∀(xs zs:List Str),(xs.foldl gT zs).length<=zs.length+xs.length
 |[],_=>F9 _
 |x::xs,zs=>by
  have:=nA xs (gT zs x);have:=uu zs x;simp only[ae4,P2];lia
theorem nY:∀(xs zs:List Str) (y:Str),y∈xs.foldl gT zs↔y∈zs∨y∈xs
 |[],_,_=>by simp
 |x::xs,zs,y=>by
  rw[ae4,nY xs,uK,J9,or_assoc]
theorem lN(xs:List Str) (y:Str):y∈eI xs↔y∈xs:=by rw[eI,nY];simp
theorem lb(xs:List Str):(eI xs).length<=xs.length:=by have:=nA xs [];simpa[eI]using this
theorem uc(xs:List Str) (i:Nat) (h:i<xs.length):eI (xs.take (i+1))=gT (eI (xs.take i)) xs[i]:=by
 rw[List.take_succ_eq_append_getElem h,eI,List.foldl_append];rfl
section
variable{prog:L1}{w:P9}{A:O0}{R:ao3->F4->Prop}{I:J7}{fp wr:List J7}{G:Array ao0->Array ao0->Prop}{P:Nat->F3->Prop}{St:Nat->F4->Prop}
theorem Ep{xs:List Str}(W:WalksS prog w A.in1 I fp wr G xs.length P St) (S:J7) (hSf:S∉fp)
  (hval:∀i v (h:i<xs.length),P i v->∃t,v=.str xs[i] t) (hb:xs.length+1<ae7) :
  ∀(k i:Nat) (s:F4),xs.length-i=k->i<=xs.length->St i s->fj prog w s.heap S (eI (xs.take i)) ->
   (∀s',Moved (S::wr) G s s'->fj prog w s'.heap S (eI xs)->R (.ok (.ret .none)) s') ->
   ad5 (L5 prog w) A (.builtin "set.update.loop" ⟨[.ref S,.ref I],[]⟩) R s:=by
 have hSw:S∉wr:=fun h=>hSf (W.sub _ h);have hsub:∀b∈wr,b∈S::wr:=fun b hb=>O7 _ hb;intro k
 induction k with
 |zero =>
  intro i s hk hi hst hS hR;have hin:i=xs.length:=by lia
  subst hin;refine X3 F.entry_set_update_loop ?_;rw[U7 F.plain_set_update_loop _];show K2 _ A.in1 (ag2 (.ref I) >>= _) _ _ s;refine o0 (W.done s _ _ hst fun s' hm=>?_);show K2 _ A.in1 (ret U6) _ _ s';rw[S5]at hS;exact F5 (hR s' (hm.mono hsub) (hS.mono fun o e=>hm.heap S _ hSw e))
 |succ k ih =>
  intro i s hk hi hst hS hR;have hlt:i<xs.length:=by lia
  refine X3 F.entry_set_update_loop ?_;rw[U7 F.plain_set_update_loop _];show K2 _ A.in1 (ag2 (.ref I) >>= _) _ _ s;refine o0 (W.item i s _ _ hlt hst fun v s' hP hst' hm=>?_);obtain⟨t,rfl⟩:=hval i v hlt hP;have hS':fj prog w s'.heap S (eI (xs.take i)):=hS.mono fun o e=>hm.heap S _ hSw e;show K2 _ A.in1 (ak9 [ap2 xs[i] t] (setAdd S (.str xs[i] t)) >>= _) _ _ s';refine o0 (R5 ?_);unfold setAdd;refine R5 ?_;refine o0 ((strKind prog w).pyHash (k:=xs[i]) (ap0 _ _ _ _) ?_);have hroom:(eI (xs.take i)).length+1<ae7:=by have:=lb (xs.take i);rw[M0]at this;lia
  refine EL (s:={ s' with toks:=s'.toks+1 }) hS' hroom fun b h' hsb hS2=>?_;have hSi:fj prog w h' S (eI (xs.take (i+1))):=by rw[uc xs i hlt];exact hS2
  refine F5 ⟨af4 F.plain_set_update_loop _,ih (i+1) _ (by lia) hlt (W.frame _ s' _ _ hst' (ai1 _) fun b hb o e=>?_) hSi fun s'' hm'' hS''=>?_⟩
  ·rw[hsb.2 b (fun h:b=S=>hSf (by rw[<-h];exact hb))];exact e
  ·refine hR s'' (Moved.trans W.gtrans ((hm.mono hsub).then_heap (ai1 _) fun b o hb e=>?_) hm'') hS'';rw[hsb.2 b (fun h:b=S=>hb (by rw[h];exact Q8))];exact e
end
section
variable{prog:L1}{w:P9}{A:O0}{E:F3->F4->Prop}{s:F4}
abbrev lK(w:P9):Obj:={ cls:=.type "set",dict:=none,data:=.set #[] 0 (.fresh 0 0 (!byT w)) }
theorem BS{h:K7}{a:J7}(g:h.get? a=some (lK w)):fj prog w h a [] :=
 ⟨_,#[],0,_,⟨g,⟨rfl,rfl,rfl⟩,rfl,fun e he=>by simp at he,by simp,by decide,rfl,rfl,fun q=>absurd rfl q⟩,by simp⟩
theorem xj(a:F3) {Q₁:F3->F4->Prop}(h:Q₁ (.ref s.heap.objs.size) { s with heap:=s.heap.push (lK w) }) :
  ad5 (L5 prog w) A (.call (.builtin "set.__new__") ⟨[.type "set",a],[]⟩) (wants Q₁ E) s:=by
 refine codeAny_of_tree ?_;show K2 _ A.in1 (do checkBuiltinCall "set.__new__" ⟨[.type "set",a],[]⟩;again (.builtin "set.__new__" ⟨[.type "set",a],[]⟩)) _ _ s;refine o0 (am1 (PySem.F.newCall_set_1 a) (F5 ⟨af4 PySem.F.plain_set_new _,X3 PySem.F.entry_set_new ?_⟩));rw[U7 PySem.F.plain_set_new _];unfold K6.«set.__new__» K6.Frozenset.newClass;have hsub:=sub_set_self;obtain⟨hp,g,d,tk,os⟩:=s;dsimp only
 wp_walk
 refine aj1 (F5 ?_);dsimp only;simp only[newObj];refine o0 (wpAny_alloc (F5 ?_));exact F5 h
set_option maxHeartbeats 3200000 in
theorem uk{l:J7}{items:Array F3}{xs:List Str}{Q:F3->F4->Prop}
  (hh:A.handled=none) (hl:s.heap.IsList l items) (hn:items.size=xs.length) (hi:∀i (h:i<xs.length),∃t,items[i]?=some (.str xs[i] t)) (hb:xs.length+1<ae7)
  (h:∀(h':K7) (tk:Nat),fj prog w h' s.heap.objs.size (eI xs)->(∀b o,s.heap.get? b=some o->h'.get? b=some o)->Q (.ref s.heap.objs.size) { s with heap:=h',toks:=tk }) :
  K2 (L5 prog w) A (call (.type "set") [.ref l]) Q E s:=by
 obtain⟨c,tl,hmro⟩:=U5.mro;have hmade:=U5.made;have hsub:=U5.sub;refine wpAny_call (codeAny_of_tree ?_);show K2 _ _ (callAny (.type "set") _) _ _ _;refine F5 ⟨Code.quiet_builtin _ (by decide +kernel),X3 PySem.F.entry_type_call ?_⟩;rw[O0.under_plain (weight_type_call_type "set" [.ref l] []) rfl];have h1:=U5.notType;have h2:=U5.canCreate;have hct:=PySem.F.typeCall_set_1 (.ref l)
 repeat (any_goals (first|assumption|wp_step))
 refine ag3 (xj (.ref l) (E:=E) (Q₁:=fun obj s₁=>obj=.ref s.heap.objs.size/\s₁={ s with heap:=s.heap.push (lK w) }) ⟨rfl,rfl⟩) fun r s₁ hr=>?_;cases r with
 |error e=>exact hr
 |ok fl =>
  cases fl with
  |ret obj =>
   obtain⟨rfl,rfl⟩:=hr;have hS:(s.heap.push (lK w)).get? s.heap.objs.size=some (lK w):=J3 _ rfl;have hT:F4.TypeIs { s with heap:=s.heap.push (lK w) } (.ref s.heap.objs.size) "set":=⟨_,hS,rfl⟩;have hli:=U5.init.lookup;have hbi:=U5.init.bind (.ref s.heap.objs.size)
   repeat (any_goals (first|assumption|wp_step))
   refine ag3 (codeAny_call_builtin (R:=wants (fun r s₂=>r=.none/\∃h' tk,s₂={ s with heap:=h',toks:=tk } /\
     fj prog w h' s.heap.objs.size (eI xs)/\(∀b o,s.heap.get? b=some o->h'.get? b=some o)) E) U5.init.plain PySem.F.entry_set_init (check_set_init_1 hT ?_)) fun r₂ s₂ hr₂=>?_
   ·obtain⟨ol,hol,hcl,nl,hdl⟩:=hl;obtain⟨ocls,odict,odata,oslots⟩:=ol;simp only at hcl hdl;subst hcl;subst hdl;have hol':(s.heap.push (lK w)).get? l=some { cls:=.type "list",dict:=odict,data:=.seq items nl,slots:=oslots }:=F0 _ hol;have hsls:=PySem.F.sub_list_set;have hslf:=PySem.F.sub_list_frozenset;have hne:(ag1 "list"==ag1 "dict")=false:=by decide
    have hl1:(s.heap.push (lK w)).IsList l items:=⟨_,hol',rfl,nl,rfl⟩;unfold K6.«set.__init__» noKeywords K6.Frozenset.updateFrom;generalize hPI:am3=PI
    wp_walk
    subst hPI;refine V1 hl1 ?_;refine o0 (wpAny_runValue ?_);have hlS:l<s.heap.objs.size:=J4 hol;have hh3:A.in1.in1.in1.handled=none:=by simp[hh]
    have hneI:l≠(s.heap.push (lK w)).objs.size:=by
     rw[R4];exact K0 (P1 hlS)
    have hSf:s.heap.objs.size∉[(s.heap.push (lK w)).objs.size,l]:=by
     rw[R4];simp only[J9,N5,L4,or_false,not_or];exact⟨K0 (ad1 _),W5 hlS⟩
    have W:=(ap4.list (prog:=prog) (w:=w) hh3 _ l hneI items).toS;rw[hn]at W;refine Ep (xs:=xs) W s.heap.objs.size hSf (fun i v hlt hv=>?_) hb (xs.length-0) 0 _ (by lia) (P6 _) ?St0 ?hS0 ?hR
    case St0=>exact⟨⟨_,J3 _ rfl,rfl,rfl⟩,(hl1.push _)⟩
    ·obtain⟨t,g⟩:=hi i hlt;have hv':items[i]?=some v:=hv;rw[g]at hv';exact⟨t,(Q7 hv').symm⟩
    case hS0=>exact BS (F0 _ hS)
    case hR =>
     intro s' hm hS';obtain⟨h',g',d',tk',os'⟩:=s';have eg:g'=s.gens:=hm.gens;have ed:d'=s.drawn:=hm.drawn;have eo:os'=s.os:=hm.os;subst eg;subst ed;subst eo;show K2 _ _ _ _ _ _;refine F5 ?_;show K2 _ _ (ret U6) _ _ _;refine F5 ⟨rfl,h',tk',rfl,hS',fun b o e=>?_⟩;have hb:=J4 e;have hb1:b≠s.heap.objs.size:=K0 hb;have hb2:b≠(s.heap.push (lK w)).objs.size:=by
      rw[R4];exact K0 (P1 hb)
     exact hm.heap b o (by simp only[J9,N5,L4,or_false,not_or];exact⟨hb1,hb2⟩) (F0 _ (F0 _ e))
   ·cases r₂ with
    |error e=>exact hr₂
    |ok fl₂ =>
     cases fl₂ with
     |ret r =>
      obtain⟨rfl,h',tk,rfl,hS',hk'⟩:=hr₂
      repeat (any_goals (first|assumption|wp_step))
      exact h _ _ hS' hk'
     |_=>exact hr₂.elim
  |_=>exact hr.elim
end
theorem ko{α:Type}(f:Nat->Nat):∀(n k:Nat) (l:List α) (out:Array α),l.length=n->(ae8.go f n k l out).toList.Perm (out.toList++l)
 |0,k,l,out,h=>by
  have:l=[]:=W3.mp h;subst this;simp[ae8.go]
 |n+1,k,l,out,h=>by
  have hl:f k % l.length<l.length:=Nat.mod_lt _ (by lia);simp only[ae8.go,u8 hl];refine(ko f n (k+1) _ _ (by rw[List.length_eraseIdx_of_lt hl];lia)).trans ?_;rw[Array.toList_push,U0];refine al4.append_left _ ?_;have z:l=l.take (f k % l.length)++l[f k % l.length]::l.drop (f k % l.length+1):=by rw[List.getElem_cons_drop];simp
  have e:l.eraseIdx (f k % l.length)=l.take (f k % l.length)++l.drop (f k % l.length+1):=List.eraseIdx_eq_take_drop_succ l _;rw[e];generalize l[f k % l.length]=x at z ⊢
  conv=>rhs;rw[z]
  rw[List.singleton_append];exact List.perm_middle.symm
theorem jJ{α:Type}(f:Nat->Nat) (xs:Array α):(ae8 f xs).toList.Perm xs.toList:=by
 have:=ko f xs.size 0 xs.toList #[] (by simp);simpa[ae8]using this
section
variable{prog:L1}{w:P9}{A:O0}{E:F3->F4->Prop}{s:F4}
theorem kN{Q:Bool->F4->Prop}(h:Q (byT w) s):K2 (L5 prog w) A setsByText Q E s:=by
 unfold setsByText;exact o0 (aj1 (F5 h))
end
end L2
namespace L2
open PySem
end L2
namespace L2
open PySem PySem.SetTable
def rs(mask:Nat) (h:Int):Nat->Nat×Nat
 |0=>(bits h % (mask+1),bits h)
 |n+1=>leap mask (rs mask h n).1 (rs mask h n).2
variable{mask:Nat}{h:Int}
def Ri(xs:Array Nat):Prop:=∀i j,i<j->j<xs.size->xs.getD i 0<xs.getD j 0
theorem xX{xs:Array Nat}{i:Nat}(h:i<xs.size) (a b:Nat):xs.getD i a=xs.getD i b:=by simp[ac0,h]
theorem lV{xs:Array Nat}(up:Ri xs) (j:Nat):∀f lo hi,hi-lo<=f->lo<=hi->hi<=xs.size->(∀i,i<lo->xs.getD i 0<j)->(∀i,hi<=i->i<xs.size->j<=xs.getD i 0) ->
  below.go xs j f lo hi<=xs.size/\(∀i,i<below.go xs j f lo hi->xs.getD i 0<j)/\∀i,below.go xs j f lo hi<=i->i<xs.size->j<=xs.getD i 0
 |0,lo,hi,h1,h2,h3,a,b=>by
  obtain rfl:lo=hi:=by lia
  exact⟨h3,a,b⟩
 |f+1,lo,hi,h1,h2,h3,a,b=>by
  unfold below.go
  by_cases c:lo<hi
  ·rw[if_pos c];dsimp only
   by_cases d:xs.getD ((lo+hi) / 2) j<j
   ·rw[if_pos d];rw[xX (by lia) j 0]at d;refine lV up j f _ _ (by lia) (by lia) h3 (fun i hi'=>?_) b;rcases ae6 i ((lo+hi) / 2)with q|q
    ·exact ai8 (up i _ q (by lia)) d
    ·obtain rfl:i=(lo+hi) / 2:=by lia
     exact d
   ·rw[if_neg d];rw[xX (by lia) j 0]at d;refine lV up j f _ _ (by lia) (by lia) (by lia) a (fun i h4 h5=>?_);rcases ae6 ((lo+hi) / 2) i with q|q
    ·have:=up _ i q h5;lia
    ·obtain rfl:i=(lo+hi) / 2:=by lia
     lia
  ·rw[if_neg c];obtain rfl:lo=hi:=by lia
   exact⟨h3,a,b⟩
theorem vq{xs:Array Nat}(up:Ri xs) (j:Nat):below xs j<=xs.size/\(∀i,i<below xs j->xs.getD i 0<j)/\∀i,below xs j<=i->i<xs.size->j<=xs.getD i 0 :=
 lV up j _ _ _ (by lia) (P6 _) (F9 _) (fun i h=>by lia) (fun i h1 h2=>by lia)
end L2
namespace L2
open PySem PySem.Spec PyProof.Rows
theorem ba:Slot "set_iterator" "__next__" "set_iterator.__next__" :=
 .of (owner:="set_iterator") (n:="__next__") (by rw[typeLookup_type,builtinLookup_eq_fast];kernel_rfl) (by decide +kernel) (by decide +kernel) (by decide +kernel)
  (by first|exact .inl (by decide +kernel)|exact .inr (by decide +kernel)) (by rw[isSubtype_type];kernel_rfl)
theorem cX:entryFor table "set_iterator.__next__"=some K6.«set_iterator.__next__»:=entryFor_of_tree (by kernel_rfl)
theorem dH(a:F3):argsOk "set_iterator.__next__" ⟨[a],[]⟩:=by unfold argsOk;kernel_rfl
noncomputable abbrev jz(f:F3) (i:Nat) (a:J7) (n ep:Nat):Obj:={ cls:=.type "set_iterator",data:=.fields #[f,X5 i,.ref a,X5 n,X5 ep] }
structure eN(w:P9) (h:K7) (a:J7) (o:Obj) (es:Array (Int×F3)) (ep:Nat) (t:N9):Prop where
 get:h.get? a=some o
 ex:o.ExactSet
 data:o.data=.set es ep t
 room:es.size<ae7
 fit:t.fits es.size=true
 led:t.led=!byT w
 go:(es.size≠0->t.plain=false)∨Ri t.place
theorem oM.b{prog:L1}{w:P9}{h:K7}{a:J7}{o:Obj}{es:Array (Int×F3)}{ep:Nat}{t:N9}(p:oM prog w h a o es ep t):eN w h a o es ep t:=⟨p.get,p.ex,p.data,p.room,p.fit,p.led,.inl p.pl⟩
theorem eN.kept{w:P9}{h h':K7}{a:J7}{o:Obj}{es:Array (Int×F3)}{ep:Nat}{t:N9}(p:eN w h a o es ep t) (k:h'.get? a=some o):eN w h' a o es ep t:=⟨k,p.ex,p.data,p.room,p.fit,p.led,p.go⟩
theorem eN.typeIs{w:P9}{s:F4}{a:J7}{o:Obj}{es:Array (Int×F3)}{ep:Nat}{t:N9}(p:eN w s.heap a o es ep t):s.TypeIs (.ref a) "set":=⟨o,p.get,p.ex.1⟩
section
variable{prog:L1}{w:P9}{A:O0}{E:F3->F4->Prop}{s:F4}
theorem eN.state{a:J7}{o:Obj}{es:Array (Int×F3)}{ep:Nat}{t:N9}{Q:Array (Int×F3)×Nat×N9->F4->Prop}(p:eN w s.heap a o es ep t) (h:Q (es,ep,t) s):K2 (L5 prog w) A (setState a) Q E s:=wpAny_setState_of p.get p.data p.fit h
theorem wf{a:J7}{o:Obj}{es:Array (Int×F3)}{ep:Nat}{t:N9}{Q:Nat->F4->Prop}(p:eN w s.heap a o es ep t) (h:Q ep s):K2 (L5 prog w) A (setEpoch a) Q E s :=
 wpAny_setEpoch_of p.get p.data p.fit h
theorem Aj{I a:J7}{k i n:Nat}{o:Obj}{es:Array (Int×F3)}{ep:Nat}{t:N9}{x:F3}{nx:Nat}{Q:Option F3->F4->Prop}(hI:s.heap.get? I=some (jz (X5 k) i a n ep)) (p:eN w s.heap a o es ep t) (hn:es.size=n)
  (hx:∀(Q':Option (F3×Nat)->F4->Prop) E',Q' (some (x,nx)) s->K2 (L5 prog w) A.in1 (aq0 a k i ep) Q' E' s)
  (h:∀h',h'.get? I=some (jz (X5 nx) (i+1) a n ep)->O4 I s.heap h'->Q (some x) { s with heap:=h' }):K2 (L5 prog w) A (ag2 (.ref I)) Q E s:=by
 have hT:s.TypeIs (.ref I) "set_iterator":=⟨_,hI,rfl⟩;unfold ag2;refine o0 (ah5 (P5 (name:=K3 "__next__") hT ba
  (Q6 ba hT cX ?_ (dH _))))
 unfold K6.«set_iterator.__next__»;refine o0 (m:=slotArgs "__next__" 0 ⟨[.ref I],[]⟩) (F5 ?_);refine o0 (al1 hI rfl ?_);dsimp only;simp only[X5,N4];refine o0 (ac8 p.get p.data p.fit ?_);rw[if_neg (by rw[hn];simp)];refine o0 (hx _ _ ?_);dsimp only;refine o0 (aa4 hI rfl (by simp) ?_);have h1:(s.heap.update I (ak0 (·.setIfInBounds 0 (X5 nx)))).get? I=some (jz (X5 nx) i a n ep):=S0 _ hI rfl;refine o0 (aa4 h1 rfl (by simp) ?_);have h2:((s.heap.update I (ak0 (·.setIfInBounds 0 (X5 nx)))).update I (ak0 (·.setIfInBounds 1 (X5 ((i:Int)+1))))).get? I=some (jz (X5 nx) (i+1) a n ep):=S0 _ h1 rfl;exact F5 ⟨_,rfl,F5 (h _ h2 ((S2 ..).trans (S2 ..)))⟩
theorem DN{I a:J7}{k i n:Nat}{o:Obj}{es:Array (Int×F3)}{ep:Nat}{t:N9}{Q:Option F3->F4->Prop}(hh:A.handled=none) (hI:s.heap.get? I=some (jz (X5 k) i a n ep)) (p:eN w s.heap a o es ep t) (hn:es.size=n)
  (hx:∀(Q':Option (F3×Nat)->F4->Prop) E',Q' none s->K2 (L5 prog w) A.in1 (aq0 a k i ep) Q' E' s)
  (h:∀h',an7 I s.heap h'->Q none { s with heap:=h' }):K2 (L5 prog w) A (ag2 (.ref I)) Q E s:=by
 have hT:s.TypeIs (.ref I) "set_iterator":=⟨_,hI,rfl⟩;unfold ag2;refine o0 (ah5 (P5 (name:=K3 "__next__") hT ba
  (Q6 ba hT cX ?_ (dH _))))
 unfold K6.«set_iterator.__next__»;refine o0 (m:=slotArgs "__next__" 0 ⟨[.ref I],[]⟩) (F5 ?_);refine o0 (al1 hI rfl ?_);dsimp only;simp only[X5,N4];refine o0 (ac8 p.get p.data p.fit ?_);rw[if_neg (by rw[hn];simp)];refine o0 (hx _ _ ?_);dsimp only;refine o0 (aa4 hI rfl (by simp) ?_);refine o0 ?_;simp only[newExc,newTuple];refine o0 (N2 ?_ (by size_fits));refine o0 (m:=af9 _ _) (am1 (a:=U6) (by first|rfl|(simp only[af9];rfl)) ?_);refine N2 ?_ (by size_fits);simp only[raiseNew];refine o0 (wpAny_handled ?_);rw[show A.in1.handled=none from hh];refine o0 (F5 (wpAny_throw ?_));refine o0 (aj4 (T:="StopIteration") (b:=true) ⟨_,J3 _ rfl,rfl⟩ isSubtype_stop ?_);exact F5 (h _ (((S2 ..).extBut.push _).push _))
end
section
variable{prog:L1}{w:P9}{A:O0}{E:F3->F4->Prop}{s:F4}
noncomputable abbrev tpO(ps:List Nat):Obj:={ cls:=.type "tuple",data:=.seq (ps.map fun(i:Nat)=>X5 i).toArray }
theorem CO{tp:J7}{ps:List Nat}{Q:Option (Array F3)->F4->Prop}(hp:s.heap.get? tp=some (tpO ps)) (h:Q (some (ps.map fun(i:Nat)=>X5 i).toArray) s):K2 (L5 prog w) A (ap9 (.ref tp)) Q E s:=by
 unfold ap9;exact o0 (wpAny_load hp (F5 h))
theorem CA{I a tp:J7}{i n pl:Nat}{ps:List Nat}{o:Obj}{es:Array (Int×F3)}{ep:Nat}{t:N9}{e:Int×F3}{Q:Option F3->F4->Prop}(hI:s.heap.get? I=some (jz (.ref tp) i a n ep)) (hp:s.heap.get? tp=some (tpO ps)) (p:eN w s.heap a o es ep t) (hn:es.size=n)
  (hx:ps[i]?=some pl) (he:es[pl]?=some e)
  (h:∀h',h'.get? I=some (jz (.ref tp) (i+1) a n ep)->O4 I s.heap h'->Q (some e.2) { s with heap:=h' }):K2 (L5 prog w) A (ag2 (.ref I)) Q E s:=by
 have hT:s.TypeIs (.ref I) "set_iterator":=⟨_,hI,rfl⟩;unfold ag2;refine o0 (ah5 (P5 (name:=K3 "__next__") hT ba
  (Q6 ba hT cX ?_ (dH _))))
 unfold K6.«set_iterator.__next__»;refine o0 (m:=slotArgs "__next__" 0 ⟨[.ref I],[]⟩) (F5 ?_);refine o0 (al1 hI rfl ?_);dsimp only;simp only[X5,N4];refine o0 (ac8 p.get p.data p.fit ?_);rw[if_neg (by rw[hn];simp)];refine o0 (CO hp ?_);have hx':(ps.map fun(i:Nat)=>X5 i).toArray[i]?=some (.int pl 0):=by simp[hx,X5]
 dsimp only;rw[hx'];dsimp only;refine o0 ?_;unfold setNextDrawn;refine o0 (p.state ?_);dsimp only;rw[if_neg (by simp),N4,he];refine F5 ?_;refine o0 (aa4 hI rfl (by simp) ?_);have h2:(s.heap.update I (ak0 (·.setIfInBounds 1 (X5 ((i:Int)+1))))).get? I=some (jz (.ref tp) (i+1) a n ep):=S0 _ hI rfl;exact F5 ⟨_,rfl,F5 (h _ h2 (S2 ..))⟩
theorem Es{I a tp:J7}{i n:Nat}{ps:List Nat}{o:Obj}{es:Array (Int×F3)}{ep:Nat}{t:N9}{Q:Option F3->F4->Prop}(hh:A.handled=none) (hI:s.heap.get? I=some (jz (.ref tp) i a n ep)) (hp:s.heap.get? tp=some (tpO ps)) (p:eN w s.heap a o es ep t) (hn:es.size=n)
  (hx:ps[i]?=none)
  (h:∀h',an7 I s.heap h'->Q none { s with heap:=h' }):K2 (L5 prog w) A (ag2 (.ref I)) Q E s:=by
 have hT:s.TypeIs (.ref I) "set_iterator":=⟨_,hI,rfl⟩;unfold ag2;refine o0 (ah5 (P5 (name:=K3 "__next__") hT ba
  (Q6 ba hT cX ?_ (dH _))))
 unfold K6.«set_iterator.__next__»;refine o0 (m:=slotArgs "__next__" 0 ⟨[.ref I],[]⟩) (F5 ?_);refine o0 (al1 hI rfl ?_);dsimp only;simp only[X5,N4];refine o0 (ac8 p.get p.data p.fit ?_);rw[if_neg (by rw[hn];simp)];refine o0 (CO hp ?_);have hx':(ps.map fun(i:Nat)=>X5 i).toArray[i]?=none:=by simp[hx]
 dsimp only;rw[hx'];dsimp only;refine o0 (aa4 hI rfl (by simp) ?_);have h1:(s.heap.update I (ak0 (·.setIfInBounds 0 (X5 0)))).get? I=some (jz (X5 0) i a n ep):=S0 _ hI rfl;refine o0 (aa4 h1 rfl (by simp) ?_);refine o0 ?_;simp only[newExc,newTuple];refine o0 (N2 ?_ (by size_fits));refine o0 (m:=af9 _ _) (am1 (a:=U6) (by first|rfl|(simp only[af9];rfl)) ?_);refine N2 ?_ (by size_fits);simp only[raiseNew];refine o0 (wpAny_handled ?_);rw[show A.in1.handled=none from hh];refine o0 (F5 (wpAny_throw ?_));refine o0 (aj4 (T:="StopIteration") (b:=true) ⟨_,J3 _ rfl,rfl⟩ isSubtype_stop ?_);exact F5 (h _ (((((S2 ..).trans (S2 ..)).extBut).push _).push _))
theorem vb{a:J7}{k i:Nat}{o:Obj}{es:Array (Int×F3)}{ep:Nat}{t:N9}{Q:Option (F3×Nat)->F4->Prop}(p:eN w s.heap a o es ep t) (hb:byT w=true)
  (h:Q (((ae8 (w.params.setOrder a ep) es)[i]?).map fun e=>(e.2,k)) s):K2 (L5 prog w) A (aq0 a k i ep) Q E s:=by
 unfold aq0;refine o0 (p.state ?_);dsimp only;refine o0 (kN ?_);rw[hb];simp only[if_true];rw[if_neg (by simp)];refine o0 ?_;unfold setWalk;refine o0 (p.state ?_);dsimp only;refine o0 (kN ?_);rw[hb];simp only[if_true];exact o0 (aj1 (F5 (F5 h)))
theorem vY{a:J7}{k i:Nat}{o:Obj}{es:Array (Int×F3)}{ep:Nat}{t:N9}{Q:Option (F3×Nat)->F4->Prop}(p:eN w s.heap a o es ep t) (hb:byT w=false) (h2:(!t.plain&&decide (es.size > 1))=false)
  (h:Q (match es[al2 t.place k]?,t.place[al2 t.place k]? with|some (_,x),some j=>some (x,j+1)|_,_=>none) s):K2 (L5 prog w) A (aq0 a k i ep) Q E s:=by
 unfold aq0;refine o0 (p.state ?_);dsimp only;refine o0 (kN ?_);rw[hb];simp only[K1,if_false];show K2 _ _ (if(!t.plain&&decide (es.size > 1))=true then _ else _) _ _ _;rw[if_neg (by rw[h2];simp)];refine o0 ?_;show K2 _ _ (if(!t.led&&!es.isEmpty)=true then _ else _) _ _ _;rw[if_neg (by rw[p.led,hb];simp)];exact F5 (F5 h)
end
section
variable{prog:L1}{w:P9}{A:O0}{E:F3->F4->Prop}{s:F4}
theorem zH{src:Source}{n:Nat}{Q:Nat->F4->Prop}(hn:n≠0) (h:∀i d,i<n->Q i { s with drawn:=d }):K2 (L5 prog w) A (choose src n) Q E s :=
 fun Γ p hΓ=>⟨hn,h _ _ (Nat.mod_lt _ (Nat.pos_of_ne_zero hn))⟩
theorem Em{α:Type}(n:Nat):∀(xs:List α) (s:F4) (Q:List α->F4->Prop),xs.length=n->(∀ys d,ys.Perm xs->Q ys { s with drawn:=d })->K2 (L5 prog w) A (drawOrder n xs) Q E s:=by
 induction n with
 |zero =>
  intro xs s Q hn h;have:xs=[]:=W3.mp hn;subst this;have e:s={ s with drawn:=s.drawn }:=by cases s;rfl
  rw[e];exact F5 (h [] s.drawn (.refl _))
 |succ n ih =>
  intro xs s Q hn h;cases xs with
  |nil=>simp at hn
  |cons x xs =>
   unfold drawOrder;refine o0 (zH (by simp) fun i d hi=>?_);rw[u8 hi];dsimp only;refine o0 (ih ((x::xs).eraseIdx i) _ _ (by rw[List.length_eraseIdx_of_lt hi];simp at hn ⊢;lia) fun ys d' hp=>?_);refine F5 (h _ d' ?_);have z:(x::xs)=(x::xs).take i++(x::xs)[i]::(x::xs).drop (i+1):=by rw[List.getElem_cons_drop];simp
   have e:(x::xs).eraseIdx i=(x::xs).take i++(x::xs).drop (i+1):=List.eraseIdx_eq_take_drop_succ _ _;rw[e]at hp;refine(hp.cons _).trans ?_;generalize (x::xs)[i]=u at z ⊢
   conv=>rhs;rw[z]
   exact List.perm_middle.symm
theorem iy:Slot "set_iterator" "__iter__" "set_iterator.__iter__" :=
 .of (owner:="set_iterator") (n:="__iter__") (by rw[typeLookup_type,builtinLookup_eq_fast];kernel_rfl) (by decide +kernel) (by decide +kernel) (by decide +kernel)
  (by first|exact .inl (by decide +kernel)|exact .inr (by decide +kernel)) (by rw[isSubtype_type];kernel_rfl)
theorem mf:entryFor table "set_iterator.__iter__"=some K6.«dict_keyiterator.__iter__» :=
 entryFor_alias (id':="dict_keyiterator.__iter__") (by kernel_rfl) rfl (by decide +kernel) (by kernel_rfl)
theorem mE(a:F3):argsOk "set_iterator.__iter__" ⟨[a],[]⟩:=by unfold argsOk;kernel_rfl
theorem xu{I a:J7}{f:F3}{i n ep:Nat}{Q:F3->F4->Prop}(hI:s.heap.get? I=some (jz f i a n ep)) (h:Q (.ref I) s):K2 (L5 prog w) A (am3 (.ref I)) Q E s:=by
 have hT:s.TypeIs (.ref I) "set_iterator":=⟨_,hI,rfl⟩;refine wpAny_pyIter_slot hT iy (Q6 iy hT mf ?_ (mE _));show K2 _ _ (ret (.ref I)) _ _ s;exact F5 ⟨_,rfl,"set_iterator",_,hT,ba.lookup,h⟩
end
def kI(xs:Array Nat) (i:Nat):Nat:=if i=0 then 0 else xs.getD (i-1) 0+1
theorem pN{xs:Array Nat}(up:Ri xs) {i:Nat}(hi:i<=xs.size):al2 xs (kI xs i)=i:=by
 obtain⟨h1,h2,h3⟩:=vq up (kI xs i);rcases Nat.lt_trichotomy (al2 xs (kI xs i)) i with q|q|q
 ·have a:=h3 (i-1) (by lia) (by lia);unfold kI at a;rw[if_neg (by lia)]at a;lia
 ·exact q
 ·have a:=h2 i q;unfold kI at a
  by_cases c:i=0
  ·rw[if_pos c]at a;lia
  ·rw[if_neg c]at a;have b:=up (i-1) i (by lia) (by lia)
   lia
section
variable{prog:L1}{w:P9}{A:O0}{E:F3->F4->Prop}{s:F4}
abbrev PSe(es':Array (Int×F3)):Nat->F3->Prop:=fun i v=>∃e,es'[i]?=some e/\v=e.2
theorem Cq(hh:A.handled=none) {I a:J7}(hne:a≠I) {o:Obj}{es:Array (Int×F3)}{ep:Nat}{t:N9}(hb:byT w=true) :
  ap4 prog w A I [I,a] [I] es.size (PSe (ae8 (w.params.setOrder a ep) es)) (fun i h=>(∃k:Nat,h.get? I=some (jz (X5 k) i a es.size ep))/\eN w h a o es ep t) where
 sub:=fun b hb=>by simp at hb;simp[hb]
 frame:=fun _ _ _ st hk=>⟨let⟨k,g⟩:=st.1;⟨k,hk I (by simp) _ g⟩,st.2.kept (hk a (by simp) _ st.2.get)⟩
 item:=fun i s Q E hi st hQ=>by
  obtain⟨⟨k,g⟩,p⟩:=st;have sz:(ae8 (w.params.setOrder a ep) es).size=es.size:=by
   have:=(jJ (w.params.setOrder a ep) es).length_eq;simpa using this
  have hx:(ae8 (w.params.setOrder a ep) es)[i]?=some ((ae8 (w.params.setOrder a ep) es)[i]'(by lia)):=S6 _;refine Aj g p rfl (fun Q' E' q=>vb p hb (by rw[hx];exact q)) fun h' g' sb=>?_;exact hQ _ h' s.toks ⟨_,hx,rfl⟩ ⟨⟨_,g'⟩,p.kept (by rw[sb.2 a hne];exact p.get)⟩ fun b o hb e=>by rw[sb.2 b (fun h=>hb (by simp[h]))];exact e
 done:=fun s Q E st hQ=>by
  obtain⟨⟨k,g⟩,p⟩:=st;have sz:(ae8 (w.params.setOrder a ep) es).size=es.size:=by
   have:=(jJ (w.params.setOrder a ep) es).length_eq;simpa using this
  have hx:(ae8 (w.params.setOrder a ep) es)[es.size]?=none:=Array.getElem?_eq_none (by lia);exact DN hh g p rfl (fun Q' E' q=>vb p hb (by rw[hx];exact q)) fun h' he'=>hQ h' s.toks fun b o hb e=>he' b o (fun h=>hb (by simp[h])) e
 self:=fun _ _ _ _ st hQ=>let⟨⟨_,g⟩,_⟩:=st;xu g hQ
theorem Bc(hh:A.handled=none) {I a:J7}(hne:a≠I) {o:Obj}{es:Array (Int×F3)}{ep:Nat}{t:N9}(hb:byT w=false) (h1:(!t.plain&&decide (es.size > 1))=false) (up:Ri t.place) (hf:t.place.size=es.size) :
  ap4 prog w A I [I,a] [I] es.size (PSe es) (fun i h=>i<=es.size/\h.get? I=some (jz (X5 (kI t.place i)) i a es.size ep)/\eN w h a o es ep t) where
 sub:=fun b hb=>by simp at hb;simp[hb]
 frame:=fun _ _ _ st hk=>⟨st.1,hk I (by simp) _ st.2.1,st.2.2.kept (hk a (by simp) _ st.2.2.get)⟩
 item:=fun i s Q E hi st hQ=>by
  obtain⟨_,g,p⟩:=st;have hx:es[i]?=some (es[i]'hi):=S6 _;have hp:t.place[i]?=some (t.place.getD i 0):=by rw[S6 (by lia)];simp[ac0,show i<t.place.size by lia]
  refine Aj (x:=(es[i]'hi).2) (nx:=t.place.getD i 0+1) g p rfl (fun Q' E' q=>vY p hb h1 (by rw[pN up (by lia),hx,hp];exact q)) fun h' g' sb=>?_;refine hQ _ h' s.toks ⟨_,hx,rfl⟩ ⟨hi,?_,p.kept (by rw[sb.2 a hne];exact p.get)⟩ fun b o hb e=>by rw[sb.2 b (fun h=>hb (by simp[h]))];exact e
  rw[g'];rfl
 done:=fun s Q E st hQ=>by
  obtain⟨_,g,p⟩:=st;have e1:es[es.size]?=none:=Array.getElem?_eq_none (F9 _);exact DN hh g p rfl (fun Q' E' q=>vY p hb h1 (by rw[pN up (by lia),e1];exact q)) fun h' he'=>hQ h' s.toks fun b o hb e=>he' b o (fun h=>hb (by simp[h])) e
 self:=fun _ _ _ _ st hQ=>xu st.2.1 hQ
theorem BR(hh:A.handled=none) {I a tp:J7}(hne:a≠I) (hnt:tp≠I) {o:Obj}{es:Array (Int×F3)}{ep:Nat}{t:N9}{ps:List Nat}(hp:ps.Perm (R8 es.size)) :
  ap4 prog w A I [I,a,tp] [I] es.size (PSe (ps.map fun j=>es.getD j ac6).toArray) (fun i h=>h.get? I=some (jz (.ref tp) i a es.size ep)/\h.get? tp=some (tpO ps)/\eN w h a o es ep t) where
 sub:=fun b hb=>by simp at hb;simp[hb]
 frame:=fun _ _ _ st hk=>⟨hk I (by simp) _ st.1,hk tp (by simp) _ st.2.1,st.2.2.kept (hk a (by simp) _ st.2.2.get)⟩
 item:=fun i s Q E hi st hQ=>by
  obtain⟨g,gt,p⟩:=st;have sz:ps.length=es.size:=by rw[hp.length_eq,List.length_range]
  have hi':i<ps.length:=by lia
  have hx:ps[i]?=some ps[i]:=u8 hi';have hm:ps[i]<es.size:=aa0.mp (hp.mem_iff.mp (P3 hi'));have he:es[ps[i]]?=some es[ps[i]]:=S6 hm;refine CA g gt p rfl hx he fun h' g' sb=>?_;refine hQ _ h' s.toks ⟨es[ps[i]],?_,rfl⟩ ⟨g',by rw[sb.2 tp hnt];exact gt,p.kept (by rw[sb.2 a hne];exact p.get)⟩ fun b o hb e=>by rw[sb.2 b (fun h=>hb (by simp[h]))];exact e
  simp[hx,ac0,hm]
 done:=fun s Q E st hQ=>by
  obtain⟨g,gt,p⟩:=st;have sz:ps.length=es.size:=by rw[hp.length_eq,List.length_range]
  exact Es hh g gt p rfl (Z3 (by lia)) fun h' he'=>hQ h' s.toks fun b o hb e=>he' b o (fun h=>hb (by simp[h])) e
 self:=fun _ _ _ _ st hQ=>xu st.1 hQ
end
theorem l8:entryFor table "set.__iter__"=some K6.«frozenset.__iter__» :=
 entryFor_alias (id':="frozenset.__iter__") (by kernel_rfl) rfl (by decide +kernel) (by kernel_rfl)
section
variable{prog:L1}{w:P9}{A:O0}{E:F3->F4->Prop}{s:F4}
theorem vC(es:Array (Int×F3)):(R8 es.size).map (fun j=>es.getD j ac6)=es.toList:=by
 apply aj3 (by simp);intro i h1 h2;simp at h1;simp[ac0,h1]
theorem CD{a:J7}{o:Obj}{es:Array (Int×F3)}{ep:Nat}{t:N9}{Q:F3->F4->Prop}(hh:A.handled=none) (p:eN w s.heap a o es ep t)
  (h:∀ (I:J7) (h':K7) d' (es':Array (Int × F3)) (fp:List J7) (St:Nat → K7 → Prop),es'.toList.Perm es.toList → (∀ b o,s.heap.get? b = some o → h'.get? b = some o) → ap4 prog w A I fp [I] es.size (PSe es') St → St 0 h' → s.heap.objs.size ≤ I →
   (∀b∈fp,b=a∨s.heap.objs.size<=b)->Q (.ref I) { s with heap:=h',drawn:=d' }):K2 (L5 prog w) A (am3 (.ref a)) Q E s:=by
 have al:a<s.heap.objs.size:=J4 p.get;refine wpAny_pyIter_slot p.typeIs PySem.F.slot_set_iter (Q6 PySem.F.slot_set_iter p.typeIs l8 ?_ (PySem.F.args_set_iter_1 _));unfold K6.«frozenset.__iter__»;refine o0 (m:=K6.Frozenset.slot0 "__iter__" ⟨[.ref a],[]⟩) (F5 ?_);unfold K6.Frozenset.sizeOf;refine o0 (o0 (ac8 p.get p.data p.fit (F5 ?_)));refine o0 ?_;unfold setDrawn;refine o0 (p.state ?_);dsimp only;refine o0 (kN (F5 ?_));show K2 _ _ (if(!byT w&&(!t.plain&&decide (es.size > 1)))=true then _ else _) _ _ _
 split
 ·rename_i hc;refine o0 (Em es.size (R8 es.size) s _ (by simp) fun ps d hp=>?_);have cS:ps.length=es.size:=by rw[hp.length_eq,List.length_range]
  have hsz:=ai3 p.room;refine o0 ?_;simp only[newTuple];refine N2 ?_ (by show(ps.map _).toArray.size<=F7;simp;lia);have g1:(s.heap.push (tpO ps)).get? s.heap.objs.size=some (tpO ps):=J3 _ rfl;have p1:eN w (s.heap.push (tpO ps)) a o es ep t:=p.kept (F0 _ p.get);refine o0 (wf (s:={ s with heap:=s.heap.push (tpO ps),drawn:=d }) p1 ?_);refine o0 ?_;unfold newFields;refine N2 ?_;refine F5 ⟨_,rfl,"set_iterator",_,⟨_,J3 _ rfl,rfl⟩,ba.lookup,?_⟩;refine h _ _ d (ps.map fun j=>es.getD j ac6).toArray [(s.heap.push (tpO ps)).objs.size,a,s.heap.objs.size] _ ?_ (fun b o e=>F0 _ (F0 _ e))
   (BR hh (o:=o) (t:=t) (ep:=ep) (ps:=ps) (by rw[R4];exact K0 (P1 al)) (by rw[R4];exact K0 (ad1 _)) hp) ⟨J3 _ rfl,F0 _ g1,p1.kept (F0 _ p1.get)⟩ (by rw[R4];lia) fun b hb=>?_
  ·have:=hp.map fun j=>es.getD j ac6;rw[vC]at this;simpa using this
  ·rw[R4]at hb;simp only[J9,L4,or_false]at hb;rcases hb with rfl|rfl|rfl
   ·exact .inr (ai1 _)
   ·exact .inl rfl
   ·exact .inr (F9 _)
 ·rename_i hc;refine o0 (F5 ?_);refine o0 (wf p ?_);refine o0 ?_;unfold newFields;refine N2 ?_;refine F5 ⟨_,rfl,"set_iterator",_,⟨_,J3 _ rfl,rfl⟩,ba.lookup,?_⟩;have p1:∀oI,eN w (s.heap.push oI) a o es ep t:=fun oI=>p.kept (F0 _ p.get);have fpok:∀b∈[s.heap.objs.size,a],b=a∨s.heap.objs.size<=b:=fun b hb=>by
   simp only[J9,L4,or_false]at hb;rcases hb with rfl|rfl
   ·exact .inr (F9 _)
   ·exact .inl rfl
  cases hb:byT w with
  |true =>
   exact h _ _ s.drawn _ [s.heap.objs.size,a] _ (jJ (w.params.setOrder a ep) es) (fun b o e=>F0 _ e) (Cq hh (o:=o) (t:=t) (ep:=ep) (K0 al) hb) ⟨⟨0,J3 _ rfl⟩,p1 _⟩ (F9 _) fpok
  |false =>
   have hd:(!t.plain&&decide (es.size > 1))=false:=by
    rw[hb]at hc;simpa using hc
   have hf:t.place.size=es.size:=by
    have:=p.fit;simp[N9.fits]at this;lia
   have up:Ri t.place:=by
    rcases p.go with z|z
    ·intro i j hij hj;have:=z (by lia);rw[this]at hd;simp at hd
     lia
    ·exact z
   exact h _ _ s.drawn es [s.heap.objs.size,a] _ (.refl _) (fun b o e=>F0 _ e) (Bc hh (o:=o) (t:=t) (ep:=ep) (K0 al) hb hd up hf) ⟨P6 _,J3 _ rfl,p1 _⟩ (F9 _) fpok
end
section
variable{prog:L1}{w:P9}{A:O0}{E:F3->F4->Prop}{s:F4}
theorem DW{r:J7}{Q:Bool->F4->Prop}(hT:s.TypeIs (.ref r) "set") (h:Q false s):K2 (L5 prog w) A (K6.List.listLengthHint (.ref r)) Q E s:=by
 unfold K6.List.listLengthHint;refine o0 (wpAny_specialOf hT PySem.F.slot_set_len.lookup ?_);generalize hid:("set.__len__":String)=id0
 wp_delta
 rw[show splitId id0=some ("set","__len__")from by subst hid;decide +kernel];subst hid;refine o0 (aj4 (T:="set") (b:=true) hT (by rw[isSubtype_type];kernel_rfl) ?_);refine wpAny_ite_split (fun hab=>absurd hab (by decide)) (fun _=>?_);refine wpAny_ite_split (fun _=>?_) (fun hab=>absurd (by decide +kernel) hab);refine o0 (ag4 hT ?_);exact F5 h
abbrev zi(vs:Array F3) (c:Nat):Obj:={ cls:=.type "list",data:=.seq vs c }
theorem vw{a:J7}{o:Obj}{es:Array (Int×F3)}{ep:Nat}{t:N9}{Q:List F3->F4->Prop}(hh:A.handled=none) (p:eN w s.heap a o es ep t)
  (h:∀s' (es':Array (Int×F3)),es'.toList.Perm es.toList->(∀b o,s.heap.get? b=some o->s'.heap.get? b=some o)->s'.gens=s.gens->s'.os=s.os->Q (es'.toList.map (·.2)) s') :
  K2 (L5 prog w) A (collect (.ref a)) Q E s:=by
 have al:a<s.heap.objs.size:=J4 p.get;have hn:=ai3 p.room;unfold collect;refine o0 (wpAny_runValue (X3 PySem.F.entry_proto_collect ?_));rw[U7 PySem.F.plain_proto_collect _];show K2 _ A.in1 (newList [] >>= fun l=>again (.builtin "list.__iadd__" ⟨[l,.ref a],[]⟩)) _ _ s;refine o0 (N2 ?_);refine F5 ⟨af4 PySem.F.plain_list_iadd _,X3 PySem.F.entry_list_iadd ?_⟩;rw[U7 PySem.F.plain_list_iadd _];generalize hH1:s.heap.push { cls:=.type "list",data:=.seq ([]:List F3).toArray }=H1;have k1:∀b o,s.heap.get? b=some o->H1.get? b=some o:=fun b o e=>by rw[<-hH1];exact F0 _ e
 have hS:H1.get? s.heap.objs.size=some (zi #[] 0):=by rw[<-hH1];exact J3 _ rfl
 have sz1:H1.objs.size=s.heap.objs.size+1:=by rw[<-hH1];exact R4 _ _
 have p1:eN w H1 a o es ep t:=p.kept (k1 _ _ p.get);show K2 _ A.in1 (K6.List.listExtendWith (.ref s.heap.objs.size) (.ref a) (.ref s.heap.objs.size)) _ _ { s with heap:=H1 };unfold K6.List.listExtendWith;refine o0 (ag4 (T:="set") (p1.typeIs (s:={ s with heap:=H1 })) ?_);have hne:s.heap.objs.size≠a:=W5 al;have h1:K6.List.listSameRef (.ref s.heap.objs.size) (.ref a)=false:=by simp[K6.List.listSameRef,hne]
 have h2:(ag1 "set"==ag1 "list")=false:=by decide
 have h3:(ag1 "set"==ag1 "tuple")=false:=by decide
 simp only[h1,h2,h3,al9,K1,if_false];have hh1:A.in1.handled=none:=hh;refine o0 (CD (s:={ s with heap:=H1 }) hh1 p1 fun I h' d' es' fp St hp k2 W st hI hfp=>?_);have hSf:s.heap.objs.size∉fp:=fun hm=>by
  rcases hfp _ hm with e|e
  ·exact hne e
  ·have e':H1.objs.size<=s.heap.objs.size:=e
   lia
 have szE:es'.size=es.size:=by have:=hp.length_eq;simpa using this
 have T2:F4.TypeIs { s with heap:=h',drawn:=d' } (.ref a) "set":=(p1.kept (k2 _ _ p1.get)).typeIs (s:={ s with heap:=h',drawn:=d' });refine o0 (R5 (DW T2 ?_));have post:∀s' (acc:Array F3) c',Moved (s.heap.objs.size::[I]) (fun a b=>b=a) { s with heap:=h',drawn:=d' } s'->s'.heap.get? s.heap.objs.size=some (zi acc c')->ItemsOf (PSe es') acc es.size ->
   K2 (L5 prog w) A (do match (<-load s.heap.objs.size).data with|.seq xs _=>ad0 xs.toList|_=>unsupported "internal:collect") Q E s':=by
  intro s' acc c' hm hS' hacc;refine o0 (wpAny_load hS' (F5 ?_));have eacc:acc.toList=es'.toList.map (·.2):=by
   apply List.ext_getElem?;intro i;rcases ae6 i es.size with hi|hi
   ·have:acc[i]?=some (acc[i]'(by rw[hacc.1];exact hi)):=S6 _;obtain⟨e,e1,e2⟩:=hacc.2 i _ this;rw[Array.getElem?_toList,this,e2,J6,Array.getElem?_toList,e1];rfl
   ·rw[Z3 (by simp[hacc.1];exact hi),Z3 (by simp;lia)]
  rw[eacc];refine h s' es' hp (fun b o e=>hm.heap b o ?_ (k2 b o (k1 b o e))) hm.gens hm.os;have hb:=J4 e;have hI':H1.objs.size<=I:=hI;rw[sz1]at hI';simp only[J9,L4,or_false,not_or];exact⟨K0 hb,K0 (J5 (P1 hb) hI')⟩
 have key:∀(R:ao3->F4->Prop) (h2:K7) (c:Nat),St 0 h2->(∀b o,b≠s.heap.objs.size->h'.get? b=some o->h2.get? b=some o)->h2.get? s.heap.objs.size=some (zi #[] c) ->
   (∀s' (acc:Array F3) c',Moved (s.heap.objs.size::[I]) (fun a b=>b=a) { s with heap:=h',drawn:=d' } s'->s'.heap.get? s.heap.objs.size=some (zi acc c')->ItemsOf (PSe es') acc es.size->R (.ok (.ret (.ref s.heap.objs.size))) s') ->
   ad5 (L5 prog w) A (.builtin "list.extend.loop" ⟨[.ref s.heap.objs.size,.ref I,.ref s.heap.objs.size],[]⟩) R { s with heap:=h2,drawn:=d' }:=by
  intro R h2 c st2 k3 hS2 hR;refine codeAny_extend_loopS W.toS hn _ hSf _ es.size 0 _ #[] c rfl (P6 _) st2 hS2 (ItemsOf.nil _) fun s' acc c' hm hS' hacc=>hR s' acc c' ⟨fun b o hb e=>hm.heap b o hb (k3 b o (fun q=>hb (by simp[q])) e),hm.gens,hm.drawn,hm.os,hm.toks⟩ hS' hacc
 have hS1:=k2 _ _ hS;refine wpAny_ite_split (fun _=>?_) (fun _=>F5 ⟨af4 PySem.F.plain_extend_loop _,?_⟩)
 ·refine o0 (ab0 ?_);refine o0 ?_;show K2 _ _ (updateSeq s.heap.objs.size (·.push .none) >>= fun _=>updateSeq s.heap.objs.size (·.pop)) _ _ _;refine o0 (wpAny_updateSeq hS1 rfl ?_);have hS2:=S0 (ab4 (·.push U6)) hS1 rfl;refine wpAny_updateSeq hS2 rfl ?_;have hS3:=S0 (ab4 (·.pop)) hS2 rfl;have oth:∀b o,b≠s.heap.objs.size->h'.get? b=some o->((h'.update s.heap.objs.size (ab4 (·.push U6))).update s.heap.objs.size (ab4 (·.pop))).get? b=some o :=
   fun b o hb e=>(ad6 _ _ (aa7 hb)).trans ((ad6 _ _ (aa7 hb)).trans e)
  refine F5 ⟨af4 PySem.F.plain_extend_loop _,?_⟩;exact key _ _ _ (W.frame 0 h' _ st fun b hb o e=>oth b o (fun q=>hSf (q▸hb)) e) oth hS3 post
 ·exact key _ h' 0 st (fun b o _ e=>e) hS1 post
end
end L2
namespace L2
open PySem PySem.Spec PyProof.Rows PySem.Calls
section
variable{prog:L1}{w:P9}{A:O0}{E:F3->F4->Prop}{s:F4}
theorem wQ{es es':Array (Int×F3)}(el:ElT prog w es.toList) (hp:es'.toList.Perm es.toList) {i:Nat}(hi:i<es'.toList.length) :
  ∃t,(es'.toList.map (·.2))[i]?=some (.str ((es'.toList.map fun e=>txt e.2).getD i ac6) t):=by
 obtain⟨x,t,e⟩:=el _ (hp.mem_iff.mp (P3 hi));refine⟨t,?_⟩;simp only[N7,J6,u8 hi,ab9,e];rfl
theorem yO{a:J7}{xs:List Str}{Q:F3->F4->Prop}(hh:A.handled=none) (hS:fj prog w s.heap a xs) (h64:xs.length<64)
  (k:∀ (s1:F4) (h':K7) (x:J7) (us:List F3) (c:Nat),(∀ b o,s.heap.get? b = some o → s1.heap.get? b = some o) → s1.gens = s.gens → s1.os = s.os → s1.heap.objs.size ≤ x → (∀ b o,s1.heap.get? b = some o → h'.get? b = some o) → h'.get? x = some (ah6 "list" us.toArray c) →
   us.length=(cO xs).length->(∀i,(hi:i<(cO xs).length)->∃t,us[i]?=some (.str (cO xs)[i] t))->Q (.ref x) { s1 with heap:=h' }) :
  K2 (L5 prog w) A (call (.builtin "sorted") [.ref a]) Q E s:=by
 obtain⟨o,es,ep,t,p,pm⟩:=hS;refine call_function_entry kind_sorted plain_sorted entry_sorted (args_sorted1 _) ?_;unfold K6.«sorted»;refine o0 (m:=checkCount "sorted" 1 1 _) (F5 ?_);refine o0 (vw (A:=A.in1) hh p.b fun s1 es' hp kp0 eg eo=>?_);generalize hvs:es'.toList.map (·.2)=vs;have cS:vs.length=xs.length:=by rw[<-hvs,F1,hp.length_eq,<-pm.length_eq,F1]
 generalize hns:es'.toList.map (fun e=>txt e.2)=ns;have hnl:ns.length=vs.length:=by rw[<-hns,<-hvs];simp
 have pmn:ns.Perm xs:=by rw[<-hns];exact(jb hp).trans pm
 have at_:∀i,i<vs.length->∃t,vs[i]?=some (.str (ns.getD i ac6) t):=fun i hi=>by
  rw[<-hvs,<-hns];exact wQ p.el hp (by rw[<-hvs,F1]at hi;exact hi)
 have hz:vs.length<64:=by rw[cS];exact h64
 have hz':vs.length<=F7:=by rw[ae2];lia
 refine o0 (wpAny_newList ?_ hz');have new:(s1.heap.push (ah6 "list" vs.toArray 0)).get? s1.heap.objs.size=some (ah6 "list" vs.toArray 0):=J3 _ rfl;have kp2:∀b o,s1.heap.get? b=some o->(s1.heap.push (ah6 "list" vs.toArray 0)).get? b=some o:=fun b o e=>F0 _ e;show K2 _ _ _ _ _ { s1 with heap:=s1.heap.push (ah6 "list" vs.toArray 0) };refine o0 (R5 (Q6 slot_list_sort ⟨_,new,rfl⟩ entry_list_sort ?_ (args_list_sort _)));refine vD (O:=Er) (κ:=oneType') (key:=fun i=>ns.getD i ac6) new hz (fun t Q' two ht q=>?_) (fun i j t C hi hj ht q=>?_) fun pp c h' hpp hr hs hx=>?_
 ·exact PySem.W.kas_kind (T:=.type "str") two (fun v hv=>by
   obtain⟨i,hi⟩:=S1.mp hv;obtain⟨t,g⟩:=at_ i (F8.mp hi).1;rw[g]at hi;cases hi;exact PySem.W.Looks.of_pure rfl) rfl rfl q
 ·obtain⟨t1,g⟩:=at_ i hi;obtain⟨u1,g'⟩:=at_ j hj;show K2 _ _ (keyLt' _ _ _) _ _ _;rw[eY g,eY g'];exact PySem.W.kas_lt_str q
 ·refine⟨_,rfl,F5 ⟨_,rfl,?_⟩⟩;have hlt:∀i∈pp.toList,i<vs.length:=fun i hi=>aa0.mp (hpp.mem_iff.mp hi);have es:(pp.toList.map fun i=>ns.getD i ac6)=cO xs:=by
   have hp':pp.toList.Perm (R8 ns.length):=by rw[hnl];exact hpp
   have hm:=hp'.map fun i=>ns.getD i ac6;rw[rM]at hm;refine pO (hm.trans pmn) ?_;rw[aa5];intro i j hi hj hij;have sz:pp.size=vs.length:=hpp.size;rw[F1,L0]at hi hj;have:=hr i j (ai6 hij) (by lia);have e1:kp_ pp i=pp.toList[i]'(by simpa using hi):=by simp[kp_,ac0,hi]
   have e2:kp_ pp j=pp.toList[j]'(by simpa using hj):=by simp[kp_,ac0,hj]
   have g:leS (ns.getD (kp_ pp i) ac6) (ns.getD (kp_ pp j) ac6)=true:=by
    have z:ltS (ns.getD (kp_ pp j) ac6) (ns.getD (kp_ pp i) ac6)=false:=this;simp only[leS,z,Bool.not_false]
   rw[e1,e2]at g;simpa using g
  have ln:(cO xs).length=vs.length:=by rw[<-es,F1,L0];exact hpp.size
  refine k s1 h' s1.heap.objs.size (gf vs pp) c kp0 eg eo (F9 _) (fun b o e=>hs b o (K0 (J4 e)) (kp2 b o e)) hx ((jY hpp).trans ln.symm) fun i hi=>?_;have hi':i<pp.toList.length:=by rw[L0];rw[show pp.size=vs.length from hpp.size];lia
  obtain⟨t1,g⟩:=at_ _ (hlt _ (P3 hi'));refine⟨t1,?_⟩;have e2:(cO xs)[i]?=some (ns.getD pp.toList[i] ac6):=by rw[<-es,J6,u8 hi'];rfl
  have e3:(cO xs)[i]=ns.getD pp.toList[i] ac6:=by rw[u8 hi]at e2;exact Q7 e2
  rw[e3,gf,J6,u8 hi',ab9,eY g]
end
theorem pY:∀(xs zs:List Str),zs.Nodup->(xs.foldl gT zs).Nodup
 |[],_,h=>h
 |x::xs,zs,h=>by
  rw[ae4];refine pY xs _ ?_;unfold gT;split
  ·exact h
  ·rename_i hx;rw[af5];exact⟨h,by simp,fun a ha b hb=>by rw[N5]at hb;subst hb;intro q;subst q;exact hx ha⟩
theorem pS{l l':List Str}(h:l.Nodup) (h':l'.Nodup) (e:∀x,x∈l↔x∈l'):l.Perm l':=by
 rw[List.perm_iff_count];intro a;rw[h.count,h'.count];simp only[e a]
theorem mH{l l':List Str}(h:l.Perm l'):cO l=cO l':=pO ((iO l).trans h) (qo l)
section
variable{X:Cx}{ae:List (J7×Obj)}{s:F4}{σ:St}{H:Hp}{M:DH}
theorem fj.nd{prog:L1}{w:P9}{h:K7}{a:J7}{xs:List Str}(z:fj prog w h a xs):xs.Nodup:=by
 obtain⟨o,es,ep,t,p,q⟩:=z;exact q.nodup_iff.mp p.nd
theorem Inv.with{s':F4}(I:Inv X ae σ H s) (k:∀b u,s.heap.get? b=some u->s'.heap.get? b=some u) (g:s'.gens=s.gens) (o:s'.os=s.os):Inv X ae σ H s':=by
 have I1:Inv X ae σ H { s with heap:=s'.heap,toks:=s'.toks }:=I.kept k;exact⟨I1.ok,o.trans I1.os,by rw[g];exact I1.bare,I1.base,I1.loc,I1.cell,I1.free,I1.freeC,I1.pin,I1.hok,I1.len⟩
theorem Bz{a:M9}{ta:TEd}{R:D->DH->Prop}{Q:F3->F4->Prop}{p pos:Pos}(hc:X.calm=true) (hg:Gl X "set") (hm:X.mg "set"=none) (ha:PEd X a ta) (he:K4 [a] X.env=(false,ad3 a X.env)::K4 [] X.env)
  (hpl:(V7 pos (K4 [] X.env)).any (·.1)=false) (I:Inv X ae σ H s) (h:up X.K ta σ H (fun v H1=>∃(x:D) (M1:DH),R x M1/\HR X.K M1 H1/\aT X.K M1 H1 (rdM M1 x) v/\Ext M H M1 H1))
  (hx:∀x M1,R x M1->∃xs:List Str,rdM M1 x=.lst (xs.map D.str)/\xs.length<63)
  (k:∀(c:J7) s' x M1 H1 xs,Inv X ae σ H1 s'->R x M1->rdM M1 x=.lst (xs.map D.str)->HR X.K M1 H1->Ext M H M1 H1->fj X.prog X.w s'.heap c (eI xs)->eh X ae H1 c->Q (.ref c) s') :
  K2 (L5 X.prog X.w) X.A (ad3 (.Call (.Name "set" p) [a] [] pos) X.env) Q X.xe s:=by
 refine ad8 (iF I hg hm (u:=.type "set") (by kernel_rfl) ?_ (by decide) (by decide));refine W9 ?_ he hpl;rw[he];show K2 _ _ (spliced ((false,ad3 a X.env)::V7 pos (K4 [] X.env))) _ _ s;refine Calls.spliced_cons (thn (ha ae s σ H _ I h) fun u s1 ⟨v,H1,I1,r1,x,M1,q1,hr1,rv,e1⟩=>?_);refine Calls.spliced_nil ?_;obtain⟨xs,ex,hl⟩:=hx x M1 q1;rw[ex]at rv;obtain⟨l,vs,rfl,sq,rl⟩:=rv;cases r1;obtain⟨its,rvs,pl,hz⟩:=I1.list (SqL.of sq);have hn:xs.length=its.length:=by rw[<-rvs.length,<-rl.length,F1]
 have hb:xs.length+1<ae7:=by have e:ae7=4096:=rfl;rw[e];lia
 refine uk (I1.ok.hd hc) pl.isList (by simp[hn]) (fun i hi=>?_) hb fun h' tk hS kp=>?_
 ·obtain⟨t,g⟩:=A9 rl rvs hi;exact⟨t,by simpa using g⟩
 ·exact k _ _ x M1 H1 xs (I1.kept kp) q1 ex hr1 e1 hS (I1.fpOk (F9 _) (I1.hok.fresh (F9 _)))
theorem vA:∀{ns:List Str}{us:List F3},us.length=ns.length->(∀i,(hi:i<ns.length)->∃t,us[i]?=some (.str ns[i] t))->ay (ns.map V.str) us
 |[],us,h,_=>by
  have:us=[]:=W3.mp h;subst this;exact .nil
 |n::ns,[],h,_=>by simp at h
 |n::ns,u::us,h,q=>by
  obtain⟨t,g⟩:=q 0 (by simp);have e:u=.str n t:=by simpa using g
  subst e;exact .cons ⟨t,rfl⟩ (vA (by simpa using h) fun i hi=>q (i+1) (Nat.succ_lt_succ hi))
theorem qv{K:F2}:∀{ns:List Str},ao K M H (ns.map D.str) (ns.map V.str)
 |[]=>rfl
 |n::ns=>⟨_,_,rfl,rfl,qv⟩
end
end L2
namespace L2
open PySem PySem.Spec PyProof.Rows
section
variable{X:Cx}{o i:M9}{to ti:TEd}{pos:Pos}
end
section
variable{P:L1}{w:P9}{K:F2}{mg:Str->Option F3}{base:K7}{f:J7}{fd:L8}
theorem Fun.okR{x qual:Str}{st:ac2}{f:J7}{fd:L8}{N ps:List Str}{k n:Nat}{S:SpD}(F:Fun K x qual st f fd) (hn:ps.length=n) (Sc:aB N ps (aj st))
  (hbody:∀ (cdv:F3) (A:O0) (outer:List Env) (s:F4) (H:Hp) (E:XK),cU k (A.deeper (an0 qual (aj st) s.heap.objs.size f cdv)) →
   ∃t:TSd,QSs (qa CX0 P w K mg base N qual (aj st) f cdv A outer s H E).nox (dG st) t/\∀ds M R (G:Prop),S ds M R->(t { nx:=fun _ M'=>R .non M',rt:=R } (iT N ds) M->G)->G):bA P w K mg base CX0 (k+1) f fd ps (spD K n S):=by
 refine F.okD hn Sc fun cdv A outer s H E hr=>?_;obtain⟨t,h1,h2⟩:=hbody cdv A outer s H E hr;exact⟨t,zd h1,fun ds M R _ hS=>h2 ds M R _ hS id⟩
end
end L2
namespace L2
open PySem PyProof.Rows
section
variable{prog:L1}{w:P9}{A:O0}{E:F3->F4->Prop}{s:F4}{O:Z5}{key:Keyed->O.α}{a0:List Keyed}{κ:SortKind}
structure SB(a0:List Keyed) (κ:SortKind) (st:SortSt):Prop where
 perm:(arrOf st).toList.Perm a0
 kind:ak8 st=κ
 fail:failedOf st=none
theorem SB.size{st:SortSt}(h:SB a0 κ st):(arrOf st).size=a0.length:=by rw[<-L0];exact h.perm.length_eq
end
end L2
namespace L2
open PySem PySem.SetTable
variable{mask:Nat}{h:Int}
variable{mask:Nat}
end L2
namespace L2
open PySem PySem.SetTable PySem.SeqAt
structure TK(prog:L1) (w:P9) (τ:Type) where
 is:K7->τ->F3->Prop
 hash:τ->Int
 room:O0->Prop
 pyHash:∀{A:O0} {E:F3->F4->Prop} {s:F4} {x:τ} {v:F3} {Q:Int->F4->Prop},room A->is s.heap x v->(∀t,s.toks<=t->Q (hash x) { s with toks:=t })->K2 (L5 prog w) A (PySem.pyHash v) Q E s
 eqB:∀{A:O0} {s:F4} {x y:τ} {v u:F3},room A->is s.heap x v->is s.heap y u->∃b:Bool,(b=true↔x=y)/\EqAt A s v u b
 quiet:∀{A:O0} {E:F3->F4->Prop} {s:F4} {x:τ} {v:F3} {Q:Bool->F4->Prop},room A->is s.heap x v->Q true s->K2 (L5 prog w) A (eqIsQuiet 8 v) Q E s
 noCls:∀{A:O0} {E:F3->F4->Prop} {s:F4} {x:τ} {v:F3} {Q:Bool->F4->Prop},room A->is s.heap x v->Q false s->K2 (L5 prog w) A (ofAClassStatement 8 v) Q E s
 byV:∀{A:O0} {E:F3->F4->Prop} {s:F4} {x:τ} {v:F3} {Q:Bool->F4->Prop},room A->is s.heap x v->(∀b,Q b s)->K2 (L5 prog w) A (hashByValue 8 v) Q E s
 ref:∀{h:K7} {x:τ} {v:F3},is h x v->∃a,v=.ref a
variable{prog:L1}{w:P9}{τ:Type}{κ:TK prog w τ}{A:O0}{E:F3->F4->Prop}{s:F4}
variable{prog:L1}{w:P9}{τ:Type}{κ:TK prog w τ}{A:O0}{E:F3->F4->Prop}{s:F4}
end L2
namespace L2
open PySem PySem.Spec PyProof.Rows PySem.SeqAt
inductive KD where
 |int (i:Int)|str (x:Str)|tup (ks:List KD)
 deriving Inhabited
def hK(w:P9):Nat->KD->Int
 |_,.int i=>hashInt i
 |_,.str x=>hashStr w x
 |0,.tup _=>0
 |n+1,.tup ds=>reduceHash (K6.Tuple.tupleHashOf (ds.map (hK w n)))
end L2
namespace L2
open PySem PySem.Spec PyProof.Rows
end L2
namespace L2
open PySem PySem.Spec PyProof.Rows PySem.SeqAt
mutual
def Cm:KD->KD->Prop
 |.int _,.int _=>True
 |.str _,.str _=>True
 |.tup a,.tup b=>Cms a b
 |_,_=>False
def Cms:List KD->List KD->Prop
 |a::as,b::bs=>Cm a b/\Cms as bs
 |_,_=>True
end
end L2
namespace L2
open PySem PySem.W PySem.Calls PyProof.Rows PySem.SeqAt
end L2
namespace L2
open PySem PySem.Spec PyProof.Rows PySem.Calls PySem.SeqAt
mutual
def kd:KD->D
 |.int i=>.int i
 |.str x=>.str x
 |.tup ks=>.tup (kds ks)
def kds:List KD->List D
 |[]=>[]
 |k::ks=>kd k::kds ks
end
mutual
theorem Bk:∀{a b:KD},kd a=kd b->a=b
 |.int _,.int _,h=>by simp[kd]at h;rw[h]
 |.int _,.str _,h=>by simp[kd]at h
 |.int _,.tup _,h=>by simp[kd]at h
 |.str _,.int _,h=>by simp[kd]at h
 |.str _,.str _,h=>by simp[kd]at h;rw[h]
 |.str _,.tup _,h=>by simp[kd]at h
 |.tup _,.int _,h=>by simp[kd]at h
 |.tup _,.str _,h=>by simp[kd]at h
 |.tup a,.tup b,h=>by simp only[kd,D.tup.injEq]at h;rw[sH h]
theorem sH:∀{a b:List KD},kds a=kds b->a=b
 |[],[],_=>rfl
 |[],_::_,h=>by simp[kds]at h
 |_::_,[],h=>by simp[kds]at h
 |a::as,b::bs,h=>by
  simp only[kds,S4]at h;rw[Bk h.1,sH h.2]
end
end L2
namespace L2
open PySem PySem.Spec PyProof.Rows PySem.Calls PySem.SeqAt PySem.W
open Classical in
instance decKs:DecidableEq (List KD):=fun _ _=>propDecidable _
end L2
namespace L2
open PySem PySem.Spec PyProof.Rows PySem.Calls PySem.SeqAt
end L2
namespace L2
open PySem PySem.Spec PyProof.Rows
end L2
namespace L2
open PySem PySem.Spec PyProof.Rows PySem.Calls PySem.SeqAt
end L2
namespace L2
open PySem PySem.Spec PyProof.Rows
section
open PySem.Calls PySem.SeqAt
variable{X:Cx}{ae:List (J7×Obj)}{s:F4}{σ:St}{H:Hp}{M:DH}{K:F2}
end
end L2
namespace L2
open PySem PySem.Spec PyProof.Rows PySem.Calls PySem.SeqAt
end L2
namespace L2
open PySem PySem.Spec PyProof.Rows PySem.Builtin PySem.Builtin.Str StrLaws
end L2
namespace L2
open PySem PySem.Spec PyProof.Rows
open AutoSeq1 (wpAny_loadPart')
theorem bT.is{P:L1}{w:P9}{H:Hp}{h:K7}{a:J7}{o:HO}(x:bT P w H h a o):∃u,h.get? a=some u:=by
 cases o with
 |lst xs=>obtain⟨_,_,_,_,e⟩:=x;exact⟨_,e⟩
 |tup xs=>obtain⟨_,_,_,ob,e,_⟩:=x;exact⟨_,e⟩
 |dK kvs=>obtain⟨_,_,_,_,o,_,_,e,_⟩:=x;exact⟨_,e⟩
 |dT kvs=>obtain⟨_,_,_,_,o,_,_,e,_⟩:=x;exact⟨_,e⟩
 |set S n=>obtain⟨o,_,_,_,e,_⟩:=x;exact⟨_,e⟩
 |ins C dx fs=>obtain⟨_,_,_,e,_⟩:=x;exact⟨_,e⟩
 |own y=>exact x
 |xd fs=>obtain⟨_,⟨_,_,_,e,_⟩,_⟩:=x;exact⟨_,e⟩
 |rng lo hi=>obtain⟨_,_,_,e⟩:=x;exact⟨_,e⟩
 |frz ob u=>obtain⟨e,_⟩:=x;exact⟨_,e⟩
 |tbl ps=>exact⟨_,x⟩
 |met f y=>exact⟨_,x⟩
 |ext φ=>exact x.2.1
def xy:SpD:=fun _ _ _=>False
theorem xx{P:L1}{w:P9}{K:F2}{mg:Str->Option F3}{base:K7}{CX:CXT}{k n:Nat}{f:J7}{fd:L8}{ps:List Str}:bA P w K mg base CX k f fd ps (spD K n xy) :=
 ⟨fun vs H Q E h=>by obtain⟨_,_,_,_,_,_,h,_⟩:=h;exact h.elim,fun A outer s H args us vs Q E _ _ _ _ h=>by obtain⟨_,_,_,_,_,_,h,_⟩:=h;exact h.elim⟩
end L2
namespace L2
open PySem PySem.Spec PySem.Calls PyProof.Rows PySem.W PySem.Builtin PySem.Builtin.ObjectAttr PySem.Builtin.Getset_descriptor
end L2
namespace L2
open PySem PySem.Spec PyProof.Rows
def E3(j:Nat) (E:gj):gj where
 nx:=fun Δ M=>∃M3,LeM M3 M/\E.nx (Δ.set j none) M3
 bk:=fun Δ M=>∃M3,LeM M3 M/\E.bk (Δ.set j none) M3
 ct:=fun Δ M=>∃M3,LeM M3 M/\E.ct (Δ.set j none) M3
 rt:=fun d M=>∃M3,LeM M3 M/\E.rt d M3
def vO(K:F2) (P:J7):F2:=K.filter fun p=>p.1 != P
theorem kY{P a:J7}(h:a≠P):∀K:F2,(vO K P).lookup a=K.lookup a
 |[]=>rfl
 |(b,o)::K=>by
  have ih:=kY h K;unfold vO at ih ⊢
  by_cases hb:b=P
  ·rw[List.filter_cons_of_neg (by simp[hb]),ih,N8,beq_eq_false_iff_ne.mpr (fun e=>h (e.trans hb))]
  ·rw[List.filter_cons_of_pos (by simp[hb]),N8,N8,ih]
theorem qi{P:J7}:∀K:F2,(vO K P).lookup P=none
 |[]=>rfl
 |(b,o)::K=>by
  have ih:=qi (P:=P) K;unfold vO at ih ⊢
  by_cases hb:b=P
  ·rw[List.filter_cons_of_neg (by simp[hb]),ih]
  ·rw[List.filter_cons_of_pos (by simp[hb]),N8,beq_eq_false_iff_ne.mpr (fun e=>hb e.symm),ih]
theorem wF{K:F2}{P:J7}{h:K7}(X:K.In h):(vO K P).In h:=fun a o e=>by
 by_cases ha:a=P
 ·subst ha;rw[qi]at e;cases e
 ·rw[kY ha]at e;exact X a o e
end L2
namespace L2
open PySem PySem.Spec PySem.Calls PyProof.Rows
end L2
namespace L2
open PySem PySem.Spec PyProof.Rows
end L2
namespace L2
open PySem PySem.Spec PyProof.Rows PySem.Calls PySem.SeqAt
end L2
namespace L2
open PySem PySem.Spec PyProof.Rows PySem.Calls PySem.SeqAt PySem.W
end L2
namespace L2
open PySem PySem.Spec PyProof.Rows PySem.Calls
theorem oo(xs:List Str):(eI xs).Nodup:=pY xs [] .nil
theorem uf{xs ys:List Str}(h:∀x,x∈xs↔x∈ys):cO (eI xs)=cO (eI ys):=mH (pS (oo _) (oo _) fun x=>by rw[lN,lN];exact h x)
section
variable{X:Cx}
def dST(ta:TEd):TEd:=fun Δ M Q=>ta Δ M fun x M1=>∃xs:List Str,rdM M1 x=.lst (xs.map D.str)/\xs.length<63/\Q (.lst ((cO (eI xs)).map D.str)) M1
theorem De{a:M9}{ta:TEd}{p0 p1 q0 q1:Pos}(hc:X.calm=true) (hgS:Gl X "sorted") (hmS:X.mg "sorted"=none) (hg:Gl X "set") (hm:X.mg "set"=none) (ha:QEd X a ta)
  (he0:K4 [.Call (.Name "set" p1) [a] [] q1] X.env=(false,ad3 (.Call (.Name "set" p1) [a] [] q1) X.env)::K4 [] X.env:=by rfl)
  (he1:K4 [a] X.env=(false,ad3 a X.env)::K4 [] X.env:=by rfl)
  (hp0:(V7 q0 (K4 [] X.env)).any (·.1)=false:=by rfl) (hp1:(V7 q1 (K4 [] X.env)).any (·.1)=false:=by rfl) :
  QEd X (.Call (.Name "sorted" p0) [.Call (.Name "set" p1) [a] [] q1] [] q0) (dST ta):=by
 simp only[QEd.eq]at *
 intro ae s σ H Q I ⟨Δ,M,R,sr,hr,q,k⟩;refine ad8 (iF I hgS hmS (u:=.builtin "sorted") (by kernel_rfl) ?_ (by decide) (by decide));refine PyProof.Rows.callWith_builtin1 ?_ he0 hp0;rw[he0];show K2 _ _ (spliced ((false,ad3 _ X.env)::V7 q0 (K4 [] X.env))) _ _ s;refine Calls.spliced_cons ?_;refine Bz (M:=M) hc hg hm ha he1 hp1 I ⟨Δ,M,_,sr,hr,q,fun x M1 v H1 q1 e1 hr1 rv=>⟨x,M1,q1,hr1,rv.rd hr1,e1⟩⟩ (fun x M1 ⟨xs,ex,hl,_⟩=>⟨xs,ex,hl⟩) fun c s1 x M1 H1 xs' I1 ⟨xs,ex,hl,q2⟩ ex' hr1 e1 hS fc=>?_;have exx:xs'=xs:=by
  have:=ex'.symm.trans ex;simp only[D.lst.injEq]at this;exact(List.map_inj_right (fun a b h=>by simpa using h)).mp this
 subst exx;refine Calls.spliced_nil ?_;have cS:(eI xs').length<64:=by
  have:=lb xs'
  lia
 refine yO (I1.ok.hd hc) hS cS fun s4 h' z us cc kp0 eg eo hzz kp1 gz hul hat=>?_;have I3:Inv X ae σ H1 s4:=I1.with kp0 eg eo
 have I4:=I3.laid (t':=s4.toks) (o:=.lst ((cO (eI xs')).map V.str)) kp1 hzz (show bT X.prog X.w _ h' z (.lst _)from⟨by
  rw[F1,(iO _).length_eq,ae2];lia,us,cc,vA hul hat,gz⟩)
 refine⟨.ref z,_,I4,rfl,eM hr1 (I3.hok.fresh hzz) qv fun w H' a b c=>?_⟩;exact k _ _ _ _ q2 (e1.trans a) b c
end
section
variable{X:Cx}{scope:aa1}{cl:List (Str×J7)}{ms:List Bool}{ai:List Str}{elt t0 i0 t1 i1 t2 i2:M9}{f0 f1 f2:List M9}{pos:Pos}{w0 w1 w2:TId}{g0 g1 g2:GD}{tc0 tc1 tc2:TTd}{te:TEd}
theorem wC{i:Nat}{x:Str}{spos pos':Pos}(hN:X.N.Nodup) (hix:X.N[i]?=some x) (hx:X.env.scope.names.lookup x=some .local)
  (hsw:ae0 (.ListComp elt [⟨t0,i0,f0,0⟩,⟨t1,i1,f1,0⟩,⟨t2,i2,f2,0⟩] scope pos) (some (.Name x pos')) spos.line X.env=ad0 true) (S:cK X scope cl ms ai) (cp:X.calm=true) (hi:QId X t0 i0 w0) (hg0:PGa X scope cl ai t0 g0) (hif0:∀C s H ex,QIf (ax X scope cl (X.N++ai) C s H ex) f0 tc0)
  (hi1:∀C s H ex,QId (ax X scope cl (X.N++ai) C s H ex) t1 i1 w1) (hg1:PGa X scope cl ai t1 g1) (hif1:∀C s H ex,QIf (ax X scope cl (X.N++ai) C s H ex) f1 tc1)
  (hi2:∀C s H ex,QId (ax X scope cl (X.N++ai) C s H ex) t2 i2 w2) (hg2:PGa X scope cl ai t2 g2) (hif2:∀C s H ex,QIf (ax X scope cl (X.N++ai) C s H ex) f2 tc2) (he:∀C s H ex,QEd (ax X scope cl (X.N++ai) C s H ex) elt te)
  (hs:∀x,N3 i0 X.env x=ad0 x:=by intro _;rfl) (hs1:∀C x,N3 i1 (am0 scope cl C X.env) x=ad0 x:=by intro _ _;rfl) (hs2:∀C x,N3 i2 (am0 scope cl C X.env) x=ad0 x:=by intro _ _;rfl) :
  QSd X (.Assign [.Name x pos'] (.ListComp elt [⟨t0,i0,f0,0⟩,⟨t1,i1,f1,0⟩,⟨t2,i2,f2,0⟩] scope pos) spos) (qq i (AU ms ai.length w0 g0 tc0 w1 g1 tc1 w2 g2 tc2 te)):=by
 simp only[QEd.eq,QSd.eq,QId.eq,QIf.eq]at *
 obtain⟨gv0,pg0,kg0⟩:=hg0;obtain⟨gv1,pg1,kg1⟩:=hg1;obtain⟨gv2,pg2,kg2⟩:=hg2;refine(jV (tc:=upT X.K tc0) (p:=i0.pos) (B:=qh (upI X.K w1) gv1 (upT X.K tc1) (qh (upI X.K w2) gv2 (upT X.K tc2) (ku (up X.K te)))) hN hix hx hsw S cp hi pg0 hif0 (fun _ _ _ _ _ c=>?_) hs).conv fun D σ H hh=>?_
 ·exact oY (wi:=upI X.K w1) (tc:=upT X.K tc1) c (oY (wi:=upI X.K w2) (tc:=upT X.K tc2) c (oX (te:=up X.K te) (k:=2) (p:=i2.pos) c (he _ _ _ _) fun _ _ _=>rfl) (fun _ _ _=>rfl) (hs2 _) (hi2 _ _ _ _) (pg2 _ _ _ _) (hif2 _ _ _ _) (k:=1) (p:=i1.pos) fun _ _ _=>rfl) (fun _ _ _=>rfl) (hs1 _) (hi1 _ _ _ _) (pg1 _ _ _ _) (hif1 _ _ _ _) fun _ _ _=>rfl
 ·obtain⟨Δ,M,E,sr,hr,q,k⟩:=hh;unfold qq AU at q;exact pR kg0 (fun h=>oZ kg1 (fun h=>oZ kg2 sO h) h) σ H _ ⟨Δ,M,_,sr,hr,q,fun d M1 v H1 q1 e1 hr1 rv=>k.nx _ M1 _ H1 q1 e1 hr1 ((sr.ext e1).set i rv)⟩
end
end L2
namespace L2
open PySem PySem.Spec PyProof.Rows
end L2
namespace L2
open PySem PySem.Spec PyProof.Rows PySem.Calls PySem.SeqAt
section
variable{X:Cx}{ae:List (J7×Obj)}{σ σ':St}{H2 H':Hp}{s2 s':F4}{scope:aa1}{cl:List (Str×J7)}{ms:List Bool}{ai:List Str}{tg iter kx vx:M9}{g:TG}{tk tv:TE}{pos:Pos}
def nW(Put:Hp->V->V->(Hp->Prop)->Prop) (J:It) (g:TG) (tk tv:TE) (W:Nat->Nat->St->Hp->Prop) (Z:Hp->Prop):Prop :=
 ∀i m σ H,W i m σ H->(J.stop i H/\Z H) ∨
  (J.go i H/\∀x H',J.yld i H x H'->g x σ H' fun σ2 H2=>tk σ2 H2 fun y H3=>tv σ2 H3 fun v H4=>Put H4 y v fun H5=>∃m',m'<m/\W (i+1) m' σ2 H5)
theorem kn(hu:X.A.units<ai7) (S:cK X scope cl ms ai) (cp:X.calm=true)
  (hg:∀C s H ex,PG (ax X scope cl (X.N++ai) C s H ex) tg g) (hk:∀C s H ex,PE (ax X scope cl (X.N++ai) C s H ex) kx tk) (hv:∀C s H ex,PE (ax X scope cl (X.N++ai) C s H ex) vx tv)
  (I2:Inv X ae σ H2 s2) {it:J7} {fp:List J7} {tn:Nat->K7->Prop} {J:It} (T:mF X.prog X.w X.K tg J fp it tn) (st2:tn 0 s2.heap) (f2:∀b∈fp,eh X ae H2 b)
  {D:J7} {Put:Hp->V->V->(Hp->Prop)->Prop} (hput:∀(C:J7) (s0:F4) (H0:Hp) (ex:List J7) (ae:List (J7×Obj)) (σ:St) (H:Hp) (s:F4) (y v:V) (u r:F3) (F:Hp->Prop),Inv (ax X scope cl (X.N++ai) C s0 H0 ex) ae σ H s->aN y u->aN v r->Put H y v F->K2 (L5 X.prog X.w) X.A (dictSet D u r) (fun _ s'=>∃H',Inv (ax X scope cl (X.N++ai) C s0 H0 ex) ae σ H' s'/\F H') (fun _ _=>False) s)
  {W:Nat->Nat->St->Hp->Prop} {Z:Hp->Prop} {m0:Nat} (w0:W 0 m0 (fv ms ai.length σ) H2) (turn:nW Put J g tk tv W Z)
  {RR:J7->ao3->F4->Prop} {E:F3->F4->Prop}
  (hRR:∀(s':F4) (σ':St) (H':Hp),Inv (ax X scope cl (X.N++ai) s2.heap.objs.size s2 H2 fp) [] σ' H' s'->Z H'->RR s2.heap.objs.size (.ok .next) s') :
  K2 (L5 X.prog X.w) X.A (newFunctionEnv scope X.env.globals cl [] X.env.qual none .none (some X.env)) (fun cenv s₄ =>
   ad5 (L5 X.prog X.w) X.A (.compStart (.DictComp kx vx [⟨tg,iter,[],0⟩] scope pos) 0 (.ref it) (.ref D) { cenv with scope:=relabel scope X.env }) (RR cenv.locals) s₄) E s2:=by
 refine wpAny_newFunctionEnv S.ncell (by intro y hy;simp at hy) (fun h₁ hns₁ hsb₁=>?_) S.kind
 try dsimp only at hns₁ hsb₁ ⊢
 have hlt:∀b∈fp,b<s2.heap.objs.size:=fun b hb=>by
  obtain⟨o,e,_⟩:=T.obj _ _ st2 b hb;exact J4 e
 have old:∀b o,s2.heap.get? b=some o->h₁.get? b=some o:=fun b o e=>hsb₁.extBut b o (K0 (J4 e)) (F0 _ e);have loop:∀s₃:F4,s₃={ s2 with heap:=h₁,toks:=s2.toks+([]:List (Str×F3)).length } ->
   ad5 (L5 X.prog X.w) X.A (.compLoop (.DictComp kx vx [⟨tg,iter,[],0⟩] scope pos) 0 (.ref it) (.ref D) (am0 scope cl s2.heap.objs.size X.env)) (RR s2.heap.objs.size) s₃:=by
  rintro s₃ rfl;have I3:Inv (ax X scope cl (X.N++ai) s2.heap.objs.size s2 H2 fp) [] (fv ms ai.length σ) H2 { s2 with heap:=h₁,toks:=s2.toks+([]:List (Str×F3)).length } :=
   tL I2 S f2 hlt (F9 _) rfl I2.bare old hns₁
  have fpc:∀{H:Hp},(∀b∈fp,H b=none)->∀b∈fp,eh (ax X scope cl (X.N++ai) s2.heap.objs.size s2 H2 fp) [] H b:=fun hn b hb =>
   ⟨hn b hb,K0 (hlt b hb),(qZ I2 S f2 hlt (F9 _)).exfs b hb,.inl hb,fun x c e=>(f2 b hb).2.2.2.2.1 x c (S.sub x c e),fun p hp=>absurd (show p∈([]:List (J7×Obj))from hp) (by simp)⟩
  refine gx (env:=am0 scope cl s2.heap.objs.size X.env)
   (fun n s'=>∃i σ' H',Inv (ax X scope cl (X.N++ai) s2.heap.objs.size s2 H2 fp) [] σ' H' s'/\tn i s'.heap/\(∀b∈fp,H' b=none)/\W i n σ' H') ?_ m0
   ⟨0,_,H2,I3,T.keep _ _ _ st2 fun b _ o e=>old b o e,fun b hb=>(f2 b hb).1,w0⟩
  rintro n s' ⟨i,σ',H',I4,st4,fr4,w4⟩;rcases turn i n σ' H' w4 with⟨stop,hZ⟩|⟨go,step⟩
  ·refine thn (T.done (ax X scope cl (X.N++ai) s2.heap.objs.size s2 H2 fp) rfl rfl rfl cp i _ s' _ H' (fun _ _=>False) I4 (fpc fr4) st4 stop) fun r s4 ⟨hr,I5⟩=>?_;subst hr;exact hRR s4 σ' H' I5 hZ
  ·refine thn (T.item (ax X scope cl (X.N++ai) s2.heap.objs.size s2 H2 fp) rfl rfl rfl cp i _ s' _ H' (fun _ _=>False) I4 (fpc fr4) st4 go) fun r s5 ⟨u,hr,h5⟩=>?_;subst hr;refine thn h5 fun _ s6 ⟨x,H6,I6,r6,y6,st6,fr6⟩=>?_;have I6':=I6.pinned (fpc fr6) (T.obj _ _ st6);refine thn (hg _ _ _ _ _ s6 _ H6 x u _ I6' r6 (step x H6 y6)) fun _ s7 ⟨σ7,H7,I7,q7⟩=>?_;refine thn (hk _ _ _ _ _ s7 σ7 H7 _ I7 q7) fun kv s8 hup=>hup.el fun y H8 I8 r8 q8=>?_;refine thn (hv _ _ _ _ _ s8 σ7 H8 _ I8 q8) fun vv s9 hup=>hup.el fun v H9 I9 r9 q9=>?_;refine thn (hput _ _ _ _ _ _ _ _ y v kv vv _ I9 r8 r9 q9) fun _ s10 ⟨H10,I10,m',hm,w9⟩=>?_;have keepfp:tn (i+1) s10.heap/\∀b∈fp,H10 b=none :=
    ⟨T.keep _ _ _ st6 fun b hb o e=>(I10.pin (b,o) (K8 _ (K8 _ (dD hb e)))).1,fun b hb=>by
     obtain⟨o,e,d⟩:=T.obj _ _ st6 b hb;exact(I10.pin (b,o) (K8 _ (K8 _ (dD hb e)))).2.1⟩
   exact⟨m',hm,i+1,σ7,H10,I10.unpinned,keepfp.1,keepfp.2,w9⟩
 exact codeAny_compStart_dict (loop _ rfl) (T.self _ 0 _ _ _ (T.keep _ _ _ st2 fun b _ o e=>old b o e) (loop _ rfl))
end
end L2
namespace L2
open PySem PySem.Spec PyProof.Rows
end L2
namespace L2
open PySem PySem.Spec PySem.Calls PyProof.Rows PySem.W PySem.Builtin PySem.Builtin.ObjectAttr
end L2
namespace L2
open PySem PySem.Spec PyProof.Rows
end L2
namespace L2
open PySem PySem.Spec PySem.Calls PyProof.Rows PySem.SeqAt
end L2
namespace L2
open PySem PySem.Spec PySem.Calls PyProof.Rows
section
variable{X:Cx}
def DY:D->Option D
 |.int i=>if i.natAbs.log2<1920 then some (.str (ao2 i))else none
 |_=>none
theorem wt{i:Int}:DY (.int i)=if i.natAbs.log2<1920 then some (.str (ao2 i))else none:=rfl
theorem AR:bH X (.type "str") (lY DY):=bH.of oN fun H M xs ds dz Q hr rp e q=>by
 obtain⟨d,rfl,e0⟩:=cF e;clear e;have e:=e0;clear e0;obtain⟨v,rfl,r⟩:=i7 rp;cases d with
 |int i =>
  rw[wt]at e
  by_cases h:i.natAbs.log2<1920
  ·rw[if_pos h]at e;cases e;exact⟨i,by rw[fG r],h,q _ H (Ext.refl _ _) hr (by simp[Rep])⟩
  ·rw[if_neg h]at e;cases e
 |_=>cases e
end
end L2
namespace L2
open PySem PySem.Spec PyProof.Rows
def yj(p:J7) (H:Hp) (y v:V) (F:Hp->Prop):Prop:=∃kvs k,H p=some (.dK kvs)/\y=kV k/\kvs.length<F7/\F (upd H p (.dK (gA kvs k v)))
def A7(ms:List Bool) (k:Nat) (wi:TI) (g:TG) (tk tv:TE):TE:=fun σ H Q=>wi σ H fun J H1=>∀p,H1 p=none->∃(W:Nat->Nat->St->Hp->Prop) (Z:Hp->Prop),(∃m,W 0 m (fv ms k σ) (upd H1 p (.dK [])))/\nW (yj p) J g tk tv W Z/\∀H,Z H->Q (.ref p) H
section
variable{X:Cx}{ae:List (J7×Obj)}{scope:aa1}{cl:List (Str×J7)}{ms:List Bool}{ai:List Str}{tg iter kx vx:M9}{g:TG}{tk tv:TE}{pos:Pos}
theorem Ad{A:O0}{σ:St}{H:Hp}{s:F4}{D:J7}{y v:V}{u r:F3}{F:Hp->Prop}(I:Inv X ae σ H s) (ry:aN y u) (rv:aN v r) (g:yj D H y v F) :
  K2 (L5 X.prog X.w) A (dictSet D u r) (fun _ s'=>∃H',Inv X ae σ H' s'/\F H') (fun _ _=>False) s:=by
 obtain⟨kvs,k,e,rfl,l,q⟩:=g;obtain⟨z,hd,vs,rel,dd⟩:=tK I.hok e;have hz:vs.length<=F7:=by rw[<-rel.length];exact z
 have hl:(gA kvs k v).length<=F7:=by have:=gG kvs k v;lia
 refine wpAny_dictSet_pairs (hsz:=hz) (pk ry) dd fun h' dd' hs=>⟨_,?_,q⟩;have he:∃q,h'.get? D=some q:=let⟨q,_,_,hq,_⟩:=dd';⟨q,hq⟩
 exact lU I (by rw[e];exact al3) hs he (xD hl hd (rel.put k rv) dd')
theorem BY(hu:X.A.units<ai7) (S:cK X scope cl ms ai) (cp:X.calm=true) {wi:TI}(hi:PI X tg iter wi)
  (hg:∀C s H ex,PG (ax X scope cl (X.N++ai) C s H ex) tg g) (hk:∀C s H ex,PE (ax X scope cl (X.N++ai) C s H ex) kx tk) (hv:∀C s H ex,PE (ax X scope cl (X.N++ai) C s H ex) vx tv)
  (hs:∀x,N3 iter X.env x=ad0 x:=by intro _;rfl):PE X (.DictComp kx vx [⟨tg,iter,[],0⟩] scope pos) (A7 ms ai.length wi g tk tv):=by
 intro ae s σ H Q I h;show K2 _ _ (comprehension (.DictComp kx vx [⟨tg,iter,[],0⟩] scope pos) scope X.env _ newDict false (ad3 iter X.env)) _ _ s;refine ab7 (use:=none) rfl hs S.clos S.kind S.names (thn (hi ae s σ H _ I h) fun v s1 h1=>thn h1 fun itv s2 h2=>?_);obtain⟨it,fp,tn,J,H2,e,I2,T,st2,f2,q⟩:=h2;subst e;have hp:=I2.hok.fresh (F9 s2.heap.objs.size);obtain⟨W,Z,⟨m0,w0⟩,turn,q⟩:=q _ hp;refine N2 ?_;have I3:=I2.laid (a:=s2.heap.objs.size) (o:=.dK []) (h':=s2.heap.push { cls:=.type "dict",data:=.dict #[] }) (t':=s2.toks) (fun _ _ q=>F0 _ q) (F9 _) (jm s2.heap I2.big);have f3:∀b∈fp,eh X ae (upd H2 s2.heap.objs.size (.dK [])) b:=fun b hb=>by
  obtain⟨o,e,_⟩:=T.obj _ _ st2 b hb;have hne:b≠s2.heap.objs.size:=K0 (J4 e);obtain⟨a1,a2⟩:=f2 b hb;exact⟨by rw[aZ hne];exact a1,a2⟩
 refine kn (Put:=yj s2.heap.objs.size) (s2:={ s2 with heap:=s2.heap.push { cls:=.type "dict",data:=.dict #[] } }) hu S cp hg hk hv I3 T (T.keep _ _ _ st2 fun b _ o e=>F0 _ e) f3 (fun C s0 H0 ex ae σ H s y v u r F I ry rv g=>Ad (X:=ax X scope cl (X.N++ai) C s0 H0 ex) I ry rv g) w0 turn
  (RR:=fun C=>compPost (L5 X.prog X.w) X.A X.xe none (EP X ae σ Q) (.ref s2.heap.objs.size) C) ?_
 intro s' σ' H' I' hZ;obtain⟨m,hm,_⟩:=I'.loc;refine⟨m,hm,fun h' hs'=>?_⟩;exact⟨.ref s2.heap.objs.size,_,mv I3 f3 I' hs',rfl,q H' hZ⟩
end
section
variable{X:Cx}{tg iter kx vx:M9}{pos:Pos}{scope:aa1}{cl:List (Str×J7)}{ms:List Bool}{ai:List Str}
def j0(g:GD) (tk tv:TEd) (p:J7):List D->DE->DH->(DH->Prop)->Prop
 |[],_,M,Q=>Q M
 |d::ds,Δ,M,Q=>∃ Δ',g d Δ=some Δ'/\tk Δ' M fun kd M1=>tv Δ' M1 fun v M2=>∃kvs k,kd=kD k/\M2 p=some (.dK kvs)/\kvs.length<F7/\j0 g tk tv p ds Δ' (aH M2 p (.dK (fV kvs k v))) Q
def yo(ms:List Bool) (k:Nat) (wi:TId) (g:GD) (tk tv:TEd):TEd:=fun Δ M Q=>wi Δ M fun ds M1=>∀p,M1 p=none->j0 g tk tv p ds (nL ms k Δ) (aH M1 p (.dK [])) fun M2=>Q (.ref p) M2
theorem qp{K:F2}{wi:TId}{g:GD}{tk tv:TEd}{gv:TG}{ms:List Bool}{kk:Nat}(kg:lD K g gv) :
  ∀ σ H Q,up K (yo ms kk wi g tk tv) σ H Q->A7 ms kk (upI K wi) gv (up K tk) (up K tv) σ H Q:=by
 rintro σ H Q ⟨Δ,M,R,sr,hr,q,k⟩;refine⟨Δ,M,_,sr,hr,q,fun ds M1 J H1 q1 e1 hr1 it=>fun p hp=>?_⟩;have e0:Ext M1 H1 (aH M1 p (.dK [])) (upd H1 p (.dK [])):=Ext.own hp;refine⟨fun i m σ' H'=>∃ Δ' M',m=ds.length-i/\i<=ds.length/\Ext M1 H1 M' H'/\HR K M' H'/\SR K M' H' σ' Δ'/\j0 g tk tv p (ds.drop i) Δ' M' fun M2=>R (.ref p) M2,
  fun H'=>∃M',Ext M1 H1 M' H'/\HR K M' H'/\R (.ref p) M',⟨ds.length,_,_,by simp,P6 _,e0,hr1.put e0 ⟨[],bg,.nil⟩,((sr.ext e1).ext e0).comp ms kk,q1 p (hr1.fresh hp)⟩,?_,?_⟩
 ·rintro i m σ2 H2 ⟨Δ2,M2,rfl,hi2,e2,hr2,sr2,f2⟩;obtain⟨go,stop⟩:=it M2 H2 e2 hr2 i
  by_cases hlt:i<ds.length
  ·have hd:ds[i]?=some ds[i]:=by simp[hlt]
   obtain⟨g1,y1⟩:=go _ hd;rw[aa3 hlt]at f2;simp only[j0]at f2;obtain⟨Δ3,eg,f3⟩:=f2;refine .inr ⟨g1,fun x H' hy=>?_⟩;obtain⟨e3,hr3,rx⟩:=y1 x H' hy;refine kg _ x σ2 Δ2 Δ3 M2 H' _ (sr2.ext e3) hr3 rx eg fun σ3 sr3=>?_;refine⟨Δ3,M2,_,sr3,hr3,f3,fun kd M4 kv H4 q4 e4 hr4 rk=>?_⟩;refine⟨Δ3,M4,_,sr3.ext e4,hr4,q4,fun v M6 v6 H6 ⟨kvs,k1,ek,em,hl,q6⟩ e6 hr6 rv6=>?_⟩;subst ek;obtain⟨vs,h6,kr⟩:=hr6 p _ em;have ew:Ext M6 H6 (aH M6 p (.dK (fV kvs k1 v))) (upd H6 p (.dK (gA vs k1 v6))):=Ext.write em;exact⟨vs,k1,h6,ox rk,by rw[<-kr.length];exact hl,ds.length-(i+1),by lia,Δ3,_,rfl,hlt,(((e2.trans e3).trans e4).trans e6).trans ew,hr6.put ew ⟨_,bg,(kr.put k1 rv6).ext ew⟩,((sr3.ext e4).ext e6).ext ew,q6⟩
  ·rw[ad7 (by lia)]at f2;exact .inl ⟨stop (by lia),M2,e2,hr2,f2⟩
 ·rintro H' ⟨M',e',hr',q'⟩;exact k _ M' _ _ q' (e1.trans e') hr' (by simp only[Rep])
theorem DP{wi:TId}{g:GD}{tk tv:TEd}(hu:X.A.units<ai7) (S:cK X scope cl ms ai) (cp:X.calm=true) (hi:QId X tg iter wi) (hg:PGa X scope cl ai tg g)
  (hk:∀C s H ex,QEd (ax X scope cl (X.N++ai) C s H ex) kx tk) (hv:∀C s H ex,QEd (ax X scope cl (X.N++ai) C s H ex) vx tv)
  (hs:∀x,N3 iter X.env x=ad0 x:=by intro _;rfl):QEd X (.DictComp kx vx [⟨tg,iter,[],0⟩] scope pos) (xS (yo ms ai.length wi g tk tv)):=by
 simp only[QEd.eq,QId.eq]at *
 obtain⟨gv,pg,kg⟩:=hg;exact Bo ((BY (tk:=up X.K tk) (tv:=up X.K tv) hu S cp hi pg hk hv hs).conv (qp kg))
end
section
variable{X:Cx}
theorem BM:cw X (ao1 .Mult) (iOp fun i j=>if iV i j then some (.int (i*j))else none):=pX (fun _ _=>rfl) zD
end
section
variable{X:Cx}{sts:List ac2}
def EG(i:Nat) (t:TS):TS:=fun D σ H=>∃a ks,σ[i]?=some (some (.ref a))/\H a=some (.dK ks)/\∀o,t D σ (upd H a (.frz o (.dK ks)))
theorem vz{t:TS}(i:Nat) (h:PSs X sts t):PSs X sts (EG i t):=by
 intro ae s σ H D I ⟨a,ks,_,ea,q⟩;obtain⟨o,_,I2⟩:=I.freeze ea;exact h ae s σ _ D I2 (q o)
def Dd(i:Nat) (t:TSd):TSd:=fun E Δ M=>∃a kvs,Δ[i]?=some (some (.ref a))/\M a=some (.dK kvs)/\t E (Δ.set i (some (dO kvs))) (iq M a)
theorem Dx{t:TSd}(i:Nat) (h:QSs X sts t):QSs X sts (Dd i t):=by
 simp only[QSs.eq]at *
 exact PSs.conv (vz i h) fun D σ H ⟨Δ,M,E,sr,hr,⟨a,kvs,e1,em,q⟩,k⟩=>by
  obtain⟨v,ev,rv⟩:=sr.2 i _ e1;simp only[Rep]at rv;subst rv;obtain⟨ks,h1,kr⟩:=hr a _ em;refine⟨a,ks,ev,h1,fun o=>⟨_,iq M a,E,?_,v7 hr em,q,k.ext (hJ em)⟩⟩;have:=(sr.ext (hJ (o:=.frz o (.dK ks)) em)).set i (v:=.ref a) (d:=dO kvs) (by
   simp only[dO,Rep,lI];refine⟨a,ks.map (·.2),rfl,⟨by rw[F1,F1];exact kr.length,⟨o,?_⟩,fK⟩,(tH kr).ext (hJ em)⟩;rw[bg,kr.keys,il])
  have es:σ.set i (some (.ref a))=σ:=by
   apply List.ext_getElem?;intro j
   by_cases hj:j=i
   ·subst hj;have hl:j<σ.length:=(F8.mp ev).1;rw[S8 hl,ev]
   ·rw[W0 (aa7 hj)]
  rw[es]at this;exact this
end
section
variable{X:Cx}{ae:List (J7×Obj)}{scope:aa1}{cl:List (Str×J7)}{ms:List Bool}{ai:List Str}{tg iter kx vx:M9}{g:TG}{tk tv:TE}{pos:Pos}
theorem uy{i:Nat}{x:Str}{spos pos':Pos}(hu:X.A.units<ai7) (hN:X.N.Nodup) (hix:X.N[i]?=some x) (hx:X.env.scope.names.lookup x=some .local)
  (hsw:ae0 (.DictComp kx vx [⟨tg,iter,[],0⟩] scope pos) (some (.Name x pos')) spos.line X.env=ad0 true)
  (S:cK X scope cl ms ai) (cp:X.calm=true) {wi:TI} (hi:PI X tg iter wi)
  (hg:∀C s H ex,PG (ax X scope cl (X.N++ai) C s H ex) tg g) (hk:∀C s H ex,PE (ax X scope cl (X.N++ai) C s H ex) kx tk) (hv:∀C s H ex,PE (ax X scope cl (X.N++ai) C s H ex) vx tv)
  (hs:∀x,N3 iter X.env x=ad0 x:=by intro _;rfl):PS X (.Assign [.Name x pos'] (.DictComp kx vx [⟨tg,iter,[],0⟩] scope pos) spos) (zO (A7 ms ai.length wi g tk tv) (nk i)):=by
 intro ae s σ H D I h;rw[exec_Assign_Name_used _ _ _ _ hsw];refine o0 (X9 (o0 ?_));show K2 _ _ (do let _ <-comprehension (.DictComp kx vx [⟨tg,iter,[],0⟩] scope pos) scope X.env _ newDict false (ad3 iter X.env) (some (ag8 (.Name x pos') X.env))) _ _ s;refine o0 (P0 (ab7 (use:=some (ag8 (.Name x pos') X.env)) (Q:=fun _ s'=>SP X ae D .next s') rfl hs S.clos S.kind S.names
  (thn (hi ae s σ H _ I h) fun v s1 h1=>thn h1 fun itv s2 h2=>?_)) (fun _ s' hq=>F5 (F5 hq)) fun _ _ e=>e)
 obtain⟨it,fp,tn,J,H2,e,I2,T,st2,f2,q⟩:=h2;subst e;have hp:=I2.hok.fresh (F9 s2.heap.objs.size);obtain⟨W,Z,⟨m0,w0⟩,turn,q⟩:=q _ hp;refine N2 ?_;have I3:=I2.laid (a:=s2.heap.objs.size) (o:=.dK []) (h':=s2.heap.push { cls:=.type "dict",data:=.dict #[] }) (t':=s2.toks) (fun _ _ q=>F0 _ q) (F9 _) (jm s2.heap I2.big);have f3:∀b∈fp,eh X ae (upd H2 s2.heap.objs.size (.dK [])) b:=fun b hb=>by
  obtain⟨o,e,_⟩:=T.obj _ _ st2 b hb;have hne:b≠s2.heap.objs.size:=K0 (J4 e);obtain⟨a1,a2⟩:=f2 b hb;exact⟨by rw[aZ hne];exact a1,a2⟩
 refine kn (Put:=yj s2.heap.objs.size) (s2:={ s2 with heap:=s2.heap.push { cls:=.type "dict",data:=.dict #[] } }) hu S cp hg hk hv I3 T (T.keep _ _ _ st2 fun b _ o e=>F0 _ e) f3 (fun C s0 H0 ex ae σ H s y v u r F I ry rv g=>Ad (X:=ax X scope cl (X.N++ai) C s0 H0 ex) I ry rv g) w0 turn
  (RR:=fun C=>compPost (L5 X.prog X.w) X.A X.xe (some (ag8 (.Name x pos') X.env)) (fun _ s'=>SP X ae D .next s') (.ref s2.heap.objs.size) C) ?_
 intro s' σ' H' I' hZ;obtain⟨m,hm,_⟩:=I'.loc;have I4:=mv I3 f3 I' (O4.refl _ s'.heap);have hq:=q H' hZ;show K2 _ _ (ag8 (.Name x pos') X.env (.ref s2.heap.objs.size)) _ _ _;refine wpAny_assign_Name (jQ I4 hN hix (.inl hx) (v:=.ref s2.heap.objs.size) rfl (fun s4 I5 hsame=>?_) (.inr hx));obtain⟨a,hsb,ha⟩:=hsame;have hsz:(s2.heap.push { cls:=.type "dict",data:=.dict #[] }).objs.size=s2.heap.objs.size+1:=R4 ..;have hLC:(s2.heap.push { cls:=.type "dict",data:=.dict #[] }).objs.size≠X.env.locals:=by rw[hsz];exact W5 (P1 I2.lt)
 have haC:(s2.heap.push { cls:=.type "dict",data:=.dict #[] }).objs.size≠a:=by
  rcases ha with rfl|ha
  ·exact hLC
  ·intro z;obtain⟨v,o,ho,_⟩:=I2.cell x a ha;rw[hsz]at z;exact absurd (P1 (J4 ho)) (by rw[<-z];exact X8 _)
 refine⟨m,hm.sameBut hsb haC,fun h' hs'=>?_⟩;refine⟨_,_,?_,hq⟩;exact Inv.turned (t':=s4.toks) (h':=h') (it:=(s2.heap.push { cls:=.type "dict",data:=.dict #[] }).objs.size) I5 (fun b o hb e=>(hs'.2 b hb).trans e) I'.free hLC (.inr (by rw[hsz];exact Nat.le_succ_of_le I2.sz)) (fun y c e=>by
  obtain⟨v,o,ho,_⟩:=I2.cell y c e;rw[hsz];exact K0 (P1 (J4 ho))) (fun p hp=>by
  rw[hsz];exact K0 (P1 (J4 (I2.pin p hp).1)))
end
section
variable{X:Cx}{tg iter kx vx:M9}{pos:Pos}{scope:aa1}{cl:List (Str×J7)}{ms:List Bool}{ai:List Str}
theorem u7{i:Nat}{x:Str}{spos pos':Pos}{wi:TId}{g:GD}{tk tv:TEd}(hu:X.A.units<ai7) (hN:X.N.Nodup) (hix:X.N[i]?=some x) (hx:X.env.scope.names.lookup x=some .local)
  (hsw:ae0 (.DictComp kx vx [⟨tg,iter,[],0⟩] scope pos) (some (.Name x pos')) spos.line X.env=ad0 true) (S:cK X scope cl ms ai) (cp:X.calm=true) (hi:QId X tg iter wi) (hg:PGa X scope cl ai tg g)
  (hk:∀C s H ex,QEd (ax X scope cl (X.N++ai) C s H ex) kx tk) (hv:∀C s H ex,QEd (ax X scope cl (X.N++ai) C s H ex) vx tv)
  (hs:∀x,N3 iter X.env x=ad0 x:=by intro _;rfl):QSd X (.Assign [.Name x pos'] (.DictComp kx vx [⟨tg,iter,[],0⟩] scope pos) spos) (qq i (yo ms ai.length wi g tk tv)):=by
 simp only[QEd.eq,QId.eq,QSd.eq]at *
 obtain⟨gv,pg,kg⟩:=hg;refine(uy (tk:=up X.K tk) (tv:=up X.K tv) hu hN hix hx hsw S cp hi pg hk hv hs).conv fun D σ H hh=>?_;obtain⟨Δ,M,E,sr,hr,q,k⟩:=hh;exact qp kg σ H _ ⟨Δ,M,_,sr,hr,q,fun d M1 v H1 q1 e1 hr1 rv=>k.nx _ M1 _ H1 q1 e1 hr1 ((sr.ext e1).set i rv)⟩
end
def oQ(N:List Str) (scope:aa1) (ms:List Bool):Bool :=
 scope.kind==.function&&scope.names.all (fun y=>y.2 != .cell&&y.2 != .free&&(y.2 != .local || scope.names.lookup y.1==some .local))&&ms.all (fun b=>!b)&&decide (ms.length<=N.length)
theorem t5{X:Cx}{scope:aa1}{ms:List Bool}{ai:List Str}(c:oQ X.N scope ms=true):cK X scope (cR scope.names X.env.cells) ms ai:=by
 unfold oQ at c;simp only[N1,M7,decide_eq_true_eq,bne_iff_ne,ne_eq,ah4,beq_iff_eq]at c;obtain⟨⟨⟨c1,c2⟩,c3⟩,c4⟩:=c;refine⟨c1,fun y hy e=>absurd e (c2 y hy).1.1,fun y hy e=>((c2 y hy).2).resolve_left fun z=>z e,tO fun y hy e=>absurd e (c2 y hy).1.2,fun x c h=>qj h,fun x h=>?_,fun x h=>?_,fun i x h1 h2=>?_,c4⟩
 ·exact absurd rfl (c2 _ (R1 h)).1.2
 ·exact absurd rfl (c2 _ (R1 h)).1.2
 ·have:=c3 _ (J1 h1);simp at this
section
variable{X:Cx}
def AK(x y:D):Option D:=match x,y with|.bl a,.bl b=>some (.bl (a != b))|_,_=>none
theorem vX:cw X (Q5 .IsNot) AK:=by
 intro ae s σ H M x y v u dx dy dz Q I hr rx ry r1 r2 e k;cases dx with
 |bl a =>
  cases dy with
  |bl b =>
   cases e;have e1:x=V.bl a:=by simpa only[aT,Rep]using r1
   have e2:y=V.bl b:=by simpa only[aT,Rep]using r2
   subst e1;subst e2;cases rx;cases ry;have:Q5 ap3.IsNot (ak1 a) (ak1 b)=ad0 (ak1 (a != b)):=by cases a<;>cases b<;>rfl
   show K2 _ _ (Q5 ap3.IsNot (ak1 a) (ak1 b)) _ _ _;rw[this];exact F5 ⟨.bl (a != b),H,I,rfl,k _ H (Ext.refl _ _) hr (by simp[Rep])⟩
  |_=>cases e
 |_=>cases e
end
end L2
namespace My
open PySem PySem.Spec PyProof.Rows L2
noncomputable def top(i:Nat):ac2:=PySem.Challenge.pw_wordwishes_k43_worlds.main.body.getD i (.Pass ⟨0,0,0,0⟩)
abbrev fZ:ac2:=top 3
abbrev dQ:ac2:=top 4
abbrev cn:ac2:=top 5
abbrev gO:ac2:=top 7
abbrev df:ac2:=top 9
abbrev gF:ac2:=top 11
abbrev cx:ac2:=top 12
abbrev dP:ac2:=top 18
abbrev gN:ac2:=top 19
abbrev bO:ac2:=top 20
abbrev bx:ac2:=top 21
abbrev cN:ac2:=top 22
abbrev dU:ac2:=top 23
abbrev c9:ac2:=top 24
abbrev iM:ac2:=top 25
abbrev dZ:ac2:=top 26
abbrev jL:ac2:=top 28
abbrev eX:ac2:=top 29
abbrev lu:ac2:=top 30
abbrev gL:ac2:=top 31
abbrev fu:ac2:=top 32
abbrev ow:ac2:=top 33
abbrev g6:ac2:=top 34
abbrev dn:ac2:=top 35
abbrev ig:ac2:=top 36
abbrev gY:ac2:=top 37
abbrev oa:ac2:=top 38
abbrev jZ:ac2:=top 39
abbrev jG:ac2:=top 40
abbrev l9:ac2:=top 41
abbrev l7:ac2:=top 42
abbrev jM:ac2:=top 43
abbrev lO:ac2:=top 44
abbrev bL:ac2:=top 45
abbrev fm:ac2:=top 46
abbrev cY:ac2:=top 47
abbrev jr:ac2:=top 48
abbrev tJ:ac2:=top 49
abbrev om:List Str:=["thing"]
theorem iu:aB om ["thing"] (aj fZ):=fsc
abbrev kA:List Str:=["thing","many"]
theorem fJ:aB kA ["thing","many"] (aj dQ):=fsc
abbrev dj:List Str:=["thing"]
theorem eR:aB dj ["thing"] (aj cn):=fsc
abbrev pC:List Str:=["thing"]
theorem i9:aB pC ["thing"] (aj gO):=fsc
abbrev bB:List Str:=["lexicon","order","goal","entries","in_order","in_kinds"]
theorem iC:aB bB ["lexicon"] (aj df):=fsc
abbrev qu:List Str:=["numbers","told","number"]
theorem jx:aB qu ["numbers"] (aj gF):=fsc
abbrev gS:List Str:=["one","other"]
theorem dw:aB gS ["one","other"] (aj cx):=fsc
abbrev kL:List Str:=["thing"]
theorem fE:aB kL ["thing"] (aj dP):=fsc
abbrev qN:List Str:=["thing"]
theorem jc:aB qN ["thing"] (aj gN):=fsc
abbrev aX:List Str:=["lexicon","thing","size_of"]
theorem gy:aB aX ["lexicon","thing"] (aj bO):=fsc
abbrev bz:List Str:=["size_of","kind"]
theorem cH:aB bz ["size_of","kind"] (aj bx):=fsc
abbrev cP:List Str:=["how","many","thing"]
theorem gP:aB cP ["how","many","thing"] (aj cN):=fsc
abbrev dY:List Str:=["how","size_of","kinds","thing"]
theorem iB:aB dY ["how","size_of","kinds","thing"] (aj dU):=fsc
abbrev cy:List Str:=["lexicon","how","size_of","thing","entries"]
theorem gd:aB cy ["lexicon","how","size_of","thing"] (aj c9):=fsc
abbrev sx:List Str:=["thing"]
theorem ka:aB sx ["thing"] (aj iM):=fsc
abbrev eB:List Str:=["lexicon","world","size_of"]
theorem iE:aB eB ["lexicon","world"] (aj dZ):=fsc
abbrev uN:List Str:=["_law_cell","_law_sizes_here","_law_found","_law_size","_law_seed"]
theorem mi:aB uN ["_law_cell","_law_sizes_here"] (aj jL):=fsc
abbrev gE:List Str:=["_law_xs","_law_amount","_law_alphabet","_law_found","_law_k","_law_rest"]
theorem jD:aB gE ["_law_xs","_law_amount"] (aj eX):=fsc
abbrev xo:List Str:=["_law_order","_law_one","_law_other","_law_found","_law_at","_law_low_here","_law_high"]
theorem m9:aB xo ["_law_order","_law_one","_law_other"] (aj lu):=fsc
abbrev pw:List Str:=["_law_xs","_law_amount","_law_held","_law_found","_law_left","_law_place"]
theorem js:aB pw ["_law_xs","_law_amount"] (aj gL):=fsc
abbrev fO:List Str:=["_law_xs","_law_arcs","_law_marks_here","_law_order","_law_goal","_law_near","_law_one","_law_other","_law_found","_law_k","_law_turn","_law_below"]
theorem lX:aB fO ["_law_xs","_law_arcs","_law_marks_here","_law_order","_law_goal"] (aj fu):=fsc
abbrev yE:List Str:=["_law_xs","_law_signs_here","_law_found","_law_left","_law_size"]
theorem qH:aB yE ["_law_xs","_law_signs_here"] (aj ow):=fsc
abbrev j3:List Str:=["_law_kind","_law_xs","_law_marks_here","_law_kinds_here","_law_more"]
theorem l5:aB j3 ["_law_kind","_law_xs","_law_marks_here"] (aj g6):=fsc
abbrev c8:List Str:=["_law_cell","_law_xs","_law_marks_here","_law_words","_law_k","_law_pairs","_law_order","_law_goal","_law_arcs","_law_signs_here","_law_cuts","_law_entries","_law_choice","_law_kinds_here"]
theorem iw:aB c8 ["_law_cell"] (aj dn):=fsc
noncomputable abbrev gW:List Str:=["_law_lexicon","_law_found","_law_low_here","_law_high","_law_word","_law_kinds_here","_law_kind"]
theorem ml:aB gW ["_law_lexicon"] (aj ig):=fsc
abbrev jW:List Str:=["_law_lexicon","_law_xs","_law_most_here","_law_marks_here","_law_known","_law_k","_law_turn","_law_low_here","_law_high","_law_least"]
theorem lg:aB jW ["_law_lexicon","_law_xs","_law_most_here"] (aj gY):=fsc
abbrev yZ:List Str:=["_law_top","_law_bottom","_law_one","_law_other"]
theorem p8:aB yZ ["_law_top","_law_bottom"] (aj oa):=fsc
abbrev uT:List Str:=["_law_how","_law_xs","_law_amount","_law_salt","_law_found","_law_k","_law_turn","_law_x"]
theorem mw:aB uT ["_law_how","_law_xs","_law_amount","_law_salt"] (aj jZ):=fsc
abbrev uQ:List Str:=["_law_lexicon","_law_how","_law_xs","_law_most_here","_law_sizes_here","_law_known","_law_tables","_law_word","_law_kinds_here","_law_table","_law_kind","_law_amount","_law_mark","_law_turn"]
theorem mm:aB uQ ["_law_lexicon","_law_how","_law_xs","_law_most_here"] (aj jG):=fsc
abbrev wK:List Str:=["_law_thing","_law_way","_law_odd"]
theorem nX:aB wK ["_law_thing","_law_way"] (aj l9):=fsc
abbrev vt:List Str:=["_law_thing","_law_xs","_law_some","_law_at","_law_other"]
theorem mX:aB vt ["_law_thing","_law_xs"] (aj l7):=fsc
abbrev uE:List Str:=["_law_thing"]
theorem lH:aB uE ["_law_thing"] (aj jM):=fsc
abbrev uW:List Str:=["_law_thing"]
theorem nH:aB uW ["_law_thing"] (aj lO):=fsc
abbrev aR:List Str:=["_law_lexicon","_law_sizes_here","_law_known"]
theorem gg:aB aR ["_law_lexicon","_law_sizes_here"] (aj bL):=fsc
abbrev mL:List Str:=["_law_how","_law_cell"]
theorem gH:aB mL ["_law_how","_law_cell"] (aj fm):=fsc
abbrev eL:List Str:=["_law_how","_law_known","_law_kind","_law_cells_here","_law_amount","_law_mark","_law_turn"]
theorem gr:aB eL ["_law_how","_law_known","_law_kind","_law_cells_here"] (aj cY):=fsc
abbrev ly:List Str:=["_law_lexicon","_law_world_here","_law_how","_law_sizes_here","_law_tables","_law_k","_law_kinds_here"]
theorem nu:aB ly ["_law_lexicon","_law_world_here"] (aj jr):=fsc
abbrev pM:List Str:=["_law_script","_law_cell","_law_lexicon","_law_words","_law_drawing","_law_xs","_law_how","_law_world_here","_law_most_here","_law_greater","_law_cells_here","_law_others","_law_great","_law_k","_law_other","_law_found"]
theorem vE:aB pM ["_law_script"] (aj tJ):=fsc
structure Txt(mg:Str->Option F3):Prop where
 b_isinstance:mg "isinstance"=none
 b_int:mg "int"=none
 b_bool:mg "bool"=none
 b_tuple:mg "tuple"=none
 b_len:mg "len"=none
 b_str:mg "str"=none
 b_all:mg "all"=none
 b_sorted:mg "sorted"=none
 b_set:mg "set"=none
 b_abs:mg "abs"=none
 b_zip:mg "zip"=none
 b_range:mg "range"=none
 b_list:mg "list"=none
 b_max:mg "max"=none
 b_min:mg "min"=none
 b_dict:mg "dict"=none
 b_sum:mg "sum"=none
 g_SMALL_LETTERS:∃t,mg "SMALL_LETTERS"=some (.str "abcdefghijklmnopqrstuvwxyz" t)
 g_MOST_LETTERS:∃t,mg "MOST_LETTERS"=some (.int 8 t)
 g_SUMS:∃t,mg "SUMS"=some (.str "sums" t)
 g_TRUTHS:∃t,mg "TRUTHS"=some (.str "truths" t)
 g_MOST_SIZE:∃t,mg "MOST_SIZE"=some (.int 3 t)
 g_LEAST_OF_31_FIGURES:∃t,mg "LEAST_OF_31_FIGURES"=some (.int 1000000000000000000000000000000 t)
set_option hygiene false in
local macro_rules|`(tactic| walk_at "rd")=>`(tactic| simp only[dST,wt,E3,Ak,xS,AU,yn,yo,zP,BF,BC,qq,rA,dC,D5,Am,Ee,Ah,Ar,dOp,dUn,yR,D2,AA,Ag,dCB,Aw,Do,Dv,Aa,DD,CU,D1,zY,D6,DG,Dq,dIf,qg,DK,uZ,pJ,vM,CB,Dk,Ax,Ab,An,z3,xQ,A3,yp,wo,Dp,vm,CC,dDK,z9,AH,CY,C3,HD.dKr.injEq,sD,HD.dT.injEq,HD.dK.injEq,CN,D0,oA,wI,dLc,AS,wB,Dd,Di,
 cG,BH,yy,za,ou,y7,zb,yS,o8,zh,zx,oz,zC,Ay,ye,Ec,El,Df,DF,xZ,AX,A1,A4,A2,Ba,yb,Bf,k9,rG,Bv,xh,Ek,DX,DL,CJ,Cc,BN,CH,Ei,DZ,vV,vp,wk,xn,CQ,DJ,CS,DS,Ej,DU,Du,Af,DO,kP,uF,Cp,aP,cf,
 iT,J8,am5,List.cons_append,K5,P2,ab6,I0,List.set_cons_zero,List.set_cons_succ,List.getElem?_cons_zero,U4,af2,exists_eq_left',exists_eq_left,D.int.injEq,D.bl.injEq,D.str.injEq,D.ref.injEq,D.tup.injEq,D.lst.injEq,true_and,and_true,if_true,decide_eq_true_eq,exists_and_left,Nat.zero_add,Nat.reduceAdd,Nat.reduceSub,Dl,Da,xJ,CZ,HD.lst.injEq,S4,or_true,true_or,and_self,↓reduceIte,Int.reduceLT,Int.reduceLE,Int.reducePow,Int.reduceNeg,Int.reduceToNat,Nat.reducePow,Nat.reduceLT,Nat.reduceLeDiff,Int.reduceAdd,Int.reduceMul,Int.reduceSub,K1,Bool.true_eq_false,if_false])
section
variable{P:L1}{w:P9}{K:F2}{mg:Str->Option F3}{base:K7}{f:J7}{fd:L8}
theorem gK{xs:List D}{n:Nat}:L2.cv xs none (some (n:Int))=xs.take n:=by
 unfold L2.cv;rw[HT.sIx_none,HT.sIx_nat,List.drop_zero,Nat.sub_zero]
 by_cases h:n<=xs.length
 ·rw[ak7 h]
 ·rw[Nat.min_eq_right (by lia),S5,S9 (by lia)]
theorem dh{xs:List D}{n:Nat}:L2.cv xs (some (n:Int)) none=xs.drop n:=by
 unfold L2.cv;rw[HT.sIx_none,HT.sIx_nat]
 by_cases h:n<=xs.length
 ·rw[ak7 h,S9 (by simp)]
 ·rw[Nat.min_eq_right (by lia),Nat.sub_self,List.take_zero,List.drop_of_length_le (by lia)]
theorem bD{lo:Int}{n:Nat}:(sj lo n).length=n:=by simp[sj]
def bo(x:Str×Str):D:=.tup [.str x.1,.str x.2]
theorem eG{M:DH}{p q:J7}{a b:HD}(h:p≠q):aH (aH M p a) q b=aH (aH M q b) p a:=by
 funext c;unfold aH
 by_cases h1:c=q
 ·subst h1;simp[aa7 h]
 ·by_cases h2:c=p
  ·subst h2;simp[h]
  ·simp[h1,h2]
theorem sR{α:Type}{f:α->D}(hf:∀x y,f x=f y->x=y):∀{xs ys:List α},xs.map f=ys.map f->xs=ys
 |[],[],_=>rfl
 |[],_::_,h=>by simp at h
 |_::_,[],h=>by simp at h
 |x::xs,y::ys,h=>by
  simp only[J8,S4]at h;rw[hf _ _ h.1,sR hf h.2]
def aM(x:Str×Int):D:=.tup [.str x.1,.int x.2]
theorem ui:∀x y,aM x=aM y->x=y:=fun⟨a,b⟩ ⟨c,d⟩ h=>by simpa[aM]using h
mutual
def av:D->Bool
 |.tup ds=>cW ds
 |.lst ds=>cW ds
 |.str x=>decide (x.length<=1000000)
 |.scr _=>false
 |.ref _=>false
 |.box _ _=>false
 |_=>true
def cW:List D->Bool
 |[]=>true
 |d::ds=>av d&&cW ds
end
theorem bW:∀{ds:List D},cW ds=true↔∀d∈ds,av d=true
 |[]=>by simp[cW]
 |d::ds=>by simp[cW,bW (ds:=ds)]
theorem bG{M:DH}{d:D}(h:av d=true):rdM M d=d:=by
 cases d<;>first|rfl|(simp[av]at h)
def cq:D->Int->Bool
 |.tup ds,n=>(ds.length:Int)==n
 |_,_=>false
def cA(x:Str):Bool:=decide (1<=x.length)&&decide (x.length<=8)&&x.cps.toList.all fun c=>decide (c∈fk)
def iI:D->Bool
 |.str x=>cA x
 |_=>false
def bE:SpD:=fun ds M R=>∃d n,ds=[d,.int n]/\av d=true/\R (.bl (cq d n)) M
theorem jE(F:Fun K "is_tuple_of" "is_tuple_of" dQ f fd) (T:Txt mg) :bA P w K mg base CX0 1 f fd ["thing","many"] (spD K 2 bE):=by
 have nd:=fJ.nd;refine F.okR rfl fJ (fun cdv A outer s H E hr=>⟨_,(am (aW (cz (bV (Tn:="tuple") (by decide) rfl T.b_isinstance rfl T.b_tuple (by kernel_rfl) (aa 0)) (fM (fh (eU hr.units) (au bc rfl T.b_len (by kernel_rfl) (ab (aa 0) ag)) (aa 1) nbh))))),fun ds M R _ hS bk=>?_⟩);obtain⟨d,n,rfl,hd,k⟩:=hS;refine bk ?_;clear bk;walk_at "rd";simp only[bG hd];cases d with
 |tup ds =>
  refine⟨true,rfl,?_⟩;walk_at "rd";exact k
 |scr _=>simp[av]at hd
 |ref _=>simp[av]at hd
 |box _ _=>simp[av]at hd
 |_=>exact⟨false,rfl,by simp only[K1,if_false];exact k⟩
def ff:SpD:=fun ds M R=>∃d,ds=[d]/\av d=true/\R (.bl (iI d)) M
theorem yu:abc.cps.toList=fk:=by rw[rg,ip]
theorem b7{bs:List Bool}:yK (.lst (bs.map D.bl))=some (.bl (bs.all id)):=by
 have h1:(bs.map D.bl).all mU=true:=by rw[R0,M7];intro _ _;rfl
 have h2:(bs.map D.bl).all vQ=bs.all id:=by rw[R0];rfl
 simp only[yK,h1,h2,if_true]
theorem iN(F:Fun K "is_short_word" "is_short_word" cn f fd) (T:Txt mg) :bA P w K mg base CX0 1 f fd ["thing"] (spD K 1 ff):=by
 have nd:=eR.nd;refine F.okR rfl eR (fun cdv A outer s H E hr=>⟨_,(am (aW (cz (bV (Tn:="str") (by decide) rfl T.b_isinstance rfl T.b_str (by kernel_rfl) (aa 0)) (cz (kS pB pB af (au bc rfl T.b_len (by kernel_rfl) (ab (aa 0) ag)) (jf rfl T.g_MOST_LETTERS)) (fM (au (gp rfl) rfl T.b_all (by kernel_rfl) (ab (fF (ms:=[false]) (ai:=["letter"]) (aF (n0:=0) rfl (show aS (aj cn) dj _ _=true from by decide +kernel)) rfl (aK (aa 0)) (az (i:=1) (show(dj++_).Nodup from by decide +kernel) rfl rfl) (fun _ _ _ _=>bv) (fun _ _ _ _=>(fh xF (aa 1) (jg rfl T.g_SMALL_LETTERS) rfl))) ag))))))),fun ds M R _ hS bk=>?_⟩);obtain⟨d,rfl,hd,k⟩:=hS;refine bk ?_;clear bk;walk_at "rd";simp only[bG hd];cases d with
 |str x =>
  have hx:x.length<=1000000:=by simpa[av]using hd
  refine⟨true,rfl,?_⟩;walk_at "rd";refine⟨_,if_pos (szB _ (by lia)),?_⟩;walk_at "rd";have hsl:x.length=x.cps.toList.length:=by show x.cps.size=_;simp
  refine bj (fun h1=>bj (fun h2=>?_) (fun h2=>?_)) (fun h1=>?_)
  ·refine⟨_,if_pos (szB _ (by lia)),fun hz=>⟨hz,?_⟩⟩;refine bP (fun _=>true) (fun d=>match d with|.str y=>.bl (y.cps.toList.all fun c=>decide (c∈fk))|_=>.non) (fun Δ=>∃x,Δ=[none,x]) _ _ _ (fun d hd Δ hΔ=>?_) ⟨none,rfl⟩ ?_
   ·obtain⟨x1,rfl⟩:=hΔ;obtain⟨c,_,rfl⟩:=O9.mp (show d∈x.cps.toList.map fun c=>D.str (tx [c])from hd);refine⟨_,rfl,⟨_,rfl⟩,fun Q1 q=>q,fun _ Q2 q=>?_⟩;walk_at "rd";simp only[Af,af2,exists_eq_left',Bool.false_xor];rw[show(K3 "abcdefghijklmnopqrstuvwxyz").cps.toList=fk from yu];simpa[ip]using q
   ·rw[K5,L7.mpr (fun _ _=>rfl)];have e:(L2.fH x).map (fun d=>match d with|.str y=>D.bl (y.cps.toList.all fun c=>decide (c∈fk))|_=>.non)=(x.cps.toList.map fun c=>decide (c∈fk)).map D.bl:=by
     unfold L2.fH;rw[N0,N0];apply List.map_congr_left;intro c _;simp
    rw[e];refine⟨_,b7,?_⟩;have e2:(x.cps.toList.map fun c=>decide (c∈fk)).all id=cA x:=by
     unfold cA;rw[R0,decide_eq_true (by lia:1<=x.length),decide_eq_true (by lia:x.length<=8)];rfl
    rw[e2];exact k
  ·have e2:iI (.str x)=false:=by simp only[iI,cA,decide_eq_false (by lia:¬ x.length<=8),ad4,P8]
   rw[e2]at k;exact k
  ·have e2:iI (.str x)=false:=by simp only[iI,cA,decide_eq_false (by lia:¬ 1<=x.length),P8]
   rw[e2]at k;exact k
 |scr _=>simp[av]at hd
 |ref _=>simp[av]at hd
 |box _ _=>simp[av]at hd
 |_=>exact⟨false,rfl,by simp only[K1,if_false];exact k⟩
end
section
variable{P:L1}{w:P9}{K:F2}{mg:Str->Option F3}{base:K7}{f:J7}{fd:L8}
def jH:D->Bool
 |.int _=>true
 |_=>false
def lL(f:D->Bool):SpD:=fun ds M R=>∃d,ds=[d]/\av d=true/\R (.bl (f d)) M
def fY:SpD:=lL jH
theorem mC(F:Fun K "is_whole" "is_whole" fZ f fd) (T:Txt mg) :bA P w K mg base CX0 1 f fd ["thing"] (spD K 1 fY):=by
 have nd:=iu.nd;refine F.okR rfl iu (fun cdv A outer s H E hr=>⟨_,(am (aW (cz (bV (Tn:="int") (by decide) rfl T.b_isinstance rfl T.b_int (by kernel_rfl) (aa 0)) (fM (AI (bV (Tn:="bool") (by decide) rfl T.b_isinstance rfl T.b_bool (by kernel_rfl) (aa 0))))))),fun ds M R _ hS bk=>?_⟩);obtain⟨d,rfl,hd,k⟩:=hS;refine bk ?_;clear bk;walk_at "rd";simp only[bG hd];cases d with
 |int i=>exact⟨true,rfl,by simp only[if_true];exact⟨false,rfl,k⟩⟩
 |bl b=>exact⟨true,rfl,by simp only[if_true];exact⟨true,rfl,k⟩⟩
 |scr _=>simp[av]at hd
 |ref _=>simp[av]at hd
 |box _ _=>simp[av]at hd
 |_=>exact⟨false,rfl,by simp only[K1,if_false];exact k⟩
theorem bw{α:Type}{g:GD}{tc:TTd}{te:TEd}{M:DH}{Q:List D->DH->Prop}(enc:α->D) (b:α->Bool) (y:α->D) (Ok:DE->Prop):∀(xs:List α) (Δ:DE) (acc:List D),
  (∀x∈xs,∀ Δ,Ok Δ->∃ Δ',g (enc x) Δ=some Δ'/\Ok Δ'/\(∀Q1:Bool->DH->Prop,Q1 (b x) M->tc Δ' M Q1)/\(b x=true->∀Q2:D->DH->Prop,Q2 (y x) M->te Δ' M Q2))->Ok Δ ->
  Q (acc++(xs.filter b).map y) M->dN g tc te (xs.map enc) Δ M acc Q
 |[],Δ,acc,_,_,q=>by simpa[dN]using q
 |x::xs,Δ,acc,h,hΔ,q=>by
  rw[J8];simp only[dN];obtain⟨Δ',e,hΔ',h1,h2⟩:=h x (.head _) Δ hΔ;refine⟨Δ',e,h1 _ ?_⟩;have ih:=fun acc' q'=>bw (Q:=Q) enc b y Ok xs Δ' acc' (fun z hz=>h z (.tail _ hz)) hΔ' q';cases hb:b x with
  |true =>
   simp only[if_true];refine h2 hb _ (ih _ ?_);rw[List.filter_cons_of_pos hb]at q;simpa using q
  |false =>
   simp only[K1,if_false];refine ih _ ?_;rw[List.filter_cons_of_neg (by simp[hb])]at q;exact q
theorem kO{α:Type} [DecidableEq α] (f:α->D) (hf:∀x y,eqD (f x) (f y)=decide (x=y)):∀{a b:List α},eA (a.map f) (b.map f)=decide (a=b)
 |[],[]=>by simp[eA]
 |[],_::_=>by simp[eA]
 |_::_,[]=>by simp[eA]
 |x::a,y::b=>by
  rw[J8,J8,eA,kO f hf (a:=a) (b:=b),hf];simp
theorem fI{α:Type}(f:α->D) (hf:∀x,dLe (f x) 59=true) {a:List α}:dF (a.map f) 59=true:=by
 rw[fP];intro d hd;obtain⟨x,_,rfl⟩:=O9.mp hd;exact hf x
theorem cE{α:Type}{p:α->Prop}{xs:List α}{y:α}(h:∀x∈xs,p x) (hy:p y):∀x∈xs++[y],p x:=fun x hx=>by
 rcases O3.mp hx with z|z
 ·exact h x z
 ·obtain rfl:=N5.mp z;exact hy
theorem oR{α:Type} [DecidableEq α] (f:α->D) (hf:∀x y,eqD (f x) (f y)=decide (x=y)) (hl:∀x,dLe (f x) 59=true) {a b:List α}:neF (.lst (a.map f)) (.lst (b.map f))=some (.bl (!decide (a=b))):=by
 have h1:dLe (.lst (a.map f)) 60=true:=fI f hl;have h2:dLe (.lst (b.map f)) 60=true:=fI f hl;simp only[neF,h1,h2,and_self,if_true,eqD,kO f hf]
theorem eE{α:Type}{g:GD}{B:BKd}{M:DH}(enc:α->D) (out:α->List D) (Ok:DE->Prop):∀(xs:List α) (Δ:DE) (acc:List D) (Q:List D->DE->DH->Prop),
  (∀x∈xs,∀ Δ,Ok Δ->∃ Δ',g (enc x) Δ=some Δ'/\∀(acc:List D) (Q2:List D->DE->DH->Prop),acc.length+(out x).length<=F7->(∀ Δ'',Ok Δ''->Q2 (acc++out x) Δ'' M)->B Δ' M acc Q2)->Ok Δ ->
  acc.length+(xs.flatMap out).length<=F7->(∀ Δ',Ok Δ'->Q (acc++xs.flatMap out) Δ' M)->gJ g vR B (xs.map enc) Δ M acc Q
 |[],Δ,acc,Q,_,ok,_,q=>by
  simp only[am5,gJ];have:=q Δ ok
  rwa [List.flatMap_nil,V5]at this
 |x::xs,Δ,acc,Q,h,ok,hz,q=>by
  rw[ai4,F6]at hz;rw[J8];simp only[gJ,vR,if_true];obtain⟨Δ',e,h1⟩:=h x (.head _) Δ ok;refine⟨Δ',e,h1 acc _ (by lia) fun Δ'' ok'=>⟨by rw[F6];lia,?_⟩⟩;refine eE enc out Ok xs Δ'' _ Q (fun z hz=>h z (.tail _ hz)) ok' (by rw[F6];lia) fun Δ3 ok3=>?_;have:=q Δ3 ok3
  rwa [ai4,<-U0]at this
theorem lJ{α β:Type}{f:α->β}:∀l:List α,(l.flatMap fun a=>[f a])=l.map f
 |[]=>rfl
 |a::l=>by rw[ai4,lJ l];rfl
theorem iH{a b:TSd}{E:gj}{Δ:DE}{M:DH}(C:DE->DH->Prop) (h1:∀nx,(∀ Δ' M',C Δ' M'->nx Δ' M')->a { E with nx:=nx } Δ M) (h2:∀ Δ' M',C Δ' M'->b E Δ' M'):BC a b E Δ M:=h1 _ h2
theorem fW{α:Type}{l:List α}(h:0<l.length) (x:Int):∃v:Nat,v<l.length/\x % (l.length:Int)=(v:Int):=by
 have h0:0<=x % (l.length:Int):=X4 _ (by lia);have h1:x % (l.length:Int)<(l.length:Int):=V9 _ (by lia);exact⟨(x % (l.length:Int)).toNat,by lia,(ac9 h0).symm⟩
abbrev Row:=List (Str×Int)
def aA(r:Row):D:=.tup (r.map aM)
def dE(ks:List Row):D:=.tup (ks.map aA)
def et(e:Str×List Row):D:=.tup [.str e.1,dE e.2]
def dR(ord:List (Str×Str)) (aq:Str) (ak:List (Str×List Row)):D:=.tup [.tup (ord.map bo),.str aq,.tup (ak.map et)]
def fN:List Str:=fk.map fun c=>tx [c]
theorem m6{c n:Nat}(hc:c∈fk) (h1:1<=n) (h8:n<=8):cA (tx (I0 n c))=true:=by
 have l:(tx (I0 n c)).length=n:=by rw[oO,V6]
 unfold cA;rw[l,ip,decide_eq_true h1,decide_eq_true h8,R6,R6,M7];intro d hd;rw[List.eq_of_mem_replicate hd];exact decide_eq_true hc
theorem rR{x:Str}(h:x∈fN):cA x=true:=by
 obtain⟨c,hc,rfl⟩:=O9.mp h;exact m6 (n:=1) hc (by decide) (by decide)
def uL(s:Str×Int):Prop:=s.1∈fN/\-2<=s.2/\s.2<=3
def rq(r:Row):Prop:=∀s∈r,uL s
def D8(ks:List Row):Prop:=1<=ks.length/\ks.length<=2/\ks.Nodup/\∀r∈ks,r.length<=5/\rq r
structure LxP(ord:List (Str×Str)) (aq:Str) (ak:List (Str×List Row)):Prop where
 o:ord.length<=8
 n:ak.length<=8
 nd:(ak.map (·.1)).Nodup
 sh:∀e∈ak,cA e.1=true/\D8 e.2
noncomputable def kin(ak:List (Str×List Row)) (w:Str):List Row:=(ak.lookup w).getD []
theorem v8{α β:Type}{f:α->List β}{c:Nat}{l:List α}(h:∀x∈l,(f x).length<=c):(l.flatMap f).length<=l.length*c:=by
 induction l with
 |nil=>simp
 |cons a l ih =>
  rw[ai4,F6,P2,Nat.succ_mul];have:=h a (.head _);have:=ih fun x hx=>h x (.tail _ hx)
  lia
def inO(ord:List (Str×Str)):List Str:=ord.flatMap fun p=>[p.1,p.2]
def inK(ak:List (Str×List Row)):List Str:=ak.flatMap fun e=>e.2.flatMap fun r=>r.map (·.1)
def mks(ord:List (Str×Str)) (aq:Str) (ak:List (Str×List Row)):List Str:=cO (eI (inO ord++[aq]++inK ak))
theorem kU{ord:List (Str×Str)}:(inO ord).length<=ord.length*2:=v8 fun x _=>F9 _
structure LxM(ord:List (Str×Str)) (aq:Str) (ak:List (Str×List Row)):Prop extends LxP ord aq ak where
 o4:ord.length<=4
 k4:(inK ak).length<=40
 so:∀x∈inO ord,x∈fN
 sg:aq∈fN
theorem LxM.take{ord:List (Str×Str)}{aq:Str}{ak:List (Str×List Row)}(h:LxM ord aq ak) (i:Nat):(inK (ak.take i)).length<=40:=by
 refine P7 ?_ h.k4;have:inK ak=inK (ak.take i)++inK (ak.drop i):=by unfold inK;rw[<-List.flatMap_append,List.take_append_drop]
 rw[this,F6];lia
theorem eZ{ord:List (Str×Str)}{aq:Str}{ak:List (Str×List Row)}{x:Str}:x∈mks ord aq ak↔x∈inO ord∨x=aq∨x∈inK ak:=by
 unfold mks cO;rw[(ac7 _ _).mem_iff,lN];simp only[O3,N5,or_assoc]
theorem iP{ord:List (Str×Str)}{aq:Str}{ak:List (Str×List Row)}:(mks ord aq ak).Nodup:=by
 unfold mks cO;exact(ac7 _ _).nodup_iff.mpr (oo _)
theorem LxM.len{ord:List (Str×Str)}{aq:Str}{ak:List (Str×List Row)}(h:LxM ord aq ak):(mks ord aq ak).length<=49:=by
 have h1:=lb (inO ord++[aq]++inK ak);have h2:=h.k4;have h3:=h.o4;have h4:=kU (ord:=ord);simp only[F6,P2,ab6]at h1;unfold mks cO;rw[List.length_mergeSort];lia
theorem LxM.one{ord:List (Str×Str)}{aq:Str}{ak:List (Str×List Row)}(h:LxM ord aq ak) {x:Str}(hx:x∈mks ord aq ak):x∈fN:=by
 rcases eZ.mp hx with q|rfl|q
 ·exact h.so x q
 ·exact h.sg
 ·obtain⟨e,he,q⟩:=T4.mp q;obtain⟨r,hr,q⟩:=T4.mp q;obtain⟨s,hs,rfl⟩:=O9.mp q;exact(((h.sh e he).2.2.2.2 r hr).2 s hs).1
theorem LxM.short{ord:List (Str×Str)}{aq:Str}{ak:List (Str×List Row)}(h:LxM ord aq ak) {x:Str}(hx:x∈mks ord aq ak):cA x=true:=rR (h.one hx)
theorem LxM.few{ord:List (Str×Str)}{aq:Str}{ak:List (Str×List Row)}(h:LxM ord aq ak):(mks ord aq ak).length<=26:=fL _ fN iP fun _ hx=>h.one hx
def ji:SpD:=fun ds M R=>∃(ord:List (Str×Str)) (aq:Str) (ak:List (Str×List Row)),ds=[dR ord aq ak]/\LxM ord aq ak/\R (.lst ((mks ord aq ak).map .str)) M
theorem mS(F:Fun K "marks_of" "marks_of" df f fd) (T:Txt mg) :bA P w K mg base CX0 1 f fd ["lexicon"] (spD K 1 ji):=by
 have nd:=iC.nd;refine F.okR rfl iC (fun cdv A outer s H E hr=>⟨_,(ah (nN (aa 0) (ft rfl (br (aG (i:=1) nd rfl (L6 rfl)) (br (aG (i:=2) nd rfl (L6 rfl)) (br (aG (i:=3) nd rfl (L6 rfl)) fo)))))
   (ah (xq (i:=4) nd rfl rfl rfl (ms:=[false,false,false,false,false,false]) (ai:=["pair","mark"]) (aF (n0:=0) rfl (show aS (aj df) bB _ _=true from by decide +kernel)) rfl (aK (aa 1)) (az (i:=6) (show(bB++_).Nodup from by decide +kernel) rfl rfl) (fun _ _ _ _=>bv) (fun _ _ _ _=>(aK (aa 6))) (az (i:=7) (show(bB++_).Nodup from by decide +kernel) rfl rfl) (fun _ _ _ _=>bv) (fun _ _ _ _=>(aa 7)))
   (ah (wC (i:=5) nd rfl rfl rfl (ms:=[false,false,false,false,false,false]) (ai:=["word","kinds","kind","mark","turn"]) (aF (n0:=0) rfl (show aS (aj df) bB _ _=true from by decide +kernel)) rfl (aK (aa 3)) (dr (n:=2) rfl (aV (az (i:=6) (show(bB++_).Nodup from by decide +kernel) rfl rfl) (aV (az (i:=7) (show(bB++_).Nodup from by decide +kernel) rfl rfl) da))) (fun _ _ _ _=>bv) (fun _ _ _ _=>(aK (aa 7))) (az (i:=8) (show(bB++_).Nodup from by decide +kernel) rfl rfl) (fun _ _ _ _=>bv) (fun _ _ _ _=>(aK (aa 8))) (dr (n:=2) rfl (aV (az (i:=9) (show(bB++_).Nodup from by decide +kernel) rfl rfl) (aV (az (i:=10) (show(bB++_).Nodup from by decide +kernel) rfl rfl) da))) (fun _ _ _ _=>bv) (fun _ _ _ _=>(aa 9)))
   (am (aW (De rfl rfl T.b_sorted rfl T.b_set (aw bq (aw bq (aa 4) (ck (ab (aa 2) ag))) (aa 5)))))))),fun ds M R _ hS bk=>?_⟩)
 obtain⟨ord,aq,ak,rfl,hL,k⟩:=hS;have ho:=hL.o4;refine bk ?_;clear bk;have ho2:=kU (ord:=ord);have hk2:=hL.k4;have eO:(ord.flatMap fun p=>[D.str p.1,D.str p.2])=(inO ord).map D.str:=by unfold inO;rw[List.map_flatMap];rfl
 have eK:(ak.flatMap fun e=>e.2.flatMap fun r=>r.map fun s=>D.str s.1)=(inK ak).map D.str:=by
  unfold inK;simp only[List.map_flatMap,N0];rfl
 simp only[dR];walk_at "rd";refine⟨_,rfl,_,rfl,_,rfl,fun _=>?_⟩;refine eE bo (fun p=>[D.str p.1,D.str p.2]) (fun Δ=>∃a b,Δ=[none,none,none,none,none,none,a,b]) ord _ _ _ ?_ ⟨_,_,rfl⟩ ?_ ?_
 ·rintro⟨x,y⟩ hp Δ ⟨a,b,rfl⟩;refine⟨_,rfl,fun acc Q2 hz q2=>?_⟩;simp only[iX,pJ,rA];refine⟨_,rfl,_,rfl,fun _=>?_⟩;refine eE D.str (fun x=>[D.str x]) (fun Δ=>∃b,Δ=[none,none,none,none,none,none,some (bo (x,y)),b]) [x,y] _ _ _ ?_ ⟨_,rfl⟩ hz (by rintro Δ' ⟨b,rfl⟩;exact q2 _ ⟨_,_,rfl⟩);rintro z hz' Δ ⟨b,rfl⟩;refine⟨_,rfl,fun acc2 Q3 hz3 q3=>?_⟩;simp only[k6,rA];exact⟨_,rfl,q3 _ ⟨_,rfl⟩⟩
 ·rw[eO,F1];exact sz3 _ (by simp;lia)
 rintro Δ' -
 rw[eO,K5];refine⟨_,rfl,_,rfl,fun _=>?_⟩;refine eE et (fun e=>e.2.flatMap fun r=>r.map fun s=>D.str s.1) (fun Δ=>∃a b c d e,Δ=[none,none,none,none,none,none,a,b,c,d,e]) ak _ _ _ ?_ ⟨_,_,_,_,_,rfl⟩ ?_ ?_
 ·rintro e he' Δ ⟨a,b,c,d,e5,rfl⟩;refine⟨_,rfl,fun acc Q2 hz q2=>?_⟩;simp only[iX,pJ,rA];refine⟨_,rfl,_,rfl,fun _=>?_⟩;refine eE aA (fun r=>r.map fun s=>D.str s.1) (fun Δ=>∃c d e5,Δ=[none,none,none,none,none,none,some (.str e.1),some (dE e.2),c,d,e5]) e.2 _ _ _ ?_ ⟨_,_,_,rfl⟩ hz (by rintro Δ' ⟨c,d,e5,rfl⟩;exact q2 _ ⟨_,_,_,_,_,rfl⟩);rintro r hr Δ ⟨c,d,e5,rfl⟩;refine⟨_,rfl,fun acc2 Q3 hz3 q3=>?_⟩;simp only[iX,pJ,rA];refine⟨_,rfl,_,rfl,fun _=>?_⟩;refine eE aM (fun s=>[D.str s.1]) (fun Δ=>∃d e5,Δ=[none,none,none,none,none,none,some (.str e.1),some (dE e.2),some (aA r),d,e5]) r _ _ _ ?_ ⟨_,_,rfl⟩ (by rw[lJ];exact hz3) (by rintro Δ' ⟨d,e5,rfl⟩;rw[lJ];exact q3 _ ⟨_,_,_,rfl⟩);rintro s hs Δ ⟨d,e5,rfl⟩;refine⟨_,rfl,fun acc3 Q4 hz4 q4=>?_⟩;simp only[k6,rA];exact⟨_,rfl,q4 _ ⟨_,_,rfl⟩⟩
 ·rw[eK,F1];exact sz3 _ (by simp;lia)
 rintro Δ' -
 rw[eK,K5];refine⟨_,rfl,_,rfl,sz3 1,_,if_pos (sz3 _ (by simp;lia)),_,rfl,_,if_pos (sz3 _ (by simp;lia)),inO ord++[aq]++inK ak,?_,by simp;lia,k⟩;simp[rdM]
theorem B1{cs:List Nat}{c:Nat}:((cs.map fun c=>D.str (tx [c])).any fun d=>eqD d (.str (tx [c])))=decide (c∈cs):=by
 rw[ab8,List.any_map,List.any_eq_true,decide_eq_true_eq];constructor
 ·rintro⟨e,he,h⟩;have:tx [e]=tx [c]:=by simpa[eqD]using h
  have h2:=congrArg (fun z:Str=>z.cps.toList) this;simp only[ip]at h2;obtain rfl:e=c:=by simpa using h2
  exact he
 ·intro h;exact⟨c,h,by simp[eqD]⟩
theorem vc{cs:List Nat}(h:cs.length<26):0<(fk.filter fun c=>!decide (c∈cs)).length:=by
 rw[List.length_pos_iff];intro e;have h2:fk.length<=cs.length:=fL fk cs (by decide) fun c hc=>by
  rw[List.filter_eq_nil_iff]at e;simpa using e c hc
 have:fk.length=26:=by decide
 lia
def j8(n:Nat) (ss xs:List Int):Prop:=xs.length=n/\∀(i:Nat) (x s:Int),xs[i]?=some x->ss[i]?=some s->0<=x/\x<s
theorem j8.snoc{n:Nat}{ss xs:List Int}{x s:Int}(h:j8 n ss xs) (hs:ss[n]?=some s) (h0:0<=x) (h1:x<s):j8 (n+1) ss (xs++[x]):=by
 refine⟨by rw[F6,h.1];rfl,fun i y t hy ht=>?_⟩
 by_cases hi:i<xs.length
 ·rw[O1 hi]at hy;exact h.2 i y t hy ht
 ·have hl:i<(xs++[x]).length:=(F8.mp hy).1;have hn:=h.1;rw[F6]at hl;simp at hl;obtain rfl:i=n:=by lia
  rw[U8 (by lia),hn,Nat.sub_self]at hy;rw[hs]at ht;cases ht;cases hy;exact⟨h0,h1⟩
def AV(ss xs:List Int):Prop:=j8 ss.length ss xs
def oy(n:Nat) (xs:List Int):Prop:=xs.length=n/\∀x∈xs,0<=x/\x<720720
theorem wR{n:Nat}{xs:List Int}(h:AV (I0 n 720720) xs):oy n xs:=by
 have hl:=h.1;rw[V6]at hl;refine⟨hl,fun x hx=>?_⟩;obtain⟨i,hi,rfl⟩:=W1.mp hx;exact h.2 i _ 720720 (u8 hi) (by rw[U1,if_pos (by lia)])
theorem ug{a b:Prop} [Decidable a] [Decidable b] {P Q:Prop}(h1:P) (h2:Q):if a then P else if b then P else Q:=by
 split
 ·exact h1
 ·split
  ·exact h1
  ·exact h2
def j7:SpD:=fun ds M R=>∃(c:Int) (ss:List Int),ds=[.int c,.lst (ss.map D.int)]/\ss.length<=500/\(∀s∈ss,0<s/\s<1073741824)/\∀xs,AV ss xs->R (.lst (xs.map D.int)) M
theorem qS(F:Fun K "_law_parts" "_law_parts" jL f fd) (T:Txt mg) :bA P w K mg base CX0 1 f fd ["_law_cell","_law_sizes_here"] (spD K 2 j7):=by
 have nd:=mi.nd;refine F.okR rfl mi (fun cdv A outer s H E hr=>⟨_,(ah (aC (i:=2) nd rfl (L6 rfl) (di ag))
   (aJ (ah (bC (gc (cZ (aQ oE (aa 0) af nbh) (dq (aQ EV (aa 0) (aw iZ af af) nbh)))) (aJ (ah (bU K9 rfl (aK (aa 1)) (aG (i:=3) nd rfl (L6 rfl)) (ah (cj (eT (aa 2) (aw bh (aa 0) (aa 3))))
   (am (aC (i:=0) nd rfl (L6 rfl) (aw dB (aa 0) (aa 3))))))
   (aJ (am (oq (aa 2)))))) bf)
   (aJ (ah (aC (i:=4) nd rfl (L6 rfl) (aw bq (aw bh (aa 0) af) af))
   (aJ (ah (bU K9 rfl (aK (aa 1)) (aG (i:=3) nd rfl (L6 rfl)) (ah (aC (i:=4) nd rfl (L6 rfl) (aw bh (aw bq (aw bK (aa 4) af) af) af))
   (am (cj (eT (aa 2) (aw bh (aw dB (aw bh (aw bK (aa 4) af) af) af) (aa 3)))))))
   (aJ (am (oq (aa 2))))))))))),fun ds M R _ hS bk=>?_⟩)
 obtain⟨c,ss,rfl,hn,hs,k⟩:=hS;refine bk ?_;clear bk;walk_at "rd";refine⟨sz3 0,fun p hp=>ar ?_⟩;walk_at "rd";refine ug (ar ?_) (ar ?_)
 ·walk_at "rd";intro hz;refine aI (fun i Δ M'=>∃(c':Int) (acc:List Int) (x3:Option D),Δ=[some (D.int c'),some (D.lst (ss.map D.int)),some (D.ref p),x3,none]/\M'=aH M p (.lst (acc.map D.int))/\j8 i ss acc) ⟨c,[],none,rfl,rfl,rfl,fun _ _ _ h=>by simp at h⟩ ?_ ?_
  ·rintro i d Δ M' X hd ⟨c',acc,x3,rfl,rfl,hN⟩ k';obtain⟨x,hx,rfl⟩:=bZ hd;obtain⟨h0,h1⟩:=hs x (J1 hx);have hi:i<ss.length:=(F8.mp hx).1;simp only[gU];walk_at "rd";refine⟨_,if_pos h0,?_⟩;refine⟨by rw[F1,hN.1];exact J5 (by lia:i<1000) (sz3 1000),?_⟩;refine⟨_,if_pos (show lM c' x from⟨h0,h1⟩),?_⟩;exact k' _ _ ⟨_,acc++[c' % x],_,rfl,by rw[O2];rfl,hN.snoc hx (X4 _ (by lia)) (V9 _ h0)⟩
  ·rintro Δ M' ⟨c',acc,x3,rfl,rfl,hN⟩;refine ar ?_;walk_at "rd";rw[dM hp];rw[F1]at hN;exact k acc hN
 ·walk_at "rd";refine ar ?_;walk_at "rd";intro hz;refine aI (fun i Δ M'=>∃(sd:Int) (acc:List Int) (x3:Option D),Δ=[some (D.int c),some (D.lst (ss.map D.int)),some (D.ref p),x3,some (D.int sd)]/\M'=aH M p (.lst (acc.map D.int))/\j8 i ss acc/\0<=sd/\sd<2147483700) ⟨_,[],none,rfl,rfl,⟨rfl,fun _ _ _ h=>by simp at h⟩,by lia,by lia⟩ ?_ ?_
  ·rintro i d Δ M' X hd ⟨sd,acc,x3,rfl,rfl,hN,s0,s1⟩ k';obtain⟨x,hx,rfl⟩:=bZ hd;obtain⟨h0,h1⟩:=hs x (J1 hx);have hi:i<ss.length:=(F8.mp hx).1;refine⟨_,rfl,?_⟩;walk_at "rd";refine⟨_,if_pos h0,?_⟩;refine⟨?_,k' _ _ ⟨_,acc++[(sd*69069+12345) % 2147483587*40503 % 2147483563 / 11 % x],_,rfl,by rw[O2];rfl,hN.snoc hx (X4 _ (by lia)) (V9 _ h0),by lia,by lia⟩⟩;rw[F1,hN.1];exact J5 (by lia:i<1000) (sz3 1000)
  ·rintro Δ M' ⟨sd,acc,x3,rfl,rfl,hN,s0,s1⟩;refine ar ?_;walk_at "rd";rw[dM hp];rw[F1]at hN;exact k acc hN
def ki:SpD:=fun ds M R=>∃(xs:List Int) (n:Nat),ds=[.lst (xs.map D.int),.int n]/\n<=xs.length/\n<=10/\(∀x∈xs,0<=x/\x<720720)/\∀cs:List Nat,cs.length=n->cs.Nodup->(∀c∈cs,c∈fk)->R (.lst (cs.map fun c=>D.str (tx [c]))) M
theorem n9(F:Fun K "_law_letters" "_law_letters" eX f fd) (T:Txt mg) :bA P w K mg base CX0 1 f fd ["_law_xs","_law_amount"] (spD K 2 ki):=by
 have nd:=jD.nd;refine F.okR rfl jD (fun cdv A outer s H E hr=>⟨_,(ah (aC (i:=2) nd rfl (L6 rfl) fe)
   (ah (aC (i:=3) nd rfl (aj0 rfl) (di ag))
   (aJ (ah (bU K9 rfl (de rfl T.b_range (ab (aa 1) ag)) (aG (i:=4) nd rfl (L6 rfl)) (ah (i8 (i:=5) nd rfl rfl rfl (ms:=[false,false,false,true,false,false]) (ai:=["_law_sign"]) (aF rfl (show aS (aj eX) gE _ _=true from by decide +kernel)) rfl (aK (aa 2)) (az (i:=6) (show(gE++_).Nodup from by decide +kernel) rfl rfl) (fun _ _ _ _=>(rO (aQ lF (aa 6) (aa 3) rfl))) (fun _ _ _ _=>(aa 6)))
   (aJ (am (cj (eT (aa 3) (aD aE (aa 5) (aw bh (aD aE (aa 0) (aa 4) (fun _ _=>rfl)) (au bc rfl T.b_len (by kernel_rfl) (ab (aa 5) ag))) (fun _ _=>rfl))))))))
   (aJ (am (oq (aa 3)))))))),fun ds M R _ hS bk=>?_⟩)
 obtain⟨xs,n,rfl,hn,hn10,hx,k⟩:=hS;refine bk ?_;clear bk;walk_at "rd";refine⟨sz3 0,fun p hp=>ar ?_⟩;walk_at "rd";rw[N4];refine⟨by lia,by lia,?_⟩;refine aI (fun i Δ M'=>∃(cs:List Nat) (x4 x5:Option D),Δ=[some (D.lst (xs.map D.int)),some (D.int n),some (D.str abc),some (D.ref p),x4,x5]/\M'=aH M p (.lst (cs.map fun c=>D.str (tx [c])))/\cs.length=i/\cs.Nodup/\∀c∈cs,c∈fk) ⟨[],none,none,rfl,rfl,rfl,List.nodup_nil,fun _ h=>by cases h⟩ ?_ ?_
 ·rintro i d Δ M' X hd ⟨cs,x4,x5,rfl,rfl,hl,hnd,hab⟩ k';obtain⟨hi,rfl⟩:=cg hd;refine⟨_,rfl,?_⟩;walk_at "rd";refine⟨_,if_pos (by rw[rg,oO];exact sz3 _),fun hz=>⟨hz,?_⟩⟩;rw[uB];refine bw (fun(c:Nat)=>D.str (tx [c])) (fun c=>!decide (c∈cs)) (fun c=>D.str (tx [c])) (fun Δ=>∃x,Δ=[none,none,none,some (D.ref p),none,none,x]) fk _ _ (fun c hc Δ hΔ=>?_) ⟨none,rfl⟩ ?_
  ·obtain⟨x,rfl⟩:=hΔ;refine⟨_,rfl,⟨_,rfl⟩,fun Q1 q=>?_,fun _ Q2 q=>?_⟩
   ·walk_at "rd";refine⟨_,if_pos ⟨rfl,by rw[R0,M7];intro _ _;rfl⟩,_,rfl,?_⟩;rw[B1,Bool.true_xor];exact q
   ·walk_at "rd";exact q
  rw[K5];have hne:=vc (by lia:cs.length<26);have hin:∀c∈fk.filter (fun c=>!decide (c∈cs)),c∈fk/\c∉cs:=fun c hc=>by
   have:=ag7.mp hc;exact⟨this.1,by simpa using this.2⟩
  generalize fk.filter (fun c=>!decide (c∈cs))=rest at hne hin;refine ar ?_;walk_at "rd";rw[Z8];obtain⟨x,hx'⟩:∃x,xs[i]?=some x:=⟨_,u8 (by lia)⟩;have hx2:=hx x (J1 hx');have hm0:0<=x % (rest.length:Int):=X4 _ (by lia);have hm1:x % (rest.length:Int)<(rest.length:Int):=V9 _ (by lia);obtain⟨v,hv⟩:∃v:Nat,x % (rest.length:Int)=(v:Int):=⟨_,(ac9 hm0).symm⟩;have hvl:v<rest.length:=by lia
  refine⟨_,aL (by rw[J6,hx'];rfl),?_⟩;walk_at "rd";rw[F1];refine⟨_,if_pos (by lia),?_⟩;walk_at "rd";rw[hv];have hr:=hin rest[v] (P3 _);refine⟨_,aL (by rw[J6,u8 hvl];rfl),?_,k' _ _ ⟨cs++[rest[v]],_,_,rfl,by rw[O2];rfl,by rw[F6,hl];rfl,?_,fun c hc=>?_⟩⟩
  ·rw[F1];exact J5 (by lia:cs.length<1000) (sz3 1000)
  ·rw[af5];refine⟨hnd,by simp,fun u hu w hw=>?_⟩;obtain rfl:w=rest[v]:=by simpa using hw
   rintro rfl;exact hr.2 hu
  ·rcases O3.mp hc with z|z
   ·exact hab c z
   ·obtain rfl:c=rest[v]:=by simpa using z
    exact hr.1
 ·rintro Δ M' ⟨cs,x4,x5,rfl,rfl,hl,hnd,hab⟩;refine ar ?_;walk_at "rd";rw[dM hp];rw[bD]at hl;exact k cs hl hnd hab
theorem DM{M:DH}{p q:J7}{a b:HD}(h1:M p=none) (h2:M q=none):LeM M (aH (aH M p a) q b):=fun c o e=>by
 unfold aH
 split
 ·rename_i z;rw[z,h2]at e;cases e
 ·split
  ·rename_i z;rw[z,h1]at e;cases e
  ·exact e
def pF:SpD:=fun ds M R=>∃(ord:List (Str×Str)) (a b:Str),ds=[.tup (ord.map bo),.str a,.str b]/\ord.length<=500/\∀c:Bool,(a=b->c=true)->R (.bl c) M
theorem uP(F:Fun K "_law_most" "_law_most" lu f fd) (T:Txt mg) :bA P w K mg base CX0 1 f fd ["_law_order","_law_one","_law_other"] (spD K 3 pF):=by
 have nd:=m9.nd;refine F.okR rfl m9 (fun cdv A outer s H E hr=>⟨_,(ah (aC (i:=3) nd rfl (L6 rfl) (di (ab (aa 1) ag)))
   (ah (aC (i:=4) nd rfl (L6 rfl) af)
   (ah (kR K9 (aQ oE (aa 4) (au bc rfl T.b_len (by kernel_rfl) (ab (aa 3) ag)) nbh) (ah (bU K9 rfl (aK (aa 0)) (ft rfl (br (aG (i:=5) nd rfl (L6 rfl)) (br (aG (i:=6) nd rfl (L6 rfl)) fo))) (am (bC (gc (mj (aQ (eU hr.units) (aa 5) (aD aE (aa 3) (aa 4) (fun _ _=>rfl)) nbh) (jl (aQ lF (aa 6) (aa 3) rfl)))) (am (cj (eT (aa 3) (aa 6)))) bf)))
   (am (aC (i:=4) nd rfl (L6 rfl) (aw bq (aa 4) af)))))
   (am (eJ (fh xF (aa 2) (aa 3) rfl)))))),fun ds M R _ hS bk=>?_⟩)
 obtain⟨ord,a,b,rfl,ho,k⟩:=hS;refine bk ?_;clear bk;walk_at "rd";refine⟨sz3 1,fun q hq=>?_⟩;refine⟨fun m Δ M'=>∃(i:Nat) (L:List Str) (x4 x5:Option D),Δ=[some (D.tup (ord.map bo)),some (D.str a),some (D.str b),some (D.ref q),some (D.int i),x4,x5]/\M'=aH M q (.lst (L.map .str))/\i<=L.length/\L.Nodup/\a∈L/\(∀x∈L,x∈a::ord.map (·.2))/\m=ord.length+1-i,
  ⟨_,0,[a],none,none,rfl,rfl,P6 _,by simp,by simp,fun x hx=>by
   have:x=a:=by simpa using hx
   subst this;simp,rfl⟩,?_⟩
 rintro m Δ M' ⟨i,L,x4,x5,rfl,rfl,hiL,hn,ha,hb,rfl⟩;have cS:L.length<=ord.length+1:=by
  have:=fL L (a::ord.map (·.2)) hn hb;simpa using this
 walk_at "rd";rw[F1];refine bj (fun h=>?_) (fun h=>?_)
 ·have hi:i<L.length:=by lia
  intro hz;refine aI (fun j Δ M'=>∃(L':List Str) (y4 y5:Option D),Δ=[some (D.tup (ord.map bo)),some (D.str a),some (D.str b),some (D.ref q),some (D.int i),y4,y5]/\M'=aH M q (.lst (L'.map .str))/\L.length<=L'.length/\L'.Nodup/\a∈L'/\∀x∈L',x∈a::ord.map (·.2)) ⟨L,x4,x5,rfl,rfl,F9 _,hn,ha,hb⟩ ?_ ?_
  ·rintro j d Δ M' X hd ⟨L',y4,y5,rfl,rfl,hl',hn',ha',hb'⟩ k';obtain⟨⟨u,v⟩,hp,rfl⟩:=bZ hd;have hmem:=J1 hp;have hlen':L'.length<=ord.length+1:=by
    have:=fL L' (a::ord.map (·.2)) hn' hb';simpa using this
   have hi':i<L'.length:=by lia
   simp only[bo,jt,gb,gU,k8,ad2];refine⟨_,rfl,?_⟩;walk_at "rd";refine⟨_,aL (by rw[J6,u8 hi'];rfl),?_⟩;walk_at "rd";refine bj (fun h=>?_) (fun h=>?_)
   ·refine⟨_,if_pos ⟨rfl,pQ⟩,_,rfl,?_⟩;rw[kW]
    by_cases hc:v∈L'
    ·simp only[hc,decide_true,Bool.xor_true,Bool.not_true,K1,if_false];exact k' _ _ ⟨L',_,_,rfl,rfl,hl',hn',ha',hb'⟩
    ·simp only[hc,decide_false,Bool.xor_false,if_true];refine⟨by rw[F1];exact J5 (by lia:L'.length<1000) (sz3 1000),k' _ _ ⟨L'++[v],_,_,rfl,by rw[O2];rfl,by rw[F6];lia,?_,T6 _ ha',cE hb' (O7 _ (O9.mpr ⟨_,hmem,rfl⟩))⟩⟩;rw[af5];refine⟨hn',by simp,fun x hx y hy=>?_⟩;obtain rfl:y=v:=by simpa using hy
     rintro rfl;exact hc hx
   ·exact k' _ _ ⟨L',_,_,rfl,rfl,hl',hn',ha',hb'⟩
  ·rintro Δ M' ⟨L',y4,y5,rfl,rfl,hl',hn',ha',hb'⟩;walk_at "rd";exact⟨ord.length+1-(i+1),by lia,i+1,L',y4,y5,by simp,rfl,by lia,hn',ha',hb',rfl⟩
 ·refine⟨_,if_pos ⟨rfl,pQ⟩,M,eC hq,?_⟩;rw[kW,Bool.false_xor];exact k _ (fun e=>by rw[<-e];exact decide_eq_true ha)
def stD(s:Nat×Nat):D:=.tup [.int (s.1:Int),.int (s.2:Int)]
def stI(s:Nat×Nat):Int×Int:=((s.1:Int),(s.2:Int))
def cC(l:List Nat):List D:=l.map fun(c:Nat)=>D.int (c:Int)
theorem sU{l:List (Nat×Nat)}:l.map stD=(l.map stI).map pD:=by rw[N0];rfl
def srt(l:List (Nat×Nat)):List (Nat×Nat):=(iD (l.map stI)).map fun p=>(p.1.toNat,p.2.toNat)
theorem yV{l:List (Nat×Nat)}:(srt l).map stI=iD (l.map stI):=by
 unfold srt;rw[N0]
 conv=>rhs;rw[<-List.map_id (iD (l.map stI))]
 refine List.map_congr_left fun p hp=>?_;obtain⟨a,_,rfl⟩:=O9.mp ((iW (l.map stI)).mem_iff.mp hp);simp[stI]
theorem qt:∀{l:List (Nat×Nat)},(l.map stI).map (fun p:Int×Int=>(p.1.toNat,p.2.toNat))=l
 |[]=>rfl
 |a::l=>by rw[J8,J8,qt];simp[stI]
theorem lG{l:List (Nat×Nat)}:(srt l).Perm l:=by
 have h:=(iW (l.map stI)).map fun p:Int×Int=>(p.1.toNat,p.2.toNat);rw[qt]at h;exact h
def pV(i:Nat) (h:List Nat) (F:List (Nat×Nat)):Prop:=h.length+2*F.length=i/\(∀x∈h,x<i)/\(∀a∈F,a.1<a.2/\a.2<i)/\∀p,p<i->p∈h∨∃a∈F,a.1=p∨a.2=p
theorem pV.push{i:Nat}{h:List Nat}{F:List (Nat×Nat)}(I:pV i h F):pV (i+1) (h++[i]) F:=by
 obtain⟨h1,h2,h3,h4⟩:=I;refine⟨by rw[F6];simp;lia,cE (fun x hx=>by have:=h2 x hx;lia) (by lia),fun a ha=>⟨(h3 a ha).1,by have:=(h3 a ha).2;lia⟩,fun p hp=>?_⟩
 by_cases e:p=i
 ·left;rw[e];simp
 ·rcases h4 p (by lia)with q|q
  ·left;exact T6 _ q
  ·right;exact q
theorem pV.pop{i t:Nat}{h:List Nat}{F:List (Nat×Nat)}(I:pV i (h++[t]) F):pV (i+1) h (F++[(t,i)]):=by
 obtain⟨h1,h2,h3,h4⟩:=I;rw[F6]at h1;simp only[P2,ab6]at h1;have ht:=h2 t (by simp);refine⟨by rw[F6];simp;lia,fun x hx=>by have:=h2 x (by simp[hx]);lia,cE (fun a ha=>by have:=h3 a ha;lia) ⟨ht,by show i<i+1;lia⟩,fun p hp=>?_⟩;have last:(t,i)∈F++[(t,i)]:=by simp
 by_cases e:p=i
 ·right;exact⟨_,last,.inr e.symm⟩
 ·rcases h4 p (by lia)with q|⟨a,ha,q⟩
  ·rcases O3.mp q with q|q
   ·left;exact q
   ·right;exact⟨_,last,.inl (N5.mp q).symm⟩
  ·right;exact⟨a,T6 _ ha,q⟩
def kq:SpD:=fun ds M R=>∃(xs:List Int) (n:Nat),ds=[.lst (xs.map D.int),.int n]/\2*n<=xs.length/\n<=6/\∀arcs:List (Nat×Nat),arcs.length=n->(∀a∈arcs,a.1<a.2/\a.2<2*n)->(∀p,p<2*n->∃a∈arcs,a.1=p∨a.2=p)->R (.lst (arcs.map stD)) M
theorem oC(F:Fun K "_law_matched" "_law_matched" gL f fd) (T:Txt mg) :bA P w K mg base CX0 1 f fd ["_law_xs","_law_amount"] (spD K 2 kq):=by
 have nd:=js.nd;refine F.okR rfl js (fun cdv A outer s H E hr=>⟨_,(ah (aC (i:=2) nd rfl (L6 rfl) (di ag))
   (ah (aC (i:=3) nd rfl (L6 rfl) (di ag))
   (ah (aC (i:=4) nd rfl (L6 rfl) (aa 1))
   (aJ (ah (bU K9 rfl (de rfl T.b_range (ab (aw bK af (aa 1)) ag)) (aG (i:=5) nd rfl (L6 rfl)) (am (bC (gc (mj (aQ Ci (aa 4) af nbh) (jl (gc (cZ (aQ (eU hr.units) (aa 2) (ck ag) nbh) (dq (aQ (eU hr.units) (aw bh (aD aE (aa 0) (aa 5) (fun _ _=>rfl)) af) af nbh))))))) (ah (cj (eT (aa 2) (aa 5)))
   (am (aC (i:=4) nd rfl (L6 rfl) (aw gn (aa 4) af)))) (am (cj (eT (aa 3) (bF (ab (Ef (aa 2)) (ab (aa 5) ag)))))))))
   (aJ (am (eJ (au yf rfl T.b_sorted (by kernel_rfl) (ab (aa 3) ag)))))))))),fun ds M R _ hS bk=>?_⟩)
 obtain⟨xs,n,rfl,hn,hn6,k⟩:=hS;refine bk ?_;clear bk;walk_at "rd";refine⟨sz3 0,fun p hp=>⟨sz3 0,fun q hq=>ar ?_⟩⟩;walk_at "rd";refine⟨by lia,by lia,?_⟩;have hpq:p≠q:=by
  intro e;rw[e,aP]at hq;cases hq
 have hMq:M q=none:=by rw[cQ (aa7 hpq)]at hq;exact hq
 rw[show(2*(n:Int)).toNat=2*n by lia];refine aI (fun i Δ M'=>∃(h:List Nat) (F:List (Nat×Nat)) (x5:Option D),Δ=[some (D.lst (xs.map D.int)),some (D.int n),some (D.ref p),some (D.ref q),some (D.int ((n:Int)-h.length-F.length)),x5]/\M'=aH (aH M p (.lst (cC h))) q (.lst (F.map stD))/\pV i h F/\h.length+F.length<=n) ⟨[],[],none,by simp,rfl,by simp[pV],P6 _⟩ ?_ ?_
 ·rintro i d Δ M' X hd ⟨h,F,x5,rfl,rfl,hI,hle⟩ k';obtain⟨hi,rfl⟩:=cg hd;have e1:(aH (aH M p (.lst (cC h))) q (.lst (F.map stD))) p=some (.lst (cC h)):=by rw[cQ hpq,aP]
  have r1:rdM (aH (aH M p (.lst (cC h))) q (.lst (F.map stD))) (.ref p)=.lst (cC h):=fQ e1;refine⟨_,rfl,?_⟩;simp only[Z8];walk_at "rd";simp only[r1,e1];walk_at "rd";have hI1:=hI.1;have push:h.length+F.length<n->(cC h).length<F7/\X [some (D.lst (xs.map D.int)),some (D.int n),some (D.ref p),some (D.ref q),some (D.int ((n:Int)-h.length-F.length-1)),some (D.int (i:Int))] (aH (aH (aH M p (.lst (cC h))) q (.lst (F.map stD))) p (.lst (cC h++[D.int (i:Int)]))):=fun hlt=>by
   refine⟨?_,k' _ _ ⟨h++[i],F,some (D.int (i:Int)),?_,?_,hI.push,?_⟩⟩
   ·rw[cC,F1];exact J5 (by lia:h.length<1000) (sz3 1000)
   ·rw[F6,show((h.length+[i].length:Nat):Int)=(h.length:Int)+1 by simp,show(n:Int)-h.length-F.length-1=(n:Int)-((h.length:Int)+1)-F.length by lia]
   ·rw[eG hpq,cf,eG (aa7 hpq)];simp[cC]
   ·rw[F6];simp;lia
  have pop:h≠[]->∃x x_1,cC h=x++[x_1]/\2<=F7/\∃ds,aH (aH (aH M p (.lst (cC h))) q (.lst (F.map stD))) p (.lst x) q=some (.lst ds)/\ds.length<F7/\X [some (D.lst (xs.map D.int)),some (D.int n),some (D.ref p),some (D.ref q),some (D.int ((n:Int)-h.length-F.length)),some (D.int (i:Int))] (aH (aH (aH (aH M p (.lst (cC h))) q (.lst (F.map stD))) p (.lst x)) q (.lst (ds++[D.tup [x_1,D.int (i:Int)]]))):=fun hne=>by
   obtain⟨h',t,rfl⟩:∃h' t,h=h'++[t]:=⟨h.dropLast,h.getLast hne,(List.dropLast_concat_getLast hne).symm⟩;refine⟨cC h',D.int (t:Int),by simp[cC],sz3 2,F.map stD,by rw[cQ (aa7 hpq),aP],?_,k' _ _ ⟨h',F++[(t,i)],some (D.int (i:Int)),?_,?_,hI.pop,?_⟩⟩
   ·rw[F1];exact J5 (by lia:F.length<1000) (sz3 1000)
   ·rw[F6,F6,show(n:Int)-((h'.length+[t].length:Nat):Int)-F.length=(n:Int)-h'.length-((F.length+[(t,i)].length:Nat):Int)by simp;lia]
   ·rw[eG hpq,cf,eG (aa7 hpq),cf,O2];rfl
   ·rw[F6]at hle ⊢;simp at hle ⊢;lia
  have hnil:eqF (.lst (cC h)) (.lst [])=some (.bl h.isEmpty):=by
   have h1:dLe (.lst (cC h)) 60=true:=fI _ fun _=>rfl;have h2:dLe (.lst []) 60=true:=rfl;simp only[eqF,h1,h2,and_self,if_true];cases h<;>rfl
  refine bj (fun c1=>?_) (fun c1=>?_)
  ·refine⟨sz3 0,_,hnil,_,rfl,bj (fun c2=>push (by lia)) (fun c2=>?_)⟩;obtain⟨x,hx⟩:∃x,xs[i]?=some x:=⟨_,u8 (by lia)⟩;refine⟨_,aL (by rw[J6,hx];rfl),?_⟩;walk_at "rd";exact bj (fun c3=>push (by lia)) (fun c3=>pop (fun e=>c2 (by rw[e];rfl)))
  ·refine pop (fun e=>?_);rw[e]at hI1 hle c1;simp at hI1 hle c1
   lia
 ·rintro Δ M' ⟨h,F,x5,rfl,rfl,hI,hle⟩;refine ar ?_;walk_at "rd";have h0:h=[]:=by
   have:=hI.1;rw[bD]at this;exact W3.mp (by lia)
  subst h0;have hF:2*F.length=2*n:=by
   have:=hI.1;rw[bD]at this;simpa using this
  rw[sU];refine⟨_,zo (by rw[F1];lia),M,DM hp hMq,?_⟩;rw[<-yV,<-sU];refine k _ (by rw[lG.length_eq];lia) (fun a ha=>?_) (fun p hp=>?_)
  ·have:=hI.2.2.1 a (lG.mem_iff.mp ha);rw[bD]at this;exact this
  ·rcases hI.2.2.2 p (by rw[bD];exact hp)with z|⟨a,ha,q⟩
   ·cases z
   ·exact⟨a,lG.mem_iff.mpr ha,q⟩
def kB(r:Row) (p:Nat):Prop:=∃s,r[p]?=some s/\uL s
theorem kB.set{r:Row}{p j:Nat}{s:Str×Int}(h:kB r p) (hs:uL s):kB (r.set j s) p:=by
 obtain⟨t,h1,h2⟩:=h;have hl:p<r.length:=(F8.mp h1).1
 by_cases e:j=p
 ·subst e;exact⟨s,by rw[S8 hl],hs⟩
 ·exact⟨t,by rw[W0 e];exact h1,h2⟩
theorem kB.new{r:Row}{j:Nat}{s:Str×Int}(hl:j<r.length) (hs:uL s):kB (r.set j s) j:=⟨s,by rw[S8 hl],hs⟩
theorem wF{xs:List Int}{lo hi:Option Int}:∃ys:List Int,L2.cv (xs.map D.int) lo hi=ys.map D.int/\ys.length<=xs.length/\∀y∈ys,y∈xs:=by
 refine⟨(xs.drop (HT.sIx (xs.map D.int).length 0 lo)).take (HT.sIx (xs.map D.int).length (xs.map D.int).length hi-HT.sIx (xs.map D.int).length 0 lo),?_,?_,fun y hy=>S7 (Q0 hy)⟩
 ·unfold L2.cv;rw[Z9,af6]
 ·simp;lia
theorem kZ(x y:Str×Int):eqD (aM x) (aM y)=decide (x=y):=by
 obtain⟨a,b⟩:=x;obtain⟨c,d⟩:=y;rw[ab8];simp[aM,eqD,eA]
theorem yY{a b:Row}:neF (.lst (a.map aM)) (.lst (b.map aM))=some (.bl (!decide (a=b))):=oR aM kZ (fun _=>rfl)
theorem oV{a b:Row}:neF (.tup (a.map aM)) (.tup (b.map aM))=some (.bl (!decide (a=b))):=by
 have h1:dLe (.tup (a.map aM)) 60=true:=fI aM fun _=>rfl;have h2:dLe (.tup (b.map aM)) 60=true:=fI aM fun _=>rfl;simp only[neF,h1,h2,and_self,if_true,eqD,kO aM kZ]
theorem oj{n j:Nat}(h:j<n):ixN n (j:Int)=some j:=by
 unfold ixN;rw[if_pos (by lia),if_pos (by lia)];simp
def mW:SpD:=fun ds M R=>∃(xs:List Int) (arcs:List (Nat×Nat)) (ms:List Str) (ord:List (Str×Str)) (aq:Str),ds=[.lst (xs.map D.int),.lst (arcs.map stD),.lst (ms.map D.str),.tup (ord.map bo),.str aq]/\2*arcs.length<=xs.length/\1<=arcs.length/\arcs.length<=6/\(∀a∈arcs,a.1<a.2/\a.2<2*arcs.length)/\(∀p,p<2*arcs.length->∃a∈arcs,a.1=p∨a.2=p)/\ms.length<=10/\aq∈ms/\(∀m∈ms,m∈fN)/\ord.length<=500 /\
 ∀row:Row,row.length=2*arcs.length->rq row->R (.lst (row.map aM)) M
theorem sC(F:Fun K "_law_signs" "_law_signs" fu f fd) (T:Txt mg) (gb5:FnD P w K mg base "_law_most" 1 3 pF):bA P w K mg base CX0 2 f fd ["_law_xs","_law_arcs","_law_marks_here","_law_order","_law_goal"] (spD K 5 mW):=by
 have nd:=lX.nd;refine F.okR rfl lX (fun cdv A outer s H E hr=>⟨_,(ah (aC (i:=5) nd rfl (L6 rfl) (di ag))
   (aJ (ah (bU K9 rfl (aK (aa 2)) (aG (i:=6) nd rfl (aj0 rfl)) (am (cj (u6 (aa 5) (fF (ms:=[false,false,false,true,false,false,true,false,false,false,false,false]) (ai:=[]) (aF rfl (show aS (aj fu) fO _ _=true from by decide +kernel)) rfl (aK (aa 2)) (az (i:=7) (show(fO++_).Nodup from by decide +kernel) rfl rfl) (fun _ _ _ _=>(rO (bu (qd gb5 hr (ab (aa 3) (ab (aa 6) (ab (aa 7) ag))))))) (fun _ _ _ _=>(bF (ab (aa 6) (ab (aa 7) ag)))))))))
   (aJ (ot 5 (ah (aC (i:=8) nd rfl (L6 rfl) (AN (ck (ab (bF (ab fe (ab af ag))) ag)) (aw bK af (au bc rfl T.b_len (by kernel_rfl) (ab (aa 1) ag)))))
   (aJ (ah (bU K9 rfl (de rfl T.b_range (ab (au bc rfl T.b_len (by kernel_rfl) (ab (aa 1) ag)) ag)) (aG (i:=9) nd rfl (L6 rfl)) (ah (aC (i:=10) nd rfl (L6 rfl) (aw gn (aw bh (aD aE (aa 0) (aw bK af (aa 9)) (fun _ _=>rfl)) af) af))
   (aJ (ah (nN (aD aE (aa 5) (aw bh (aD aE (aa 0) (aw bq (aw bK af (aa 9)) af) (fun _ _=>rfl)) (au bc rfl T.b_len (by kernel_rfl) (ab (aa 5) ag))) (fun _ _=>rfl)) (ft rfl (br (aG (i:=6) nd rfl (aj0 rfl)) (br (aG (i:=7) nd rfl (L6 rfl)) fo))))
   (aJ (ah (bC (aQ (eU hr.units) (aw bh (aa 10) af) af nbh) (aJ (am (nN (bF (ab (aa 7) (ab (aa 6) ag))) (ft rfl (br (aG (i:=6) nd rfl (aj0 rfl)) (br (aG (i:=7) nd rfl (L6 rfl)) fo)))))) bf)
   (aJ (ah (bC (aQ (eU hr.units) (aD aE (aD aE (aa 1) (aa 9) (fun _ _=>rfl)) af (fun _ _=>rfl)) (aw gn (aw bK af (au bc rfl T.b_len (by kernel_rfl) (ab (aa 1) ag))) af) nbh) (aJ (ah (aC (i:=10) nd rfl (L6 rfl) af)
   (aJ (ah (i8 (i:=11) nd rfl rfl rfl (ms:=[false,false,false,false,true,false,false,false,false,false,false,false]) (ai:=["_law_pair_here"]) (aF rfl (show aS (aj fu) fO _ _=true from by decide +kernel)) rfl (aK (aa 5)) (az (i:=12) (show(fO++_).Nodup from by decide +kernel) rfl rfl) (fun _ _ _ _=>(rO (aQ (eU hr.units) (aD aE (aa 12) af (fun _ _=>rfl)) (aa 4) nbh))) (fun _ _ _ _=>(aD aE (aa 12) af (fun _ _=>rfl))))
   (aJ (am (nN (bF (ab (aD aE (aa 11) (aw bh (aD aE (aa 0) (aw bq (aw bK af (aa 9)) af) (fun _ _=>rfl)) (au bc rfl T.b_len (by kernel_rfl) (ab (aa 11) ag))) (fun _ _=>rfl)) (ab (aa 4) ag))) (ft rfl (br (aG (i:=6) nd rfl (aj0 rfl)) (br (aG (i:=7) nd rfl (L6 rfl)) fo)))))))))) bf)
   (aJ (ah (vB (aa 8) (aD aE (aD aE (aa 1) (aa 9) (fun _ _=>rfl)) af (fun _ _=>rfl)) (bF (ab (aa 6) (ab (aa 10) ag))))
   (aJ (am (vB (aa 8) (aD aE (aD aE (aa 1) (aa 9) (fun _ _=>rfl)) af (fun _ _=>rfl)) (bF (ab (aa 7) (ab (aw bq (aa 10) af) ag))))))))))))))))
   (aJ (ot 8 (am (eJ (aa 8))))))))))))),fun ds M R _ hS bk=>?_⟩)
 obtain⟨xs,arcs,ms,ord,aq,rfl,hx,ha1,ha6,hG,hcov,hms,hgo,hsm,ho,k⟩:=hS;refine bk ?_;clear bk;walk_at "rd";refine⟨sz3 0,fun p hp=>ar ?_⟩;walk_at "rd";intro hz;refine aI (fun i Δ M'=>∃(near:List (Str×Str)) (x6 x7:Option D),Δ=[some (D.lst (xs.map D.int)),some (D.lst (arcs.map stD)),some (D.lst (ms.map D.str)),some (D.tup (ord.map bo)),some (D.str aq),some (D.ref p),x6,x7,none,none,none,none]/\M'=aH M p (.lst (near.map bo))/\near.length<=10*i/\(∀y∈near,y.1∈fN/\y.2∈fN)/\∀y∈ms.take i,(y,y)∈near) ⟨[],none,none,rfl,rfl,P6 _,fun _ h=>(by cases h),fun _ h=>(by cases h)⟩ ?_ ?_
 ·rintro i d Δ M' X hd ⟨near,x6,x7,rfl,rfl,hnl,hnr,hnm⟩ k';obtain⟨m,hm,rfl⟩:=bZ hd;refine⟨_,rfl,?_⟩;walk_at "rd";refine fun hz2=>⟨hz2,?_⟩;refine lC (fun j acc Δ M2=>M2=aH M p (.lst (near.map bo))/\∃(x:Option D) (os:List Str),Δ=[none,none,none,some (D.tup (ord.map bo)),none,none,some (D.str m),x,none,none,none,none]/\acc=os.map (fun o=>bo (m,o))/\os.length<=j/\(∀o∈os,o∈ms)/\(m∈ms.take j->m∈os)) ⟨rfl,none,[],rfl,rfl,F9 _,fun _ h=>(by cases h),fun h=>(by cases h)⟩ ?_ ?_
  ·rintro j d acc Δ M2 X2 hd2 ⟨rfl,x,os,rfl,rfl,hl,ho2,hm2⟩ k2;obtain⟨o,hom,rfl⟩:=bZ hd2;refine⟨_,rfl,?_⟩;walk_at "rd";refine⟨ord,m,o,rfl,ho,fun c hc=>⟨_,rfl,?_⟩⟩;have htk:ms.take (j+1)=ms.take j++[o]:=by rw[O6,hom];rfl
   cases c with
   |true =>
    rw[if_pos rfl];refine⟨sz3 2,k2 _ _ _ ⟨rfl,_,os++[o],rfl,by rw[O2];rfl,by rw[F6,ae5];lia,cE ho2 (J1 hom),fun h=>?_⟩⟩;rw[htk]at h;rcases O3.mp h with z|z
    ·exact T6 _ (hm2 z)
    ·exact K8 _ z
   |false =>
    rw[if_neg (by simp)];refine k2 _ _ _ ⟨rfl,_,os,rfl,rfl,by lia,ho2,fun h=>?_⟩;rw[htk]at h;rcases O3.mp h with z|z
    ·exact hm2 z
    ·exact absurd (hc (N5.mp z)) (by simp)
  rintro acc Δ M2 ⟨rfl,x,os,rfl,rfl,hl,ho2,hm2⟩;rw[F1]at hl hm2;rw[S9 (F9 _)]at hm2;have hi:i<ms.length:=(F8.mp hm).1;have hmm:=J1 hm;refine⟨_,aP,by rw[F1,F1];exact sz3 _ (by lia),?_⟩;rw[cf];refine k' _ _ ⟨near++os.map (fun o=>(m,o)),_,_,rfl,by rw[O2,N0];rfl,by rw[F6,F1];lia,fun y hy=>?_,fun y hy=>?_⟩
  ·rcases O3.mp hy with z|z
   ·exact hnr y z
   ·obtain⟨o,hof,rfl⟩:=O9.mp z;exact⟨hsm m hmm,hsm o (ho2 o hof)⟩
  ·rw[O6,hm]at hy;rcases O3.mp hy with z|z
   ·exact T6 _ (hnm y z)
   ·obtain rfl:y=m:=by simpa using z
    exact K8 _ (O9.mpr ⟨y,hm2 hmm,rfl⟩)
 ·rintro Δ M' ⟨near,x6,x7,rfl,rfl,hnl,hnr,hnm⟩;rw[F1,S9 (F9 _)]at hnm;rw[F1]at hnl;refine ar ?_;walk_at "rd";rw[dM hp,F1,show(2*(arcs.length:Int)).toNat=2*arcs.length by lia];refine⟨sz3 2,sz3 1,by lia,by lia,sz3 _ (by lia),fun q hq=>ar ?_⟩;rw[show(I0 (2*arcs.length) [D.tup [D.str (K3 ""),D.int 0]]).flatten=(I0 (2*arcs.length) ((K3 "":Str),(0:Int))).map aM by rw[List.map_replicate,List.flatten_replicate_singleton];rfl];walk_at "rd";rw[F1,N4];refine⟨by lia,by lia,?_⟩;refine aI (fun i Δ M'=>∃(row:Row) (x6 x7 x9 x10 x11:Option D),Δ=[some (D.lst (xs.map D.int)),some (D.lst (arcs.map stD)),some (D.lst (ms.map D.str)),some (D.tup (ord.map bo)),some (D.str aq),some (D.lst (near.map bo)),x6,x7,some (D.ref q),x9,x10,x11]/\M'=aH M q (.lst (row.map aM))/\row.length=2*arcs.length/\∀a∈arcs.take i,kB row a.1/\kB row a.2) ⟨_,_,_,_,_,_,rfl,rfl,by simp,fun a h=>(by cases h)⟩ ?_ ?_
  ·rintro i d Δ M' X hd ⟨row,x6,x7,x9,x10,x11,rfl,rfl,hrl,hrow⟩ k';obtain⟨hi,rfl⟩:=cg hd;refine⟨_,rfl,?_⟩;rw[Z8];obtain⟨xa,hxa⟩:∃xa,xs[2*i]?=some xa:=⟨_,u8 (by lia)⟩;obtain⟨xb,hxb⟩:∃xb,xs[2*i+1]?=some xb:=⟨_,u8 (by lia)⟩;have ea:atI (xs.map D.int) (2*(i:Int))=some (.int xa):=by
    rw[show(2*(i:Int))=((2*i:Nat):Int)by lia];exact aL (by rw[J6,hxa];rfl)
   have eb:atI (xs.map D.int) (2*(i:Int)+1)=some (.int xb):=by
    rw[show(2*(i:Int)+1)=((2*i+1:Nat):Int)by lia];exact aL (by rw[J6,hxb];rfl)
   walk_at "rd";refine⟨_,ea,?_⟩;walk_at "rd";refine ar ?_;walk_at "rd";refine⟨_,eb,?_⟩;walk_at "rd";have hnear:0<near.length:=List.length_pos_iff.mpr (List.ne_nil_of_mem (hnm aq hgo));obtain⟨v,hv,ev⟩:=fW hnear xb;rw[F1];refine⟨_,if_pos (by lia),?_⟩;walk_at "rd";rw[ev];refine⟨_,aL (by rw[J6,u8 hv];rfl),?_⟩;have hnv:=hnr near[v] (P3 _);generalize near[v]=y at hnv;obtain⟨y1,y2⟩:=y;simp only[bo,jt,gb,gU,k8,ad2];refine⟨_,if_pos rfl,?_⟩;obtain⟨a,haa⟩:∃a,arcs[i]?=some a:=⟨_,u8 hi⟩;have ham:=J1 haa;have hga:=hG a ham;have ata:atI (arcs.map stD) (i:Int)=some (stD a):=aL (by rw[J6,haa];rfl);refine ar (iH (fun Δ' M'=>∃(o1 o2:Str),Δ'=[some (D.lst (xs.map D.int)),some (D.lst (arcs.map stD)),some (D.lst (ms.map D.str)),some (D.tup (ord.map bo)),some (D.str aq),some (D.lst (near.map bo)),some (D.str o1),some (D.str o2),some (D.ref q),some (D.int (i:Int)),some (D.int (xa % 5-2)),x11]/\M'=aH M q (.lst (row.map aM))/\o1∈fN/\o2∈fN) (fun nx knx=>?_) ?_)
   ·walk_at "rd";refine bj (fun c1=>ar ?_) (fun c1=>knx _ _ ⟨y1,y2,rfl,rfl,hnv⟩);walk_at "rd";refine⟨sz3 2,?_⟩;simp only[jt,gb,gU,k8,ad2];exact⟨_,if_pos rfl,knx _ _ ⟨y2,y1,rfl,rfl,hnv.2,hnv.1⟩⟩
   rintro Δ' M' ⟨o1,o2,rfl,rfl,hs1,hs2⟩;refine ar (iH (fun Δ' M'=>∃(o1 o2:Str) (t:Int) (x11:Option D),Δ'=[some (D.lst (xs.map D.int)),some (D.lst (arcs.map stD)),some (D.lst (ms.map D.str)),some (D.tup (ord.map bo)),some (D.str aq),some (D.lst (near.map bo)),some (D.str o1),some (D.str o2),some (D.ref q),some (D.int (i:Int)),some (D.int t),x11]/\M'=aH M q (.lst (row.map aM))/\uL (o1,t)/\uL (o2,t+1)) (fun nx knx=>?_) ?_)
   ·walk_at "rd";refine⟨_,ata,?_⟩;simp only[stD];walk_at "rd";rw[F1];refine bj (fun c1=>ar ?_) (fun c1=>knx _ _ ⟨o1,o2,_,_,rfl,rfl,⟨hs1,by show -2<=xa % 5-2;lia,by show xa % 5-2<=3;lia⟩,⟨hs2,by show -2<=xa % 5-2+1;lia,by show xa % 5-2+1<=3;lia⟩⟩);walk_at "rd";refine ar ?_;walk_at "rd";refine fun hz2=>⟨hz2,?_⟩;refine bw bo (fun y=>y.2==aq) (fun y=>D.str y.1) (fun Δ=>∃x,Δ=[none,none,none,none,some (D.str aq),none,none,none,none,none,none,none,x]) near _ _ (fun y hy Δ hΔ=>?_) ⟨none,rfl⟩ ?_
    ·obtain⟨x,rfl⟩:=hΔ;refine⟨_,rfl,⟨_,rfl⟩,fun Q1 q=>?_,fun _ Q2 q=>?_⟩
     ·simp only[bo];walk_at "rd";exact q
     ·simp only[bo];walk_at "rd";exact q
    rw[K5];have hb0:0<(near.filter fun y=>y.2==aq).length:=List.length_pos_iff.mpr (List.ne_nil_of_mem (ag7.mpr ⟨hnm aq hgo,beq_self_eq_true aq⟩));have hbl:∀y∈near.filter (fun y=>y.2==aq),y.1∈fN:=fun y hy=>(hnr y (ag7.mp hy).1).1;generalize near.filter (fun y=>y.2==aq)=bl at hb0 hbl;refine ar ?_;walk_at "rd";refine⟨_,eb,?_⟩;walk_at "rd";obtain⟨v,hv,ev⟩:=fW hb0 xb;rw[F1];refine⟨_,if_pos (by lia),?_⟩;walk_at "rd";rw[ev];refine⟨_,aL (by rw[J6,u8 hv];rfl),?_⟩;refine⟨sz3 2,?_⟩;simp only[jt,gb,gU,k8,ad2];exact⟨_,if_pos rfl,knx _ _ ⟨bl[v].1,aq,0,_,rfl,rfl,⟨hbl _ (P3 _),by show(-2:Int)<=0;decide,by show(0:Int)<=3;decide⟩,⟨hsm aq hgo,by show(-2:Int)<=0+1;decide,by show(0+1:Int)<=3;decide⟩⟩⟩
   rintro Δ' M' ⟨o1,o2,t,y11,rfl,rfl,hk1,hk2⟩;refine ar ?_;walk_at "rd";refine⟨sz3 2,_,ata,?_⟩;simp only[stD];walk_at "rd";rw[F1];refine⟨_,oj (by lia:a.1<row.length),ar ?_⟩;walk_at "rd";refine⟨sz3 2,_,ata,?_⟩;simp only[stD];walk_at "rd";rw[ah1,F1];refine⟨_,oj (by lia:a.2<row.length),?_⟩;have e5:((row.map aM).set a.1 (D.tup [D.str o1,D.int t])).set a.2 (D.tup [D.str o2,D.int (t+1)])=((row.set a.1 (o1,t)).set a.2 (o2,t+1)).map aM:=by
    rw[List.map_set,List.map_set];rfl
   rw[e5];refine k' _ _ ⟨_,_,_,_,_,_,rfl,rfl,by rw[ah1,ah1];exact hrl,fun b hb=>?_⟩;rw[O6,haa]at hb;have n2:kB ((row.set a.1 (o1,t)).set a.2 (o2,t+1)) a.2:=kB.new (by rw[ah1];lia) hk2;have n1:kB ((row.set a.1 (o1,t)).set a.2 (o2,t+1)) a.1:=(kB.new (by lia) hk1).set hk2;rcases O3.mp hb with z|z
   ·exact⟨((hrow b z).1.set hk1).set hk2,((hrow b z).2.set hk1).set hk2⟩
   ·obtain rfl:b=a:=by simpa using z
    exact⟨n1,n2⟩
  ·rintro Δ M' ⟨row,x6,x7,x9,x10,x11,rfl,rfl,hrl,hrow⟩;refine ar ?_;walk_at "rd";rw[dM hq];refine⟨M,fun a o e=>e,k row hrl fun s hs=>?_⟩;rw[bD,S9 (F9 _)]at hrow;obtain⟨j,hj,rfl⟩:=W1.mp hs;obtain⟨a,ha,ea⟩:=hcov j (by lia);have hj2:kB row j:=by
    rcases ea with rfl|rfl
    ·exact(hrow a ha).1
    ·exact(hrow a ha).2
   obtain⟨s,h1,h2⟩:=hj2;rw[u8 hj]at h1;cases h1;exact h2
def sL:SpD:=fun ds M R=>∃(xs:List Int) (row:Row),ds=[.lst (xs.map D.int),.lst (row.map aM)]/\8<=xs.length/\(∀x∈xs,0<=x/\x<720720)/\row.length<=11/\∀cuts:List Row,cuts.flatten=row->cuts.length<=8->(∀c∈cuts,c.length<=5)->R (.lst (cuts.map aA)) M
theorem vf(F:Fun K "_law_cut" "_law_cut" ow f fd) (T:Txt mg) :bA P w K mg base CX0 1 f fd ["_law_xs","_law_signs_here"] (spD K 2 sL):=by
 have nd:=qH.nd;refine F.okR rfl qH (fun cdv A outer s H E hr=>⟨_,(ah (aC (i:=2) nd rfl (L6 rfl) (di ag))
   (ah (aC (i:=3) nd rfl (L6 rfl) (aY oT rfl T.b_list (by kernel_rfl) (ab (aa 1) ag)))
   (aJ (ah (kR K9 (aQ (mI hr.units) (aa 3) (ck ag) nbh) (ah (aC (i:=4) nd rfl (L6 rfl) (au (AG rfl) rfl T.b_max (by kernel_rfl) (ab (aw bq af (aw bh (aD aE (aa 0) (au bc rfl T.b_len (by kernel_rfl) (ab (aa 2) ag)) (fun _ _=>rfl)) af)) (ab (aw dB (aw gn (aw bq (au bc rfl T.b_len (by kernel_rfl) (ab (aa 3) ag)) af) (au bc rfl T.b_len (by kernel_rfl) (ab (aa 2) ag))) (aw gn af (au bc rfl T.b_len (by kernel_rfl) (ab (aa 2) ag)))) ag))))
   (aJ (ah (bC (gc (mj (aQ oE (au bc rfl T.b_len (by kernel_rfl) (ab (aa 2) ag)) af nbh) (jl (aQ (eU hr.units) (aw bh (aD aE (aa 0) (au bc rfl T.b_len (by kernel_rfl) (ab (aa 2) ag)) (fun _ _=>rfl)) af) af nbh)))) (am (aC (i:=4) nd rfl (L6 rfl) af)) bf)
   (aJ (ah (cj (eT (aa 2) (aY cm rfl T.b_tuple (by kernel_rfl) (ab (aO (aa 3) bp (aU (aa 4))) ag))))
   (aJ (am (aC (i:=3) nd rfl (L6 rfl) (aO (aa 3) (aU (aa 4)) bp))))))))))
   (aJ (am (oq (aa 2)))))))),fun ds M R _ hS bk=>?_⟩)
 obtain⟨xs,row,rfl,hx,hxb,hl,k⟩:=hS;refine bk ?_;clear bk;walk_at "rd";refine⟨sz3 0,fun p hp=>?_⟩;refine⟨_,rfl,ar ?_⟩;walk_at "rd";refine⟨fun m Δ M'=>∃(cuts:List Row) (left:Row) (x4:Option D),Δ=[some (D.lst (xs.map D.int)),some (D.lst (row.map aM)),some (D.ref p),some (D.lst (left.map aM)),x4]/\M'=aH M p (.lst (cuts.map aA))/\cuts.flatten++left=row/\(left≠[]->cuts.length<=7)/\cuts.length<=8/\(∀c∈cuts,c.length<=5)/\(left.length<=2*(8-cuts.length))/\m=8-cuts.length,⟨8,[],row,none,rfl,rfl,rfl,fun _=>by decide,by decide,(fun _ h=>(by cases h)),(show row.length<=2*8 by lia),rfl⟩,?_⟩;rintro m Δ M' ⟨cuts,left,x4,rfl,rfl,hfl,h7,h8,h5,h2,rfl⟩;walk_at "rd";refine⟨sz3 0,_,yY (b:=[]),_,rfl,bj (fun c1=>?_) (fun c1=>?_)⟩
 ·have hne:left≠[]:=by simpa using c1
  have hc7:=h7 hne;have hlr:left.length<=11:=by
   have:=congrArg X0 hfl;rw[F6]at this
   lia
  obtain⟨x,hx'⟩:∃x,xs[cuts.length]?=some x:=⟨_,u8 (by lia)⟩;have hxv:=hxb x (J1 hx');have atc:atI (xs.map D.int) (cuts.length:Int)=some (.int x):=aL (by rw[J6,hx'];rfl);rw[F1];refine⟨_,atc,?_⟩;walk_at "rd";have hcl:(cuts.length:Int)<=7:=by lia
  have hcd:lM ((left.length:Int)+7-cuts.length) (8-cuts.length):=⟨by lia,by lia⟩;rw[F1];refine⟨_,if_pos hcd,?_⟩;walk_at "rd";obtain⟨sz,hsz,hs5,h77⟩:∃sz:Nat,(if((left.length:Int)+7-cuts.length) / (8-cuts.length) > 1+x % 5 then((left.length:Int)+7-cuts.length) / (8-cuts.length)else 1+x % 5)=(sz:Int)/\sz<=5/\left.length<=sz+2*(7-cuts.length):=by
   clear hcd atc hx' k;generalize cuts.length=k at *
   generalize left.length=l at *
   rcases(by lia:k=0∨k=1∨k=2∨k=3∨k=4∨k=5∨k=6∨k=7)with rfl|rfl|rfl|rfl|rfl|rfl|rfl|rfl
   all_goals
    split
    ·exact⟨_,(ac9 (by lia)).symm,by lia,by lia⟩
    ·exact⟨_,(ac9 (by lia)).symm,by lia,by lia⟩
  rw[hsz];refine ar (iH (fun Δ' M'=>∃sz:Nat,Δ'=[some (D.lst (xs.map D.int)),some (D.lst (row.map aM)),some (D.ref p),some (D.lst (left.map aM)),some (D.int (sz:Int))]/\M'=aH M p (.lst (cuts.map aA))/\sz<=5/\left.length<=sz+2*(7-cuts.length)) (fun nx knx=>?_) ?_)
  ·walk_at "rd";rw[F1];refine bj (fun c2=>?_) (fun c2=>knx _ _ ⟨sz,rfl,rfl,hs5,h77⟩);refine⟨_,atc,?_⟩;walk_at "rd";exact bj (fun c3=>knx _ _ ⟨0,rfl,rfl,by lia,by lia⟩) (fun c3=>knx _ _ ⟨sz,rfl,rfl,hs5,h77⟩)
  rintro Δ' M' ⟨sz',rfl,rfl,hs5',h77'⟩;refine ar ?_;walk_at "rd";rw[gK,<-Z9];refine⟨by rw[F1];exact J5 (by lia:cuts.length<1000) (sz3 1000),ar ?_⟩;walk_at "rd";rw[dh,<-af6];refine⟨8-(cuts++[left.take sz']).length,by rw[F6];simp;lia,cuts++[left.take sz'],left.drop sz',some (D.int (sz':Int)),⟨rfl,rfl⟩,by rw[O2];rfl,?_,fun hne'=>?_,by rw[F6];simp;lia,cE h5 (by rw[M0];lia),by rw[F6,S3];simp;lia,rfl⟩
  ·rw[List.flatten_append,U0];simp only[V0,List.flatten_nil,V5];rw[List.take_append_drop];exact hfl
  ·rw[F6];simp only[P2,ab6]
   by_cases e:cuts.length=7
   ·exact absurd (List.drop_of_length_le (by lia)) hne'
   ·lia
 ·have hnil:left=[]:=by simpa using c1
  refine ar ?_;walk_at "rd";rw[dM hp];rw[hnil,V5]at hfl;exact k cuts hfl h8 h5
def nE:SpD:=fun ds M R=>∃(kd:Row) (xs:List Int) (ms:List Str),ds=[aA kd,.lst (xs.map D.int),.lst (ms.map D.str)]/\5<=xs.length/\(∀x∈xs,0<=x/\x<720720)/\0<ms.length/\ms.length<=10/\(kd.length<=5/\rq kd)/\(∀m∈ms,m∈fN)/\∀ks:List Row,kd∈ks->ks.length<=2->ks.Nodup->(∀r∈ks,r.length<=5/\rq r)->(ks.flatMap fun r=>r.map (·.1)).length<=kd.length+2->R (dE ks) M
theorem rT(F:Fun K "_law_kinds" "_law_kinds" g6 f fd) (T:Txt mg) :bA P w K mg base CX0 1 f fd ["_law_kind","_law_xs","_law_marks_here"] (spD K 3 nE):=by
 have nd:=l5.nd;refine F.okR rfl l5 (fun cdv A outer s H E hr=>⟨_,(ah (aC (i:=3) nd rfl (L6 rfl) (bF (ab (aa 0) ag)))
   (aJ (ah (bC (aQ (eU hr.units) (aw bh (aD aE (aa 1) af (fun _ _=>rfl)) af) af nbh) (aJ (ah (i8 (i:=4) nd rfl rfl rfl (ms:=[false,false,true,false,false]) (ai:=["_law_x"]) (aF rfl (show aS (aj g6) j3 _ _=true from by decide +kernel)) rfl (aK (aO (aa 1) (aU af) (aU af))) (az (i:=5) (show(j3++_).Nodup from by decide +kernel) rfl rfl) (fun _ _ _ _=>bv) (fun _ _ _ _=>(bF (ab (aD aE (aa 2) (aw bh (aa 5) (au bc rfl T.b_len (by kernel_rfl) (ab (aa 2) ag))) (fun _ _=>rfl)) (ab (aw gn (aw bh (aw dB (aa 5) af) af) af) ag)))))
   (aJ (ah (aC (i:=4) nd rfl (L6 rfl) (aY cm rfl T.b_tuple (by kernel_rfl) (ab (aO (aa 4) bp (aU (aw bh (aD aE (aa 1) af (fun _ _=>rfl)) af))) ag)))
   (aJ (am (bC (gc (mj (aQ (mI hr.units) (aa 4) (aa 0) nbh) (jl (aQ (eU hr.units) (aw bh (aD aE (aa 1) af (fun _ _=>rfl)) af) af nbh)))) (am (aC (i:=3) nd rfl (L6 rfl) (bF (ab (aa 4) (ab (aa 0) ag))))) (am (bC (aQ (mI hr.units) (aa 4) (aa 0) nbh) (am (aC (i:=3) nd rfl (L6 rfl) (bF (ab (aa 0) (ab (aa 4) ag))))) bf))))))))) bf)
   (aJ (am (aW (aa 3))))))),fun ds M R _ hS bk=>?_⟩)
 obtain⟨kd,xs,ms,rfl,hx,hxb,hm0,hm,hk,hsm,k⟩:=hS;refine bk ?_;clear bk;simp only[aA];walk_at "rd";refine⟨sz3 1,ar ?_⟩;walk_at "rd";obtain⟨x0,hx0⟩:∃x,xs[0]?=some x:=⟨_,u8 (by lia)⟩;have at0:atI (xs.map D.int) 0=some (.int x0):=aL (j:=0) (by rw[J6,hx0];rfl);refine⟨_,at0,?_⟩;walk_at "rd";have fin1:R (dE [kd]) M:=k [kd] (by simp) (by simp) (by simp) (by simpa using hk) (by simp);refine bj (fun c1=>ar ?_) (fun c1=>ar ?_)
 ·walk_at "rd";obtain⟨ys,hys,hyl,hym⟩:=wF (xs:=xs) (lo:=some 2) (hi:=some 4);rw[hys];refine fun hz=>⟨hz,?_⟩;refine bw D.int (fun _=>true) (fun x=>aM (ms.getD (x % (ms.length:Int)).toNat "",x / 8 % 5-2)) (fun Δ=>∃x,Δ=[none,none,some (D.lst (ms.map D.str)),none,none,x]) ys _ _ (fun x hx' Δ hΔ=>?_) ⟨none,rfl⟩ ?_
  ·obtain⟨x1,rfl⟩:=hΔ;refine⟨_,rfl,⟨_,rfl⟩,fun Q1 q=>q,fun _ Q2 q=>?_⟩;obtain⟨v,hv,ev⟩:=fW hm0 x;walk_at "rd";rw[F1];refine⟨_,if_pos (by lia),?_⟩;walk_at "rd";rw[ev];refine⟨_,aL (by rw[J6,u8 hv];rfl),?_⟩;refine⟨sz3 2,?_⟩;rw[ev,N4]at q;simp only[N7,u8 hv,Option.getD_some]at q;exact q
  rw[K5,L7.mpr (fun _ _=>rfl)];have hrw:rq (ys.map fun x=>(ms.getD (x % (ms.length:Int)).toNat "",x / 8 % 5-2)):=fun s hs=>by
   obtain⟨y,_,rfl⟩:=O9.mp hs;obtain⟨v,hv,ev⟩:=fW hm0 y;refine⟨?_,by show -2<=y / 8 % 5-2;lia,by show y / 8 % 5-2<=3;lia⟩;show(ms.getD (y % (ms.length:Int)).toNat "")∈fN;rw[ev,N4,N7,u8 hv];exact hsm _ (P3 _)
  have hyl4:ys.length<=2:=by
   have h0:=congrArg X0 hys;rw[F1]at h0;rw[<-h0];unfold L2.cv;rw[show(2:Int)=((2:Nat):Int)from rfl,show(4:Int)=((4:Nat):Int)from rfl,HT.sIx_nat,HT.sIx_nat,M0]
   lia
  generalize hrs:(ys.map fun x=>(ms.getD (x % (ms.length:Int)).toNat "",x / 8 % 5-2))=rs at hrw;have e1:(ys.map fun x=>aM (ms.getD (x % (ms.length:Int)).toNat "",x / 8 % 5-2))=rs.map aM:=by rw[<-hrs,N0];rfl
  rw[e1];obtain⟨y1,hy1⟩:∃x,xs[1]?=some x:=⟨_,u8 (by lia)⟩;have at1:atI (xs.map D.int) 1=some (.int y1):=aL (j:=1) (by rw[J6,hy1];rfl);obtain⟨y4,hy4⟩:∃x,xs[4]?=some x:=⟨_,u8 (by lia)⟩;have at4:atI (xs.map D.int) 4=some (.int y4):=aL (j:=4) (by rw[J6,hy4];rfl);refine ar ?_;walk_at "rd";refine⟨_,at1,?_⟩;walk_at "rd";obtain⟨v3,ev3⟩:∃v:Nat,y1 % 3=(v:Int):=⟨(y1 % 3).toNat,by lia⟩;rw[ev3,gK,<-Z9];have hrl2:(rs.take v3).length<=2:=by rw[M0,<-hrs,F1];lia
  have hrl:(rs.take v3).length<=5/\rq (rs.take v3):=by
   refine⟨?_,fun s hs=>hrw s (Q0 hs)⟩;rw[M0,<-hrs,F1]
   lia
  generalize rs.take v3=more at hrl hrl2;refine ar ?_;walk_at "rd";refine⟨_,oV,_,rfl,?_⟩;have fin2:more≠kd->R (dE [more,kd]) M:=fun z=>k _ (by simp) (by simp) (by simp[z]) (by simp;exact⟨hrl,hk⟩) (by simp;lia);have fin3:more≠kd->R (dE [kd,more]) M:=fun z=>k _ (by simp) (by simp) (by simp[aa7 z]) (by simp;exact⟨hk,hrl⟩) (by simp;lia);refine bj (fun c2=>⟨_,at4,?_⟩) (fun c2=>⟨_,oV,_,rfl,bj (fun c4=>⟨sz3 2,ar ?_⟩) (fun _=>ar ?_)⟩)
  ·have c5:more≠kd:=by simpa using c2
   walk_at "rd";refine bj (fun c3=>⟨sz3 2,ar ?_⟩) (fun c3=>⟨_,oV,_,rfl,bj (fun _=>⟨sz3 2,ar ?_⟩) (fun _=>ar ?_)⟩)
   ·walk_at "rd";exact fin2 c5
   ·walk_at "rd";exact fin3 c5
   ·walk_at "rd";exact fin1
  ·walk_at "rd";exact fin3 (by simpa using c4)
  ·walk_at "rd";exact fin1
 ·walk_at "rd";exact fin1
theorem Cb{xs:List D}:L2.cv xs none (some (-1))=xs.dropLast:=by
 unfold L2.cv;rw[HT.sIx_none,List.drop_zero,Nat.sub_zero,List.dropLast_eq_take];congr 1;show(if(-1:Int)<0 then(-1+(xs.length:Int)).toNat else min (-1:Int).toNat xs.length)=_;rw[if_pos (by decide)]
 lia
theorem yd(x y:Row):eqD (aA x) (aA y)=decide (x=y):=by
 simp only[aA,eqD];exact kO aM kZ
theorem vh{ks:List Row}{cu:Row}(hl:ks.length<=2) (h:cu∈ks):∃j,qQ (ks.map aA) (aA cu)=some j/\ks[j]?=some cu:=by
 have h1:dLe (aA cu) 59=true:=(fP (n:=58)).mpr fun d hd=>by
  obtain⟨x,_,rfl⟩:=O9.mp hd;rfl
 have h2:dF (ks.map aA) 59=true:=fI aA fun x=>(fP (n:=58)).mpr fun d hd=>by
  obtain⟨y,_,rfl⟩:=O9.mp hd;rfl
 unfold qQ;rw[if_pos ⟨h1,h2,by rw[F1];exact Nat.lt_of_le_of_lt hl (by decide)⟩];clear h1 h2 hl
 induction ks with
 |nil=>cases h
 |cons k l ih =>
  rw[J8,List.findIdx?_cons,yd]
  by_cases e:k=cu
  ·subst e;exact⟨0,by simp,rfl⟩
  ·rw[decide_eq_false e];have h':cu∈l:=by
    rcases J9.mp h with q|q
    ·exact absurd q.symm e
    ·exact q
   obtain⟨j,q1,q2⟩:=ih h';refine⟨j+1,?_,by rw[U4];exact q2⟩;rw[q1];rfl
theorem DR{c n:Nat}(h:n<=1000):j6 (.str (tx [c])) (.int (n:Int))=some (.str (tx (I0 n c))):=by
 have e:j6 (.str (tx [c])) (.int (n:Int))=if(tx [c]).length<=16777216/\-(2 ^ 63)<=(n:Int)/\(n:Int)<=16777216/\(tx [c]).length*(n:Int).toNat<=16777216 then some (.str (Txt.mul (tx [c]) (n:Int)))else none:=rfl
 rw[e,if_pos (by rw[oO];simp;lia),si]
theorem ja{α β:Type}{f:α->β}:∀{l:List α},(∀a b,a∈l->b∈l->f a=f b->a=b)->l.Nodup->(l.map f).Nodup
 |[],_,_=>List.nodup_nil
 |x::l,h,hn=>by
  rw[J8,ab2];obtain⟨h1,h2⟩:=ab2.mp hn;refine⟨fun m=>?_,ja (fun a b ha hb=>h a b (.tail _ ha) (.tail _ hb)) h2⟩;obtain⟨y,hy,e⟩:=O9.mp m;obtain rfl:=h y x (.tail _ hy) (.head _) e;exact h1 hy
theorem Ed:j6 (.lst [.int 720720]) (.int 98)=some (.lst ((I0 98 (720720:Int)).map D.int)):=by
 have e:j6 (.lst [.int 720720]) (.int 98)=if -(2 ^ 63)<=(98:Int)/\(98:Int)<2 ^ 63/\[D.int 720720].length*(98:Int).toNat<=F7 then some (.lst (I0 (98:Int).toNat [D.int 720720]).flatten)else none:=rfl
 rw[e,if_pos ⟨by decide,by decide,sz3 _ (by decide)⟩];rfl
theorem oy.at{n:Nat}{xs:List Int}(h:oy n xs) {i:Int}(hi:0<=i/\i<n):∃x,atI (xs.map D.int) i=some (.int x)/\0<=x/\x<720720:=by
 obtain⟨j,rfl⟩:=Int.eq_ofNat_of_zero_le hi.1;have hl:j<xs.length:=by rw[h.1];lia
 exact⟨xs[j],aL (by rw[J6,u8 hl];rfl),h.2 _ (P3 _)⟩
theorem oy.drop{n m:Nat}{xs:List Int}(h:oy n xs):oy (n-m) (xs.drop m):=⟨by rw[S3,h.1],fun x hx=>h.2 x (S7 hx)⟩
theorem eD:∀x y,aA x=aA y->x=y:=fun x y h=>sR ui (by simpa[aA]using h)
def jn:SpD:=fun ds M R=>∃c:Int,ds=[.int c]/\∀(ord:List (Str×Str)) (aq:Str) (ak:List (Str×List Row)) (a b:D),LxM ord aq ak->ak≠[]->R (.tup [dR ord aq ak,a,b]) M
theorem mO(F:Fun K "_law_sentence" "_law_sentence" dn f fd) (T:Txt mg) (Y1:FnD P w K mg base "_law_parts" 1 2 j7) (ga6:FnD P w K mg base "_law_matched" 1 2 kq) (gb4:FnD P w K mg base "_law_signs" 2 5 mW) (gb6:FnD P w K mg base "_law_cut" 1 2 sL) (Y8:FnD P w K mg base "_law_letters" 1 2 ki) (gb1:FnD P w K mg base "_law_kinds" 1 3 nE):bA P w K mg base CX0 3 f fd ["_law_cell"] (spD K 1 jn):=by
 have nd:=iw.nd;refine F.okR rfl iw (fun cdv A outer s H E hr=>⟨_,(ah (aC (i:=1) nd rfl (aj0 rfl) (qd Y1 hr (ab (aa 0) (ab (aw bK (ck (ab af ag)) af) ag))))
   (aJ (ah (aC (i:=2) nd rfl (aj0 rfl) (aO (qd Y8 hr (ab (aa 1) (ab af ag))) bp (aU (aw bq af (aw bh (aD aE (aa 1) af (fun _ _=>rfl)) af)))))
   (aJ (ah (i8 (i:=3) nd rfl rfl rfl (ms:=[false,true,false,false,false,false,false,false,false,false,false,false,false,false]) (ai:=["_law_sign"]) (aF rfl (show aS (aj dn) c8 _ _=true from by decide +kernel)) rfl (aK (qd Y8 hr (ab (aO (aa 1) (aU af) bp) (ab af ag)))) (az (i:=14) (show(c8++_).Nodup from by decide +kernel) rfl rfl) (fun _ _ _ _=>bv) (fun _ _ _ _=>(aw bK (aa 14) (aw bq af (aw bh (aw dB (aD aE (aa 1) af (fun _ _=>rfl)) af) af)))))
   (aJ (ah (i8 (i:=5) nd rfl rfl rfl (ms:=[false,true,true,false,false,false,false,false,false,false,false,false,false,false]) (ai:=[]) (aF rfl (show aS (aj dn) c8 _ _=true from by decide +kernel)) rfl (de rfl T.b_range (ab af ag)) (az (i:=4) (show(c8++_).Nodup from by decide +kernel) rfl rfl) (fun _ _ _ _=>bv) (fun _ _ _ _=>(bF (ab (aD aE (aa 2) (aw bh (aD aE (aa 1) (aw bq af (aw bK af (aa 4))) (fun _ _=>rfl)) (au bc rfl T.b_len (by kernel_rfl) (ab (aa 2) ag))) (fun _ _=>rfl)) (ab (aD aE (aa 2) (aw bh (aD aE (aa 1) (aw bq af (aw bK af (aa 4))) (fun _ _=>rfl)) (au bc rfl T.b_len (by kernel_rfl) (ab (aa 2) ag))) (fun _ _=>rfl)) ag)))))
   (aJ (ah (aC (i:=6) nd rfl (L6 rfl) (aY cm rfl T.b_tuple (by kernel_rfl) (ab (aO (aa 5) bp (aU (aw bh (aD aE (aa 1) af (fun _ _=>rfl)) af))) ag)))
   (aJ (ah (aC (i:=7) nd rfl (L6 rfl) (aD aE (aa 2) (aw bh (aD aE (aa 1) af (fun _ _=>rfl)) (au bc rfl T.b_len (by kernel_rfl) (ab (aa 2) ag))) (fun _ _=>rfl)))
   (aJ (ah (aC (i:=8) nd rfl (L6 rfl) (qd ga6 hr (ab (aO (aa 1) (aU af) bp) (ab (aw bq af (aw bh (aD aE (aa 1) af (fun _ _=>rfl)) af)) ag))))
   (aJ (ah (aC (i:=9) nd rfl (L6 rfl) (qd gb4 hr (ab (aO (aa 1) (aU af) bp) (ab (aa 8) (ab (aa 2) (ab (aa 6) (ab (aa 7) ag)))))))
   (aJ (ah (aC (i:=10) nd rfl (L6 rfl) (qd gb6 hr (ab (aO (aa 1) (aU af) bp) (ab (aO (aa 9) bp (aU (Dz D7 af))) ag))))
   (aJ (ah (aC (i:=11) nd rfl (L6 rfl) (di ag))
   (aJ (ah (aC (i:=12) nd rfl (L6 rfl) (di ag))
   (aJ (ah (bU K9 rfl (de rfl T.b_range (ab (au bc rfl T.b_len (by kernel_rfl) (ab (aa 10) ag)) ag)) (aG (i:=4) nd rfl (L6 rfl)) (ah (aC (i:=13) nd rfl (L6 rfl) (qd gb1 hr (ab (aD aE (aa 10) (aa 4) (fun _ _=>rfl)) (ab (aO (aa 1) (aU (aw bq af (aw bK af (aa 4)))) bp) (ab (aa 2) ag)))))
   (aJ (ah (cj (eT (aa 11) (bF (ab (aD aE (aa 3) (aa 4) (fun _ _=>rfl)) (ab (aa 13) ag)))))
   (aJ (am (cj (eT (aa 12) (BE hr.units (aa 13) (aD aE (aa 10) (aa 4) (fun _ _=>rfl)))))))))))
   (aJ (am (eJ (bF (ab (bF (ab (aa 6) (ab (aa 7) (ab (aY cm rfl T.b_tuple (by kernel_rfl) (ab (aa 11) ag)) ag)))) (ab (aY cm rfl T.b_tuple (by kernel_rfl) (ab (aO (aa 3) bp (aU (au bc rfl T.b_len (by kernel_rfl) (ab (aa 10) ag)))) ag)) (ab (bF (ab (aY cm rfl T.b_tuple (by kernel_rfl) (ab (aa 12) ag)) (ab (aY cm rfl T.b_tuple (by kernel_rfl) (ab (aa 8) ag)) ag))) ag)))))))))))))))))))))))))))))),fun ds M R _ hS bk=>?_⟩)
 obtain⟨c,rfl,k⟩:=hS;refine bk ?_;clear bk;walk_at "rd";refine⟨sz3 1,_,Ed,c,_,rfl,by rw[V6];decide,fun s hs=>by rw[List.eq_of_mem_replicate hs];decide,fun xs hN=>ar ?_⟩;replace hN:=wR hN;have hxl:=hN.1;have hat:=fun(i:Int) (h:0<=i/\i<98)=>hN.at (i:=i) h;obtain⟨x14,a14,b14,c14⟩:=hat 14 (by decide);obtain⟨x15,a15,b15,c15⟩:=hat 15 (by decide);obtain⟨x16,a16,b16,c16⟩:=hat 16 (by decide);obtain⟨x25,a25,b25,c25⟩:=hat 25 (by decide);walk_at "rd";refine⟨xs,4,rfl,by lia,by decide,hN.2,fun cs hcl hcn hca=>?_⟩;walk_at "rd";refine⟨_,a15,?_⟩;walk_at "rd";obtain⟨n4,e4,l4⟩:∃n:Nat,1+x15 % 4=(n:Int)/\1<=n/\n<=4:=⟨(1+x15 % 4).toNat,by lia,by lia⟩;rw[e4,gK,<-Z9];have hml:(cs.take n4).length=n4:=by rw[M0];lia
 have hmk:((cs.take n4).map fun c=>D.str (tx [c]))=((cs.take n4).map fun c=>tx [c]).map D.str:=by rw[N0];rfl
 rw[hmk];obtain⟨ms,hms⟩:∃ms,ms=(cs.take n4).map fun c=>tx [c]:=⟨_,rfl⟩;rw[<-hms];have hm0:0<ms.length:=by rw[hms,F1];lia
 have hm10:ms.length<=10:=by rw[hms,F1];lia
 have hmsS:∀m∈ms,m∈fN:=fun m hm=>by
  rw[hms]at hm;obtain⟨c',hc',rfl⟩:=O9.mp hm;exact T9 (hca c' (Q0 hc'))
 clear hmk hms hml;refine ar ?_;walk_at "rd";refine⟨xs.drop 4,10,by rw[show((4:Int))=((4:Nat):Int)from rfl,dh,<-af6];rfl,by rw[S3];lia,by decide,hN.drop.2,fun cs2 h2l h2n h2a=>?_⟩;walk_at "rd";obtain⟨nw,enw,lnw⟩:∃n:Nat,1+x15 / 4 % 8=(n:Int)/\1<=n/\n<=8:=⟨(1+x15 / 4 % 8).toNat,by lia,by lia⟩;refine fun hz=>⟨hz,?_⟩;refine bw (fun(c:Nat)=>D.str (tx [c])) (fun _=>true) (fun c=>D.str (tx (I0 nw c))) (fun Δ=>∃x,Δ=[none,some (D.lst (xs.map D.int)),none,none,none,none,none,none,none,none,none,none,none,none,x]) cs2 _ _ (fun c' hc' Δ hΔ=>?_) ⟨none,rfl⟩ ?_
 ·obtain⟨x,rfl⟩:=hΔ;refine⟨_,rfl,⟨_,rfl⟩,fun Q1 q=>q,fun _ Q2 q=>?_⟩;walk_at "rd";refine⟨_,a15,?_⟩;walk_at "rd";rw[enw];exact⟨_,DR (by lia),q⟩
 rw[K5,L7.mpr (fun _ _=>rfl)];obtain⟨W,hW⟩:∃W,W=cs2.map fun c=>tx (I0 nw c):=⟨_,rfl⟩;have hWl:W.length=10:=by rw[hW,F1,h2l]
 have hWn:W.Nodup:=by
  rw[hW];refine ja (fun a b ha hb e=>?_) h2n;have e2:=congrArg (fun z:Str=>z.cps.toList) e;simp only[ip]at e2;obtain⟨j,rfl⟩:∃j,nw=j+1:=⟨nw-1,by lia⟩;rw[R3,R3]at e2;exact(Z6.inj e2).1
 have hWo:∀w∈W,cA w=true:=fun w hw=>by
  rw[hW]at hw;obtain⟨c',hc',rfl⟩:=O9.mp hw;exact m6 (h2a c' hc') (by lia) (by lia)
 rw[show(cs2.map fun c=>D.str (tx (I0 nw c)))=W.map D.str by rw[hW,N0];rfl];clear hW;refine ar ?_;walk_at "rd";refine⟨by rw[bD];exact sz3 4,?_⟩;refine lC (fun i acc Δ M'=>∃(prs:List (Str×Str)) (x4:Option D),Δ=[none,some (D.lst (xs.map D.int)),some (D.lst (ms.map D.str)),none,x4,none,none,none,none,none,none,none,none,none]/\M'=M/\acc=prs.map bo/\prs.length=i/\∀p∈prs,p.1∈fN/\p.2∈fN) ⟨[],none,rfl,rfl,rfl,rfl,fun _ h=>by cases h⟩ ?_ ?_
 ·rintro i d acc Δ M' X hd ⟨prs,x4,rfl,rfl,rfl,hpl,hpo⟩ k';obtain⟨hi,rfl⟩:=cg hd;refine⟨_,rfl,?_⟩;rw[Z8];simp only[vR,if_true];obtain⟨u1,au1,_,_⟩:=hat (17+2*(i:Int)) (by lia);obtain⟨u2,au2,_,_⟩:=hat (18+2*(i:Int)) (by lia);obtain⟨v1,hv1,ev1⟩:=fW hm0 u1;obtain⟨v2,hv2,ev2⟩:=fW hm0 u2;walk_at "rd";refine⟨_,au1,?_⟩;walk_at "rd";rw[F1];refine⟨_,if_pos (by lia),?_⟩;walk_at "rd";rw[ev1];refine⟨_,aL (by rw[J6,u8 hv1];rfl),?_⟩;refine⟨_,au2,?_⟩;walk_at "rd";refine⟨_,if_pos (by lia),?_⟩;walk_at "rd";rw[ev2];refine⟨_,aL (by rw[J6,u8 hv2];rfl),sz3 2,k' _ _ _ ⟨prs++[(ms[v1],ms[v2])],_,rfl,rfl,by rw[O2];rfl,by rw[F6,hpl];rfl,cE hpo ⟨hmsS _ (P3 _),hmsS _ (P3 _)⟩⟩⟩
 rintro acc Δ M' ⟨prs,x4,rfl,rfl,rfl,hpl,hpo⟩;rw[bD]at hpl;refine ar ?_;walk_at "rd";refine⟨_,a16,?_⟩;walk_at "rd";obtain⟨n5,e5⟩:∃n:Nat,x16 % 5=(n:Int):=⟨(x16 % 5).toNat,by lia⟩;rw[e5,gK,<-Z9];have hol:(prs.take n5).length<=4/\∀p∈prs.take n5,p.1∈fN/\p.2∈fN:=⟨by rw[M0];lia,fun p hp=>hpo p (Q0 hp)⟩;generalize prs.take n5=ord at hol;refine ar ?_;walk_at "rd";refine⟨_,a25,?_⟩;walk_at "rd";rw[F1];refine⟨_,if_pos (by lia),?_⟩;walk_at "rd";obtain⟨vg,hvg,evg⟩:=fW hm0 x25;rw[evg];refine⟨_,aL (by rw[J6,u8 hvg];rfl),?_⟩;have hgo:ms[vg]∈ms:=P3 _;generalize ms[vg]=aq at hgo;refine ar ?_;walk_at "rd";refine⟨_,a14,?_⟩;walk_at "rd";obtain⟨n6,e6,l6⟩:∃n:Nat,1+x14 % 6=(n:Int)/\1<=n/\n<=6:=⟨(1+x14 % 6).toNat,by lia,by lia⟩;have hcf:∀m:Nat,L2.cv (xs.map D.int) (some (m:Int)) none=(xs.drop m).map D.int:=fun m=>by rw[dh,af6]
 have hN26:oy 72 (xs.drop 26):=hN.drop;have hN38:oy 60 (xs.drop 38):=hN.drop;have hN50:oy 48 (xs.drop 50):=hN.drop;rw[e6,show(26:Int)=((26:Nat):Int)from rfl,hcf];refine⟨_,n6,rfl,by rw[hN26.1];lia,l6.2,fun arcs hal hG hcov=>ar ?_⟩;walk_at "rd";rw[show(38:Int)=((38:Nat):Int)from rfl,hcf];refine⟨_,arcs,ms,ord,aq,rfl,by rw[hN38.1];lia,by lia,by lia,by rw[hal];exact hG,by rw[hal];exact hcov,hm10,hgo,hmsS,by lia,fun row hrl hrw=>ar ?_⟩;walk_at "rd";rw[show(50:Int)=((50:Nat):Int)from rfl,hcf];rw[Cb,<-List.map_dropLast];refine⟨_,row.dropLast,rfl,by rw[hN50.1];lia,hN50.2,by rw[af7];lia,fun cuts hcut hcl hc5=>ar ?_⟩;walk_at "rd";refine⟨sz3 0,fun p hp=>ar ?_⟩;walk_at "rd";refine⟨sz3 0,fun q hq=>ar ?_⟩;have hpq:p≠q:=by
  intro e;rw[e,aP]at hq;cases hq
 have hMq:M' q=none:=by rw[cQ (aa7 hpq)]at hq;exact hq
 walk_at "rd";rw[F1,N4];refine⟨by lia,by lia,?_⟩;refine aI (fun i Δ M2=>∃(ak:List (Str×List Row)) (ch:List Nat) (x4 x13:Option D),Δ=[some (D.int c),some (D.lst (xs.map D.int)),some (D.lst (ms.map D.str)),some (D.lst (W.map D.str)),x4,some (D.lst (prs.map bo)),some (D.tup (ord.map bo)),some (D.str aq),some (D.lst (arcs.map stD)),some (D.lst (row.map aM)),some (D.lst (cuts.map aA)),some (D.ref p),some (D.ref q),x13]/\M2=aH (aH M' p (.lst (ak.map et))) q (.lst (cC ch))/\ak.length=i/\ch.length=i/\ak.map (·.1)=W.take i/\(∀e∈ak,D8 e.2)/\(inK ak).length<=(cuts.take i).flatten.length+2*i) ⟨[],[],_,_,rfl,rfl,rfl,rfl,rfl,(fun _ h=>by cases h),by simp[inK]⟩ ?_ ?_
 ·rintro i d Δ M2 X hd ⟨ak,ch,x4,x13,rfl,rfl,hPl,hPc,hPw,hPk,hP1⟩ k';obtain⟨hi,rfl⟩:=cg hd;have e1:(aH (aH M' p (.lst (ak.map et))) q (.lst (cC ch))) p=some (.lst (ak.map et)):=by rw[cQ hpq,aP]
  obtain⟨cu,hcu⟩:∃x,cuts[i]?=some x:=⟨_,u8 hi⟩;have acu:atI (cuts.map aA) (i:Int)=some (aA cu):=aL (by rw[J6,hcu];rfl);have hcum:=J1 hcu;have hcur:cu.length<=5/\rq cu:=⟨hc5 cu hcum,fun s hs=>hrw s (List.dropLast_subset _ (by rw[<-hcut];exact List.mem_flatten.mpr ⟨cu,hcum,hs⟩))⟩;obtain⟨wd,hwd⟩:∃x,W[i]?=some x:=⟨_,u8 (by lia)⟩;have awd:atI (W.map D.str) (i:Int)=some (D.str wd):=aL (by rw[J6,hwd];rfl);refine⟨_,rfl,?_⟩;rw[Z8];walk_at "rd";refine⟨_,acu,?_⟩;rw[show(58:Int)+5*(i:Int)=((58+5*i:Nat):Int)by lia,hcf];refine⟨cu,_,ms,rfl,by rw[S3];lia,fun x hx=>hN.2 x (S7 hx),hm0,hm10,hcur,hmsS,fun ks hks hkl hkn hkb hkf=>ar ?_⟩;walk_at "rd";refine⟨_,e1,_,awd,sz3 2,_,e1,by rw[F1,hPl];exact J5 (by lia:i<1000) (sz3 1000),ar ?_⟩;obtain⟨j,ij,hj⟩:=vh hkl hks;rw[eG hpq,cf,eG (aa7 hpq)];walk_at "rd";refine⟨_,rfl,_,acu,j,ij,by rw[cC,F1,hPc];exact J5 (by lia:i<1000) (sz3 1000),k' _ _ ⟨ak++[(wd,ks)],ch++[j],_,_,rfl,?_,by rw[F6,hPl];rfl,by rw[F6,hPc];rfl,by rw[O2,hPw,O6,hwd];rfl,cE hPk ⟨List.length_pos_of_mem hks,hkl,hkn,hkb⟩,?_⟩⟩
  ·rw[O2,cC,cC,O2];rfl
  ·have q:inK (ak++[(wd,ks)])=inK ak++ks.flatMap fun r=>r.map (·.1):=by unfold inK;rw[List.flatMap_append];simp
   rw[q,O6,hcu,F6,List.flatten_append,F6];simp only[Option.toList_some,V0,List.flatten_nil,V5]
   lia
 ·rintro Δ M2 ⟨ak,ch,x4,x13,rfl,rfl,hPl,hPc,hPw,hPk,hP1⟩;rw[bD]at hPl hPc hPw;refine ar ?_;walk_at "rd";have hp2:rdM (aH (aH M' p (.lst (ak.map et))) q (.lst (cC ch))) (.ref p)=.lst (ak.map et):=fQ (by rw[cQ hpq,aP]);rw[hp2];walk_at "rd";rw[F1,gK,<-Z9];refine⟨sz3 3,sz3 2,sz3 3,M',DM hp hMq,?_⟩;have hc1:1<=cuts.length:=by
   cases cuts with
   |nil =>
    have:=congrArg X0 hcut;rw[af7]at this;simp at this;lia
   |cons _ _=>simp
  rw[<-hPw];refine k ord aq ak _ _ ⟨⟨by lia,by lia,?_,fun e he=>⟨?_,hPk e he⟩⟩,hol.1,?_,fun x hx=>?_,hmsS _ hgo⟩ (fun e=>by rw[e]at hPl;simp at hPl;lia)
  ·rw[hPw];exact hWn.sublist (List.take_sublist _ _)
  ·have:e.1∈W.take cuts.length:=by rw[<-hPw];exact T9 he
   exact hWo _ (Q0 this)
  ·rw[bD,S5,hcut,af7]at hP1
   lia
  ·obtain⟨p,hp,hx⟩:=T4.mp hx;rcases J9.mp hx with rfl|hx
   ·exact(hol.2 p hp).1
   ·rw[N5.mp hx];exact(hol.2 p hp).2
def jF:SpD:=fun ds M R=>∃(ord:List (Str×Str)) (aq:Str) (ak:List (Str×List Row)),ds=[dR ord aq ak]/\LxM ord aq ak/\R (.lst ((mks ord aq ak).map .str)) M
theorem rK(F:Fun K "_law_marks" "_law_marks" ig f fd) (T:Txt mg) :bA P w K mg base CX0 1 f fd ["_law_lexicon"] (spD K 1 jF):=by
 have nd:=ml.nd;refine F.okR rfl ml (fun cdv A outer s H E hr=>⟨_,(ah (aC (i:=1) nd rfl (L6 rfl) (di (ab (aD aE (aa 0) af (fun _ _=>rfl)) ag)))
   (ah (bU K9 rfl (aK (aD aE (aa 0) af (fun _ _=>rfl))) (ft rfl (br (aG (i:=2) nd rfl (L6 rfl)) (br (aG (i:=3) nd rfl (L6 rfl)) fo))) (am (cj (u6 (aa 1) (ck (ab (aa 2) (ab (aa 3) ag)))))))
   (ah (bU K9 rfl (aK (aD aE (aa 0) af (fun _ _=>rfl))) (ft rfl (br (aG (i:=4) nd rfl (L6 rfl)) (br (aG (i:=5) nd rfl (L6 rfl)) fo))) (am (bU K9 rfl (aK (aa 5)) (aG (i:=6) nd rfl (L6 rfl)) (am (cj (u6 (aa 1) (fF (ms:=[false,false,false,false,false,false,false]) (ai:=["_law_mark","_law_turn"]) (aF (n0:=0) rfl (show aS (aj ig) gW _ _=true from by decide +kernel)) rfl (aK (aa 6)) (dr (n:=2) rfl (aV (az (i:=7) (show(gW++_).Nodup from by decide +kernel) rfl rfl) (aV (az (i:=8) (show(gW++_).Nodup from by decide +kernel) rfl rfl) da))) (fun _ _ _ _=>bv) (fun _ _ _ _=>(aa 7)))))))))
   (am (eJ (De rfl rfl T.b_sorted rfl T.b_set (aa 1))))))),fun ds M R _ hS bk=>?_⟩)
 obtain⟨ord,aq,ak,rfl,hL,k⟩:=hS;have ho:=hL.o4;refine bk ?_;clear bk;have ho2:=kU (ord:=ord);have hk2:=hL.k4;simp only[dR];walk_at "rd";refine⟨sz3 1,fun q hq=>?_⟩;refine fun _=>?_;refine aI (fun i Δ M'=>∃x2 x3,Δ=[some (D.tup [D.tup (ord.map bo),D.str aq,D.tup (ak.map et)]),some (D.ref q),x2,x3,none,none,none]/\M'=aH M q (.lst ((aq::inO (ord.take i)).map D.str))) ⟨_,_,rfl,rfl⟩ ?_ ?_
 ·rintro i d Δ M' X hd ⟨x2,x3,rfl,rfl⟩ k';obtain⟨p,hp,rfl⟩:=bZ hd;have hi:i<ord.length:=(F8.mp hp).1;have hl2:=kU (ord:=ord.take i);rw[M0]at hl2;refine⟨_,rfl,?_⟩;simp only[bo];walk_at "rd";have e:inO (ord.take (i+1))=inO (ord.take i)++[p.1,p.2]:=by rw[O6,hp];simp[inO]
  refine⟨sz3 2,sz3 _ (by simp;lia),k' _ _ ⟨some (D.str p.1),some (D.str p.2),rfl,?_⟩⟩;rw[e];simp
 rintro Δ M' ⟨x2,x3,rfl,rfl⟩;rw[F1,S5];walk_at "rd";refine fun _=>?_;refine aI (fun i Δ M1=>∃x2 x3 y3 x4 x5,Δ=[some (D.tup [D.tup (ord.map bo),D.str aq,D.tup (ak.map et)]),some (D.ref q),x2,x3,y3,x4,x5]/\M1=aH M q (.lst ((aq::inO ord++inK (ak.take i)).map D.str))) ⟨_,_,none,none,none,rfl,by simp[inK]⟩ ?_ ?_
 ·rintro i d Δ M1 X hd ⟨x2,x3,y3,x4,x5,rfl,rfl⟩ k';obtain⟨e,hp,rfl⟩:=bZ hd;have hlk:=hL.take (i+1);simp only[et];refine⟨_,rfl,?_⟩;simp only[dE];walk_at "rd";refine fun _=>?_;refine aI (fun j Δ M2=>∃x2 x3 x5,Δ=[some (D.tup [D.tup (ord.map bo),D.str aq,D.tup (ak.map et)]),some (D.ref q),x2,x3,some (D.str e.1),some (D.tup (e.2.map aA)),x5]/\M2=aH M q (.lst ((aq::inO ord++inK (ak.take i)++(e.2.take j).flatMap fun r=>r.map (·.1)).map D.str))) ⟨_,_,x5,rfl,by simp⟩ ?_ ?_
  ·rintro j d Δ M2 X2 hd2 ⟨y2,y3,y5,rfl,rfl⟩ k2;obtain⟨r,hr,rfl⟩:=bZ hd2;have hfl:(inK (ak.take i)).length+((e.2.take (j+1)).flatMap fun r=>r.map (·.1)).length<=40:=by
    refine P7 ?_ hlk;have e3:inK (ak.take (i+1))=inK (ak.take i)++((e.2.take (j+1)).flatMap fun r=>r.map (·.1))++(e.2.drop (j+1)).flatMap fun r=>r.map (·.1):=by
     rw[O6,hp,U0,<-List.flatMap_append,List.take_append_drop];simp[inK]
    rw[e3,F6,F6];lia
   have e4:((e.2.take (j+1)).flatMap fun r=>r.map (·.1))=((e.2.take j).flatMap fun r=>r.map (·.1))++r.map (·.1):=by rw[O6,hr];simp
   rw[e4,F6,F1]at hfl;refine⟨_,rfl,?_⟩;simp only[aA];walk_at "rd";refine fun hz=>⟨hz,bw aM (fun _=>true) (fun s=>D.str s.1) (fun Δ=>∃x y,Δ=[none,none,none,none,none,none,none,x,y]) r _ _ (fun s hs Δ hΔ=>?_) ⟨none,none,rfl⟩ ?_⟩
   ·obtain⟨x,y,rfl⟩:=hΔ;refine⟨_,rfl,⟨_,_,rfl⟩,fun Q1 q=>q,fun _ Q2 q=>?_⟩;walk_at "rd";exact q
   ·rw[K5,L7.mpr (fun _ _=>rfl)];refine⟨_,aP,sz3 _ (by simp only[F1,F6,P2];lia),k2 _ _ ⟨_,_,some (D.tup (r.map aM)),rfl,?_⟩⟩;rw[e4,cf];simp[Function.comp_def]
  ·rintro Δ M2 ⟨y2,y3,y5,rfl,rfl⟩;rw[F1,S5];have e3:inK (ak.take (i+1))=inK (ak.take i)++e.2.flatMap fun r=>r.map (·.1):=by rw[O6,hp];simp[inK]
   refine k' _ _ ⟨_,_,some (D.str e.1),some (D.tup (e.2.map aA)),y5,rfl,?_⟩;rw[e3,<-U0]
 ·rintro Δ M1 ⟨x2,x3,y3,x4,x5,rfl,rfl⟩;rw[F1,S5];walk_at "rd";refine⟨aq::inO ord++inK ak,rfl,by simp;lia,?_⟩;have e:cO (eI (aq::inO ord++inK ak))=mks ord aq ak:=uf fun x=>by simp only[List.cons_append,J9,O3,L4,or_false];rw[<-or_assoc,or_comm (a:=x=aq)]
  rw[e];exact⟨_,eC hq,k⟩
def prB(p:Prop):Bool:=@decide p (Classical.propDecidable p)
theorem je{p:Prop}(h:p):prB p=true:=@decide_eq_true p (Classical.propDecidable p) h
theorem pK{p:Prop}(h:¬ p):prB p=false:=@decide_eq_false p (Classical.propDecidable p) h
def oD(l:List Int):Int:=l.foldl (·*·) 1
def kc:SpD:=fun ds M R=>∃l:List Int,ds=[.lst (l.map D.int)]/\l.length<=12/\(∀x∈l,0<=x/\x<=3)/\R (.int (oD l)) M
theorem tW{l:List Int}(h:∀x∈l,0<=x/\x<=3):∀a:Int,0<=a->0<=l.foldl (·*·) a/\l.foldl (·*·) a<=a*3 ^ l.length:=by
 induction l with
 |nil=>intro a ha;simp;exact ha
 |cons x l ih =>
  intro a ha;obtain⟨h0,h3⟩:=h x (.head _);have hax:0<=a*x:=Int.mul_nonneg ha h0;obtain⟨i1,i2⟩:=ih (fun y hy=>h y (.tail _ hy)) (a*x) hax;refine⟨i1,W7 i2 ?_⟩;rw[P2,Int.pow_succ,Int.mul_comm (3 ^ l.length) 3,<-Int.mul_assoc];exact Int.mul_le_mul_of_nonneg_right (Int.mul_le_mul_of_nonneg_left h3 ha) (Int.pow_nonneg (by decide))
theorem tI{l:List Int}(h:∀x∈l,0<=x/\x<=3) (hl:l.length<=12):0<=oD l/\oD l<=531441:=by
 obtain⟨h1,h2⟩:=tW h 1 (by decide);refine⟨h1,W7 h2 ?_⟩;rw[Int.one_mul];have:(3:Nat) ^ l.length<=3 ^ 12:=Nat.pow_le_pow_right (by decide) hl;have q:((3:Int) ^ l.length)=((3 ^ l.length:Nat):Int):=by simp
 rw[q];lia
theorem oB(F:Fun K "product" "product" gF f fd) (T:Txt mg) :bA P w K mg base CX0 1 f fd ["numbers"] (spD K 1 kc):=by
 have nd:=jx.nd;refine F.okR rfl jx (fun cdv A outer s H E hr=>⟨_,(ah (aC (i:=1) nd rfl (L6 rfl) af)
   (ah (bU K9 rfl (aK (aa 0)) (aG (i:=2) nd rfl (L6 rfl)) (am (CK (i:=1) nd rfl (L6 rfl) (aa 2) BM)))
   (am (aW (aa 1))))),fun ds M R _ hS bk=>?_⟩)
 obtain⟨l,rfl,hl,hb,k⟩:=hS;refine bk ?_;clear bk;walk_at "rd";refine fun _=>?_;refine aI (fun i Δ M'=>∃x,Δ=[some (D.lst (l.map D.int)),some (D.int (oD (l.take i))),x]/\M'=M) ⟨_,rfl,rfl⟩ ?_ ?_
 ·rintro i d Δ M' X hd ⟨x,rfl,rfl⟩ k';obtain⟨n,hn,rfl⟩:=bZ hd;refine⟨_,rfl,?_⟩;walk_at "rd";have e:oD (l.take (i+1))=oD (l.take i)*n:=by unfold oD;rw[O6,hn];simp
  obtain⟨b1,b2⟩:=tI (l:=l.take i) (fun x hx=>hb x (Q0 hx)) (by rw[M0];lia);obtain⟨c1,c2⟩:=hb n (J1 hn);exact⟨_,if_pos (.inl (by lia)),k' _ _ ⟨some (D.int n),by rw[e],rfl⟩⟩
 ·rintro Δ M' ⟨x,rfl,rfl⟩;rw[F1,S5];walk_at "rd";exact k
def dI:SpD:=fun ds M R=>∃a b:Int,ds=[.int a,.int b]/\1<=b/\b<10 ^ 30/\a.natAbs<10 ^ 30/\R (.int (T0 a b)) M
theorem qb{a b:Int}:T0 b (a % b)=T0 a b:=by rw[Int.gcd_comm b (a % b),Int.emod_def];exact Int.gcd_sub_mul_left_left b a (a / b)
theorem gu(F:Fun K "greatest_divisor" "greatest_divisor" cx f fd) (T:Txt mg) :bA P w K mg base CX0 1 f fd ["one","other"] (spD K 2 dI):=by
 have nd:=dw.nd;refine F.okR rfl dw (fun cdv A outer s H E hr=>⟨_,(ah (kR K9 (aQ (mI hr.units) (aa 1) af nbh) (am (Ai (i:=0) (j:=1) rfl nd rfl rfl (by decide) rfl rfl (ab (aa 1) (ab (aw bh (aa 0) (aa 1)) ag)) (by with_unfolding_all rfl))))
   (am (aW (au pW rfl T.b_abs (by kernel_rfl) (ab (aa 0) ag))))),fun ds M R _ hS bk=>?_⟩)
 obtain⟨a,b,rfl,hb,hb2,ha,k⟩:=hS;refine bk ?_;clear bk;walk_at "rd";refine⟨fun m Δ M'=>∃x y:Int,Δ=[some (D.int x),some (D.int y)]/\M'=M/\0<=y/\y<10 ^ 30/\x.natAbs<10 ^ 30/\T0 x y=T0 a b/\m=y.toNat,⟨b.toNat,a,b,rfl,rfl,by lia,hb2,ha,rfl,rfl⟩,?_⟩;rintro m Δ M' ⟨x,y,rfl,rfl,hy,hy2,hx,hg,rfl⟩;walk_at "rd";refine bj (fun c=>?_) (fun c=>?_)
 ·have hy0:y≠0:=fun z=>by subst z;simp at c
  have h0:0<=x % y:=X4 _ hy0;have h1:x % y<y:=V9 _ (by lia);exact⟨_,if_pos (by lia),_,_,⟨rfl,rfl⟩,_,(by lia:(x % y).toNat<y.toNat),y,x % y,⟨rfl,rfl⟩,h0,by lia,by lia,by rw[qb];exact hg,rfl⟩
 ·have hy0:y=0:=by simpa using c
  subst hy0;have e:(if x<0 then -x else x)=((T0 a b:Nat):Int):=by
   rw[<-hg,Int.gcd_zero_right];split<;>lia
  rw[e];exact k
theorem oJ(d:D):(∃x y,d=.tup [x,y])∨cq d 2=false:=by
 cases d with
 |tup ds =>
  match ds with
  |[x,y]=>exact .inl ⟨x,y,rfl⟩
  |[]=>exact .inr rfl
  |[_]=>exact .inr rfl
  |_::_::_::r=>exact .inr (by simp[cq];lia)
 |_=>exact .inr rfl
theorem ic{x:D}(h:jH x=true):∃a,x=.int a:=by cases x<;>first|exact⟨_,rfl⟩|(simp[jH]at h)
def frB:D->Bool
 |.tup [.int a,.int b]=>decide (a.natAbs<1000000000000000000000000000000)&&(decide (1<=b)&&(decide (b<1000000000000000000000000000000)&&decide (T0 a b=1)))
 |_=>false
theorem wU{d:D}(h:cq d 2=false):frB d=false:=by
 unfold frB
 split
 ·cases h
 ·rfl
theorem Al{x y:D}(h:¬ jH x=true):frB (.tup [x,y])=false:=by cases x<;>first|rfl|(exact absurd rfl h)
theorem zZ{x y:D}(h:¬ jH y=true):frB (.tup [x,y])=false:=by cases x<;>cases y<;>first|rfl|(exact absurd rfl h)
theorem ph{a n:Int}:(if a<0 then -a else a)<n↔(a.natAbs:Int)<n:=by split<;>lia
def gi:SpD:=lL frB
theorem jS(F:Fun K "is_fraction" "is_fraction" dP f fd) (T:Txt mg) (G0:FnD P w K mg base "is_tuple_of" 1 2 bE) (G4:FnD P w K mg base "is_whole" 1 1 fY) (G6:FnD P w K mg base "greatest_divisor" 1 2 dI):bA P w K mg base CX0 2 f fd ["thing"] (spD K 1 gi):=by
 have nd:=fE.nd;refine F.okR rfl fE (fun cdv A outer s H E hr=>⟨_,(am (aW (cz (qd G0 hr (ab (aa 0) (ab af ag))) (cz (qd G4 hr (ab (aD aE (aa 0) af (fun _ _=>rfl)) ag)) (cz (qd G4 hr (ab (aD aE (aa 0) af (fun _ _=>rfl)) ag)) (cz (fh oE (au pW rfl T.b_abs (by kernel_rfl) (ab (aD aE (aa 0) af (fun _ _=>rfl)) ag)) (jf rfl T.g_LEAST_OF_31_FIGURES) nbh) (cz (kS pB oE af (aD aE (aa 0) af (fun _ _=>rfl)) (jf rfl T.g_LEAST_OF_31_FIGURES)) (fM (fh (eU hr.units) (qd G6 hr (ab (aD aE (aa 0) af (fun _ _=>rfl)) (ab (aD aE (aa 0) af (fun _ _=>rfl)) ag))) af nbh))))))))),fun ds M R _ hS bk=>?_⟩);obtain⟨d,rfl,hd,k⟩:=hS;refine bk ?_;clear bk;walk_at "rd";refine⟨d,2,rfl,hd,_,rfl,?_⟩;obtain⟨x,y,rfl⟩|h:=oJ d
 ·have hg:av x=true/\av y=true:=by simpa[av,cW]using hd
  rw[if_pos (show cq (D.tup [x,y]) 2=true from rfl)];refine⟨x,rfl,x,rfl,hg.1,_,rfl,bj (fun wx=>?_) (fun wx=>by rw[Al wx]at k;exact k)⟩;obtain⟨a,rfl⟩:=ic wx;refine⟨y,rfl,y,rfl,hg.2,_,rfl,bj (fun wy=>?_) (fun wy=>by rw[zZ wy]at k;exact k)⟩;obtain⟨b,rfl⟩:=ic wy;walk_at "rd";have e1:∀p:Bool,frB (.tup [.int a,.int b])=p->R (D.bl p) M:=fun p h=>by rw[h]at k;exact k
  refine bj (fun h1=>bj (fun h2=>bj (fun h3=>?_) (fun h3=>e1 false ?_)) (fun h2=>e1 false ?_)) (fun h1=>e1 false ?_)
  ·have h1':a.natAbs<1000000000000000000000000000000:=by have:=ph.mp h1;lia
   refine⟨a,b,rfl,h2,by lia,by lia,_,k9,e1 _ ?_⟩;simp only[frB,decide_eq_true h1',decide_eq_true h2,decide_eq_true h3,R6];congr 1;simp only[eq_iff_iff];lia
  ·simp only[frB,decide_eq_false h3,P8,ad4]
  ·simp only[frB,decide_eq_false h2,P8,ad4]
  ·have h1':¬ a.natAbs<1000000000000000000000000000000:=fun z=>h1 (ph.mpr (by lia));simp only[frB,decide_eq_false h1',P8]
 ·rw[wU h]at k;rw[if_neg (by simp[h])];exact k
def kj:SpD:=lL iI
theorem oK(F:Fun K "is_mark" "is_mark" gO f fd) (T:Txt mg) (G9:FnD P w K mg base "is_short_word" 1 1 ff):bA P w K mg base CX0 2 f fd ["thing"] (spD K 1 kj):=by
 have nd:=i9.nd;refine F.okR rfl i9 (fun cdv A outer s H E hr=>⟨_,(am (aW (qd G9 hr (ab (aa 0) ag)))),fun ds M R _ hS bk=>?_⟩);obtain⟨d,rfl,hd,k⟩:=hS;refine bk ?_;clear bk;walk_at "rd";exact⟨d,rfl,hd,k⟩
def szB:D->Bool
 |.tup [.str x,.int n]=>cA x&&(decide (1<=n)&&decide (n<=3))
 |_=>false
def kf:SpD:=lL szB
theorem o3(F:Fun K "is_size" "is_size" gN f fd) (T:Txt mg) (G0:FnD P w K mg base "is_tuple_of" 1 2 bE) (ga9:FnD P w K mg base "is_mark" 2 1 kj) (G4:FnD P w K mg base "is_whole" 1 1 fY):bA P w K mg base CX0 3 f fd ["thing"] (spD K 1 kf):=by
 have nd:=jc.nd;refine F.okR rfl jc (fun cdv A outer s H E hr=>⟨_,(am (aW (cz (qd G0 hr (ab (aa 0) (ab af ag))) (cz (qd ga9 hr (ab (aD aE (aa 0) af (fun _ _=>rfl)) ag)) (cz (qd G4 hr (ab (aD aE (aa 0) af (fun _ _=>rfl)) ag)) (fM (kS pB pB af (aD aE (aa 0) af (fun _ _=>rfl)) (jf rfl T.g_MOST_SIZE)))))))),fun ds M R _ hS bk=>?_⟩);obtain⟨d,rfl,hd,k⟩:=hS;refine bk ?_;clear bk;walk_at "rd";refine⟨d,2,rfl,hd,_,rfl,?_⟩;have e1:∀p:Bool,szB d=p->R (D.bl p) M:=fun p h=>by rw[h]at k;exact k
 clear k;obtain⟨x,y,rfl⟩|h:=oJ d
 ·have hg:av x=true/\av y=true:=by simpa[av,cW]using hd
  rw[if_pos (show cq (D.tup [x,y]) 2=true from rfl)];refine⟨x,rfl,x,rfl,hg.1,_,rfl,bj (fun wx=>?_) (fun wx=>e1 false ?_)⟩
  ·obtain⟨m,rfl⟩:∃m,x=.str m:=by cases x<;>first|exact⟨_,rfl⟩|(simp[iI]at wx)
   have hm:cA m=true:=wx;refine⟨y,rfl,y,rfl,hg.2,_,rfl,bj (fun wy=>?_) (fun wy=>e1 false ?_)⟩
   ·obtain⟨b,rfl⟩:=ic wy;walk_at "rd";refine bj (fun h1=>e1 _ ?_) (fun h1=>e1 false ?_)
    ·simp only[szB,hm,decide_eq_true h1,R6]
    ·simp only[szB,decide_eq_false h1,P8,ad4]
   ·cases y<;>first|rfl|(exact absurd rfl wy)
  ·cases x<;>cases y<;>first|rfl|(simp only[szB];rw[show cA _=false from eq_false_of_ne_true wx,P8])
 ·rw[if_neg (by simp[h])];refine e1 false ?_;unfold szB
  split
  ·cases h
  ·rfl
def iK:D->Bool
 |.str x=>[D.str (K3 "sums"),D.str (K3 "truths")].any fun d=>eqD d (.str x)
 |_=>false
def lR:SpD:=lL iK
theorem p9(F:Fun K "is_how" "is_how" iM f fd) (T:Txt mg) :bA P w K mg base CX0 1 f fd ["thing"] (spD K 1 lR):=by
 have nd:=ka.nd;refine F.okR rfl ka (fun cdv A outer s H E hr=>⟨_,(am (aW (cz (bV (Tn:="str") (by decide) rfl T.b_isinstance rfl T.b_str (by kernel_rfl) (aa 0)) (fM (fh xF (aa 0) (bF (ab (jg rfl T.g_SUMS) (ab (jg rfl T.g_TRUTHS) ag))) rfl))))),fun ds M R _ hS bk=>?_⟩);obtain⟨d,rfl,hd,k⟩:=hS;refine bk ?_;clear bk;walk_at "rd";simp only[bG hd];cases d with
 |str x =>
  refine⟨true,rfl,?_⟩;rw[if_pos rfl];refine⟨sz3 2,_,if_pos ⟨rfl,rfl⟩,?_⟩;rw[Bool.false_xor];exact k
 |scr _=>simp[av]at hd
 |ref _=>simp[av]at hd
 |box _ _=>simp[av]at hd
 |_=>exact⟨false,rfl,by simp only[K1,if_false];exact k⟩
noncomputable def bQ(sz:Row) (m:Str):Int:=(sz.lookup m).getD 0
def du(sz:Row):List (Key×D):=sz.map fun s=>(.inr s.1,.int s.2)
def my(ord:List (Str×Str)) (ms:List Str) (sz:Row):Prop:=(∀s∈sz,1<=s.2/\s.2<=3)/\sz.map (·.1)=ms/\∀p∈ord,bQ sz p.1=bQ sz p.2
def mB(ord:List (Str×Str)) (ms:List Str) (d:D):Prop:=∃sz:Row,d=aA sz/\my ord ms sz
theorem dJ{m:Str}:∀{sz:Row},m∈sz.map (·.1)->eQ (du sz) (.inr m)=some (.int (bQ sz m))
 |[],h=>by cases h
 |e::l,h=>by
  unfold du bQ;rw[J8,N8]
  by_cases c:e.1=m
  ·rw[cD (by rw[c]),show(m==e.1)=true by simp[c]];rfl
  ·rw[cB (fun z=>c (ah7 z)),show(m==e.1)=false by simpa using fun q:m=e.1=>c q.symm];rw[J8]at h;exact dJ ((J9.mp h).resolve_left fun z=>c z.symm)
theorem vN{kvs:List (Key×D)}{k:Key}{v:D}(h:k∉kvs.map (·.1)):fV kvs k v=kvs++[(k,v)]:=by
 unfold fV;rw[if_neg];intro z;obtain⟨p,hp,e⟩:=List.any_eq_true.mp z;exact h (O9.mpr ⟨p,hp,of_decide_eq_true e⟩)
theorem oH{g:GD}{tk tv:TEd}{p:J7}(Ok:DE->Prop):∀(sz:Row) (Δ:DE) (M:DH) (a:Row) (Q:DH->Prop),
  (∀s∈sz,∀ Δ,Ok Δ->∃ Δ',g (aM s) Δ=some Δ'/\Ok Δ'/\(∀M (Q1:D->DH->Prop),Q1 (.str s.1) M->tk Δ' M Q1)/\∀M (Q2:D->DH->Prop),Q2 (.int s.2) M->tv Δ' M Q2)->Ok Δ ->
  a.length+sz.length<=1000->((a++sz).map (·.1)).Nodup->Q (aH M p (.dK (du (a++sz))))->j0 g tk tv p (sz.map aM) Δ (aH M p (.dK (du a))) Q
 |[],Δ,M,a,Q,_,_,_,_,q=>by
  rw[V5]at q;exact q
 |s::sz,Δ,M,a,Q,h,hΔ,hl,hn,q=>by
  rw[J8];simp only[j0];obtain⟨Δ',e,hΔ',h1,h2⟩:=h s (.head _) Δ hΔ;rw[P2]at hl;refine⟨Δ',e,h1 _ _ (h2 _ _ ⟨du a,.inr s.1,rfl,aP,?_,?_⟩)⟩
  ·unfold du;rw[F1];exact J5 (by lia) (sz3 1000)
  ·have hk:(.inr s.1:Key)∉(du a).map (·.1):=fun z=>by
    unfold du at z;rw[N0]at z;obtain⟨t,ht,e⟩:=O9.mp z;have e':t.1=s.1:=ah7 e;rw[O2,J8,af5]at hn;exact hn.2.2 t.1 (T9 ht) s.1 (.head _) e'
   have e2:a++s::sz=(a++[s])++sz:=by simp
   rw[vN hk,cf,show du a++[((.inr s.1:Key),D.int s.2)]=du (a++[s])by unfold du;rw[O2];rfl];exact oH Ok sz Δ' M (a++[s]) Q (fun t ht=>h t (.tail _ ht)) hΔ' (by rw[F6];simp;lia) (by rw[<-e2];exact hn) (by rw[<-e2];exact q)
theorem xg:∀{ds:List D},(∀d∈ds,szB d=true)->∃sz:Row,ds=sz.map aM/\∀s∈sz,cA s.1=true/\1<=s.2/\s.2<=3
 |[],_=>⟨[],rfl,fun _ h=>by cases h⟩
 |d::ds,h=>by
  obtain⟨sz,rfl,hs⟩:=xg (ds:=ds) fun x hx=>h x (.tail _ hx);have hd:=h d (.head _);unfold szB at hd
  split at hd
  ·rename_i x n;simp only[N1,decide_eq_true_eq]at hd;refine⟨(x,n)::sz,rfl,fun s z=>?_⟩;rcases J9.mp z with rfl|z
   ·exact hd
   ·exact hs s z
  ·cases hd
def iA:SpD:=fun ds M R=>∃(ord:List (Str×Str)) (aq:Str) (ak:List (Str×List Row)) (d:D),ds=[dR ord aq ak,d]/\LxM ord aq ak/\av d=true/\R (.bl (prB (mB ord (mks ord aq ak) d))) M
theorem kX(F:Fun K "are_sizes" "are_sizes" bO f fd) (T:Txt mg) (ga3:FnD P w K mg base "marks_of" 1 1 ji) (ga8:FnD P w K mg base "is_size" 3 1 kf):bA P w K mg base CX0 4 f fd ["lexicon","thing"] (spD K 2 iA):=by
 have nd:=gy.nd;refine F.okR rfl gy (fun cdv A outer s H E hr=>⟨_,(ah (bC (gc (cZ (bM (bu (bV (Tn:="tuple") (by decide) rfl T.b_isinstance rfl T.b_tuple (by kernel_rfl) (aa 1)))) (dq (bM (bu (au (gp rfl) rfl T.b_all (by kernel_rfl) (ab (fF (ms:=[false,false,false]) (ai:=["part"]) (aF rfl (show aS (aj bO) aX _ _=true from by decide +kernel)) rfl (aK (aa 1)) (az (i:=3) (show(aX++_).Nodup from by decide +kernel) rfl rfl) (fun _ _ _ _=>bv) (fun _ _ _ _=>(qd ga8 hr (ab (aa 3) ag)))) ag))))))) (am (aW fU)) bf)
   (ah (bC (aQ (mI hr.units) (fF (ms:=[false,false,false]) (ai:=["mark","size"]) (aF rfl (show aS (aj bO) aX _ _=true from by decide +kernel)) rfl (aK (aa 1)) (dr (n:=2) rfl (aV (az (i:=3) (show(aX++_).Nodup from by decide +kernel) rfl rfl) (aV (az (i:=4) (show(aX++_).Nodup from by decide +kernel) rfl rfl) da))) (fun _ _ _ _=>bv) (fun _ _ _ _=>(aa 3))) (qd ga3 hr (ab (aa 0) ag)) nbh) (am (aW fU)) bf)
   (ah (aC (i:=2) nd rfl (aj0 rfl) (DP (ms:=[false,false,false]) (ai:=["mark","size"]) hr.units0 (aF rfl (show aS (aj bO) aX _ _=true from by decide +kernel)) rfl (aK (aa 1)) (dr (n:=2) rfl (aV (az (i:=3) (show(aX++_).Nodup from by decide +kernel) rfl rfl) (aV (az (i:=4) (show(aX++_).Nodup from by decide +kernel) rfl rfl) da))) (fun _ _ _ _=>(aa 3)) (fun _ _ _ _=>(aa 4))))
   (am (aW (au (gp rfl) rfl T.b_all (by kernel_rfl) (ab (fF (ms:=[false,false,true]) (ai:=["low","high"]) (aF rfl (show aS (aj bO) aX _ _=true from by decide +kernel)) rfl (aK (aD aE (aa 0) af (fun _ _=>rfl))) (dr (n:=2) rfl (aV (az (i:=3) (show(aX++_).Nodup from by decide +kernel) rfl rfl) (aV (az (i:=4) (show(aX++_).Nodup from by decide +kernel) rfl rfl) da))) (fun _ _ _ _=>bv) (fun _ _ _ _=>(fh (eU hr.units) (iQ hr.units1 (aa 2) (aa 3) (fun _ _=>rfl)) (iQ hr.units1 (aa 2) (aa 4) (fun _ _=>rfl)) nbh))) ag))))))),fun ds M R _ hS bk=>?_⟩)
 obtain⟨ord,aq,ak,d,rfl,hL,hd,k⟩:=hS;refine bk ?_;clear bk;have yes:mB ord (mks ord aq ak) d->R (.bl true) M:=fun h=>by rw[je h]at k;exact k
 have no:¬ mB ord (mks ord aq ak) d->R (.bl false) M:=fun h=>by rw[pK h]at k;exact k
 clear k;walk_at "rd";simp only[bG hd];cases d with
 |tup ds =>
  refine⟨true,rfl,?_⟩;rw[if_neg (by simp)];have hg:∀e∈ds,av e=true:=bW.mp hd;refine⟨_,rfl,fun hz=>⟨hz,?_⟩⟩;refine bP (fun _=>true) (fun d=>.bl (szB d)) (fun Δ=>∃x,Δ=[none,none,none,x]) _ _ _ (fun e he Δ hΔ=>?_) ⟨none,rfl⟩ ?_
  ·obtain⟨x1,rfl⟩:=hΔ;refine⟨_,rfl,⟨_,rfl⟩,fun Q1 q=>q,fun _ Q2 q=>?_⟩;walk_at "rd";exact⟨e,rfl,hg e he,q⟩
  rw[K5,L7.mpr (fun _ _=>rfl),show(ds.map fun d=>D.bl (szB d))=(ds.map szB).map D.bl by rw[N0];rfl];refine⟨_,b7,_,rfl,bj (fun c1=>no fun⟨sz,e,hs⟩=>?_) (fun c1=>?_)⟩
  ·obtain rfl:ds=sz.map aM:=by simpa[aA]using e
   have:((sz.map aM).map szB).all id=true:=by
    rw[R0,R0,M7];intro s hm;have h1:=hs.1 s hm;have h2:cA s.1=true:=hL.short (by rw[<-hs.2.1];exact T9 hm);show(cA s.1&&(decide (1<=s.2)&&decide (s.2<=3)))=true;simp[h2,h1]
   rw[this]at c1;cases c1
  have hall:∀d∈ds,szB d=true:=by
   have:((ds.map szB).all id)=true:=by simpa using c1
   rw[R0,M7]at this;exact this
  obtain⟨sz,rfl,hsz⟩:=xg hall;clear hall c1;refine⟨_,rfl,fun hz=>⟨hz,?_⟩⟩;refine bw aM (fun _=>true) (fun s=>D.str s.1) (fun Δ=>∃x y,Δ=[none,none,none,x,y]) sz _ _ (fun s hs Δ hΔ=>?_) ⟨none,none,rfl⟩ ?_
  ·obtain⟨x,y,rfl⟩:=hΔ;refine⟨_,rfl,⟨_,_,rfl⟩,fun Q1 q=>q,fun _ Q2 q=>?_⟩;walk_at "rd";exact q
  rw[K5,L7.mpr (fun _ _=>rfl),show(sz.map fun s=>D.str s.1)=(sz.map (·.1)).map D.str by rw[N0];rfl];refine⟨ord,aq,ak,rfl,hL,_,oR D.str (fun x y=>by simp only[eqD];exact ab8.mpr (by simp)) (fun _=>rfl),_,rfl,bj (fun c2=>no fun⟨sz',e,hs⟩=>?_) (fun c2=>?_)⟩
  ·obtain rfl:sz=sz':=eD _ _ (show aA sz=aA sz' from e);have:=hs.2.1;simp[this]at c2
  have hms:sz.map (·.1)=mks ord aq ak:=by simpa using c2
  refine⟨_,rfl,fun hz2 p hp=>?_⟩;have hsl:sz.length<=49:=by
   have:=congrArg X0 hms;rw[F1]at this;have:=hL.len
   lia
  refine oH (fun Δ=>∃x y,Δ=[none,none,none,x,y]) sz _ _ [] _ (fun s hs Δ hΔ=>?_) ⟨none,none,rfl⟩ (by simp;lia) (by rw[K5,hms];exact iP) ?_
  ·obtain⟨x,y,rfl⟩:=hΔ;exact⟨_,rfl,⟨_,_,rfl⟩,fun M Q1 q=>⟨_,rfl,q⟩,fun M Q2 q=>⟨_,rfl,q⟩⟩
  rw[K5];refine⟨_,aP,?_⟩;rw[dM hp];refine⟨.tup (ord.map bo),rfl,_,rfl,fun hz3=>⟨hz3,?_⟩⟩;have hin:∀p∈ord,p.1∈sz.map (·.1)/\p.2∈sz.map (·.1):=fun p hp=>by
   rw[hms];exact⟨eZ.mpr (.inl (T4.mpr ⟨p,hp,.head _⟩)),eZ.mpr (.inl (T4.mpr ⟨p,hp,.tail _ (.head _)⟩))⟩
  refine bw bo (fun _=>true) (fun p=>D.bl (decide (bQ sz p.1=bQ sz p.2))) (fun Δ=>∃x y,Δ=[none,none,some (dO (du sz)),x,y]) ord _ _ (fun p hp Δ hΔ=>?_) ⟨none,none,rfl⟩ ?_
  ·obtain⟨x,y,rfl⟩:=hΔ;refine⟨_,rfl,⟨_,_,rfl⟩,fun Q1 q=>q,fun _ Q2 q=>?_⟩;walk_at "rd";exact⟨_,eS,_,dJ (hin p hp).1,_,eS,_,dJ (hin p hp).2,by rw[cG,cG];exact⟨_,k9,q⟩⟩
  rw[K5,L7.mpr (fun _ _=>rfl),show(ord.map fun p=>D.bl (decide (bQ sz p.1=bQ sz p.2)))=(ord.map fun p=>decide (bQ sz p.1=bQ sz p.2)).map D.bl by rw[N0];rfl];refine⟨_,b7,?_⟩;rw[R0]
  by_cases h:∀p∈ord,bQ sz p.1=bQ sz p.2
  ·rw[show(ord.all (id∘fun p=>decide (bQ sz p.1=bQ sz p.2)))=true from M7.mpr fun p hp=>decide_eq_true (h p hp)];exact yes ⟨sz,rfl,fun s hs=>(hsz s hs).2,hms,h⟩
  ·rw[show(ord.all (id∘fun p=>decide (bQ sz p.1=bQ sz p.2)))=false from eq_false_of_ne_true fun z=>h fun p hp=>of_decide_eq_true (M7.mp z p hp)];refine no fun⟨sz',e,hs⟩=>h ?_;obtain rfl:sz=sz':=eD _ _ (show aA sz=aA sz' from e);exact hs.2.2
 |scr _=>simp[av]at hd
 |ref _=>simp[av]at hd
 |box _ _=>simp[av]at hd
 |_=>exact⟨false,rfl,by rw[if_pos (by simp)];exact no fun⟨_,e,_⟩=>by cases e⟩
def c7(sz kd:Row):Int:=oD (kd.map fun s=>bQ sz s.1)
def InS(sz kd:Row):Prop:=∀s∈kd,s.1∈sz.map (·.1)
theorem kQ{m:Str}:∀{sz:Row},(∀s∈sz,1<=s.2/\s.2<=3)->m∈sz.map (·.1)->1<=bQ sz m/\bQ sz m<=3
 |[],_,h=>by cases h
 |e::l,hs,h=>by
  unfold bQ;rw[N8]
  by_cases c:e.1=m
  ·rw[show(m==e.1)=true by simp[c]];exact hs e (.head _)
  ·rw[show(m==e.1)=false by simpa using fun q:m=e.1=>c q.symm];rw[J8]at h;exact kQ (fun s hm=>hs s (.tail _ hm)) ((J9.mp h).resolve_left fun z=>c z.symm)
def cM:SpD:=fun ds M R=>∃sz kd:Row,ds=[dO (du sz),aA kd]/\(∀s∈sz,1<=s.2/\s.2<=3)/\InS sz kd/\kd.length<=5/\R (.int (c7 sz kd)) M
theorem eW(F:Fun K "ways_to_give_indices" "ways_to_give_indices" bx f fd) (T:Txt mg) (ga7:FnD P w K mg base "product" 1 1 kc):bA P w K mg base CX0 2 f fd ["size_of","kind"] (spD K 2 cM):=by
 have nd:=cH.nd;refine F.okR rfl cH (fun cdv A outer s H E hr=>⟨_,(am (aW (qd ga7 hr (ab (fF (ms:=[true,false]) (ai:=["mark","turn"]) (aF rfl (show aS (aj bx) bz _ _=true from by decide +kernel)) rfl (aK (aa 1)) (dr (n:=2) rfl (aV (az (i:=2) (show(bz++_).Nodup from by decide +kernel) rfl rfl) (aV (az (i:=3) (show(bz++_).Nodup from by decide +kernel) rfl rfl) da))) (fun _ _ _ _=>bv) (fun _ _ _ _=>(iQ hr.units1 (aa 0) (aa 2) (fun _ _=>rfl)))) ag)))),fun ds M R _ hS bk=>?_⟩);obtain⟨sz,kd,rfl,hs,hin,hl,k⟩:=hS;refine bk ?_;clear bk;simp only[aA];walk_at "rd";refine fun hz=>⟨hz,?_⟩;refine bw aM (fun _=>true) (fun s=>D.int (bQ sz s.1)) (fun Δ=>∃x y,Δ=[some (dO (du sz)),none,x,y]) kd _ _ (fun s hm Δ hΔ=>?_) ⟨none,none,rfl⟩ ?_
 ·obtain⟨x,y,rfl⟩:=hΔ;refine⟨_,rfl,⟨_,_,rfl⟩,fun Q1 q=>q,fun _ Q2 q=>?_⟩;walk_at "rd";exact⟨_,eS,_,dJ (hin s hm),q⟩
 rw[K5,L7.mpr (fun _ _=>rfl)];refine⟨kd.map fun(s:Str×Int)=>bQ sz s.1,by rw[N0];rfl,by rw[F1];lia,fun x hx=>?_,k⟩;obtain⟨s,hm,rfl⟩:=O9.mp hx;have:=kQ hs (hin s hm)
 lia
def gq(how:Str) (d:D):Bool:=if(how==K3 "sums")=true then frB d else mU d
theorem sX{p:Prop}:prB p=true↔p:=⟨fun h=>Classical.byContradiction fun z=>(by rw[pK z]at h;cases h),je⟩
def cV(how:Str) (n:Int):D->Bool
 |.tup cs=>((cs.length:Int)==n)&&cs.all (gq how)
 |_=>false
theorem qx{d:D}{M:DH}(h:av d=true):vF "bool" (rdM M d)=some (mU d):=by
 rw[bG h];cases d<;>first|rfl|(simp[av]at h)
def iz:SpD:=fun ds M R=>∃(how:Str) (n:Int) (d:D),ds=[.str how,.int n,d]/\av d=true/\R (.bl (cV how n d)) M
theorem ma(F:Fun K "are_cells" "are_cells" cN f fd) (T:Txt mg) (G0:FnD P w K mg base "is_tuple_of" 1 2 bE) (Y2:FnD P w K mg base "is_fraction" 2 1 gi):bA P w K mg base CX0 3 f fd ["how","many","thing"] (spD K 3 iz):=by
 have nd:=gP.nd;refine F.okR rfl gP (fun cdv A outer s H E hr=>⟨_,(ah (bC (bM (bu (qd G0 hr (ab (aa 2) (ab (aa 1) ag))))) (am (aW fU)) bf)
   (ah (bC (aQ (eU hr.units) (aa 0) (jg rfl T.g_SUMS) nbh) (am (aW (au (gp rfl) rfl T.b_all (by kernel_rfl) (ab (fF (ms:=[false,false,false]) (ai:=["cell"]) (aF (n0:=0) rfl (show aS (aj cN) cP _ _=true from by decide +kernel)) rfl (aK (aa 2)) (az (i:=3) (show(cP++_).Nodup from by decide +kernel) rfl rfl) (fun _ _ _ _=>bv) (fun _ _ _ _=>(qd Y2 hr (ab (aa 3) ag)))) ag)))) bf)
   (am (aW (au (gp rfl) rfl T.b_all (by kernel_rfl) (ab (fF (ms:=[false,false,false]) (ai:=["cell"]) (aF (n0:=0) rfl (show aS (aj cN) cP _ _=true from by decide +kernel)) rfl (aK (aa 2)) (az (i:=3) (show(cP++_).Nodup from by decide +kernel) rfl rfl) (fun _ _ _ _=>bv) (fun _ _ _ _=>(bV (Tn:="bool") (by decide) rfl T.b_isinstance rfl T.b_bool (by kernel_rfl) (aa 3)))) ag)))))),fun ds M R _ hS bk=>?_⟩)
 obtain⟨how,n,d,rfl,hd,k⟩:=hS;refine bk ?_;clear bk;walk_at "rd";refine⟨d,n,rfl,hd,_,rfl,?_⟩;cases d with
 |tup cs =>
  have hg:∀e∈cs,av e=true:=bW.mp hd;refine bj (fun c1=>?_) (fun c1=>?_)
  ·have c1':((cs.length:Int)==n)=false:=by simpa[cq]using c1
   simp only[cV,c1',P8]at k;exact k
  ·have c1':((cs.length:Int)==n)=true:=by simpa[cq]using c1
   simp only[cV,c1',R6]at k;refine bj (fun c2=>?_) (fun c2=>?_)
   ·refine⟨_,rfl,fun hz=>⟨hz,?_⟩⟩;refine bP (fun _=>true) (fun d=>.bl (frB d)) (fun Δ=>∃x,Δ=[none,none,none,x]) _ _ _ (fun e he Δ hΔ=>?_) ⟨none,rfl⟩ ?_
    ·obtain⟨x1,rfl⟩:=hΔ;refine⟨_,rfl,⟨_,rfl⟩,fun Q1 q=>q,fun _ Q2 q=>?_⟩;walk_at "rd";exact⟨e,rfl,hg e he,q⟩
    rw[K5,L7.mpr (fun _ _=>rfl),show(cs.map fun d=>D.bl (frB d))=(cs.map frB).map D.bl by rw[N0];rfl];refine⟨_,b7,?_⟩;have e:cs.all (gq how)=(cs.map frB).all id:=by
     rw[R0];congr 1;funext d;exact if_pos c2
    rw[<-e];exact k
   ·refine⟨_,rfl,fun hz=>⟨hz,?_⟩⟩;refine bP (fun _=>true) (fun d=>.bl (mU d)) (fun Δ=>∃x,Δ=[none,none,none,x]) _ _ _ (fun e he Δ hΔ=>?_) ⟨none,rfl⟩ ?_
    ·obtain⟨x1,rfl⟩:=hΔ;refine⟨_,rfl,⟨_,rfl⟩,fun Q1 q=>q,fun _ Q2 q=>?_⟩;walk_at "rd";exact⟨_,qx (hg e he),q⟩
    rw[K5,L7.mpr (fun _ _=>rfl),show(cs.map fun d=>D.bl (mU d))=(cs.map mU).map D.bl by rw[N0];rfl];refine⟨_,b7,?_⟩;have e:cs.all (gq how)=(cs.map mU).all id:=by
     rw[R0];congr 1;funext d;exact if_neg c2
    rw[<-e];exact k
 |scr _=>simp[av]at hd
 |ref _=>simp[av]at hd
 |box _ _=>simp[av]at hd
 |_=>exact k
theorem ib{α:Type}(f:α->D):∀{l:List α}{ts:List D},gM (l.map f) ts=(l.zip ts).map fun p=>D.tup [f p.1,p.2]
 |[],_=>by simp[gM]
 |_::_,[]=>by simp[gM]
 |a::l,t::ts=>by rw[J8,ad9,J8,<-ib f];rfl
def jO(how:Str) (sz:Row) (ks:List Row):D->Bool
 |.tup ts=>((ts.length:Int)==ks.length)&&(ks.zip ts).all fun p=>cV how (c7 sz p.1) p.2
 |_=>false
def jh:SpD:=fun ds M R=>∃(how:Str) (sz:Row) (ks:List Row) (d:D),ds=[.str how,dO (du sz),dE ks,d]/\(∀s∈sz,1<=s.2/\s.2<=3)/\ks.length<=2/\(∀r∈ks,r.length<=5/\InS sz r)/\av d=true/\R (.bl (jO how sz ks d)) M
theorem mP(F:Fun K "is_table" "is_table" dU f fd) (T:Txt mg) (G0:FnD P w K mg base "is_tuple_of" 1 2 bE) (Y9:FnD P w K mg base "are_cells" 3 3 iz) (G5:FnD P w K mg base "ways_to_give_indices" 2 2 cM):bA P w K mg base CX0 4 f fd ["how","size_of","kinds","thing"] (spD K 4 jh):=by
 have nd:=iB.nd;refine F.okR rfl iB (fun cdv A outer s H E hr=>⟨_,(am (aW (cz (qd G0 hr (ab (aa 3) (ab (au bc rfl T.b_len (by kernel_rfl) (ab (aa 2) ag)) ag))) (fM (au (gp rfl) rfl T.b_all (by kernel_rfl) (ab (fF (ms:=[true,true,false,false]) (ai:=["kind","cells"]) (aF rfl (show aS (aj dU) dY _ _=true from by decide +kernel)) rfl (vJ rfl T.b_zip (ab (aa 2) (ab (aa 3) ag))) (dr (n:=2) rfl (aV (az (i:=4) (show(dY++_).Nodup from by decide +kernel) rfl rfl) (aV (az (i:=5) (show(dY++_).Nodup from by decide +kernel) rfl rfl) da))) (fun _ _ _ _=>bv) (fun _ _ _ _=>(qd Y9 hr (ab (aa 0) (ab (qd G5 hr (ab (aa 1) (ab (aa 4) ag))) (ab (aa 5) ag)))))) ag)))))),fun ds M R _ hS bk=>?_⟩);obtain⟨how,sz,ks,d,rfl,hs,hkl,hk,hd,k⟩:=hS;refine bk ?_;clear bk;simp only[dE];walk_at "rd";refine⟨d,_,rfl,hd,_,rfl,?_⟩;rw[F1];cases d with
 |tup ts =>
  have hg:∀e∈ts,av e=true:=bW.mp hd;refine bj (fun c1=>?_) (fun c1=>?_)
  ·have c1':((ts.length:Int)==ks.length)=true:=by simpa[cq]using c1
   simp only[jO,c1',R6]at k;refine⟨_,_,⟨rfl,rfl⟩,_,_,_,rfl,_,rfl,?_⟩;have e:gM (ks.map aA) ts=(ks.zip ts).map fun p=>D.tup [aA p.1,p.2]:=ib aA;rw[e];refine⟨by rw[F1,List.length_zip];exact sz3 _ (by lia),?_⟩;refine bw (fun p:Row×D=>D.tup [aA p.1,p.2]) (fun _=>true) (fun p=>D.bl (cV how (c7 sz p.1) p.2)) (fun Δ=>∃x y,Δ=[some (D.str how),some (dO (du sz)),none,none,x,y]) (ks.zip ts) _ _ (fun p hp Δ hΔ=>?_) ⟨none,none,rfl⟩ ?_
   ·obtain⟨x,y,rfl⟩:=hΔ;refine⟨_,rfl,⟨_,_,rfl⟩,fun Q1 q=>q,fun _ Q2 q=>?_⟩;walk_at "rd";obtain⟨h1,h2⟩:=ah0 hp;exact⟨sz,p.1,rfl,hs,(hk _ h1).2,(hk _ h1).1,how,_,p.2,rfl,hg _ h2,q⟩
   rw[K5,L7.mpr (fun _ _=>rfl),show((ks.zip ts).map fun p=>D.bl (cV how (c7 sz p.1) p.2))=((ks.zip ts).map fun p=>cV how (c7 sz p.1) p.2).map D.bl by rw[N0];rfl];refine⟨_,b7,?_⟩;rw[R0];exact k
  ·have c1':((ts.length:Int)==ks.length)=false:=by simpa[cq]using c1
   simp only[jO,c1',P8]at k;exact k
 |scr _=>simp[av]at hd
 |ref _=>simp[av]at hd
 |box _ _=>simp[av]at hd
 |_=>exact k
def gh(how:Str) (sz:Row) (ak:List (Str×List Row)):D->Bool
 |.tup ts=>((ts.length:Int)==ak.length)&&(ak.zip ts).all fun p=>jO how sz p.1.2 p.2
 |_=>false
def gR:SpD:=fun ds M R=>∃(ord:List (Str×Str)) (aq:Str) (ak:List (Str×List Row)) (how:Str) (sz:Row) (d:D),ds=[dR ord aq ak,.str how,dO (du sz),d]/\LxM ord aq ak/\(∀s∈sz,1<=s.2/\s.2<=3)/\sz.map (·.1)=mks ord aq ak/\av d=true/\R (.bl (gh how sz ak d)) M
theorem LxM.ins{ord:List (Str×Str)}{aq:Str}{ak:List (Str×List Row)}{sz:Row}(hm:sz.map (·.1)=mks ord aq ak) {e:Str×List Row}(he:e∈ak) {r:Row}(hr:r∈e.2):InS sz r:=fun s hs=>by
 rw[hm];exact eZ.mpr (.inr (.inr (T4.mpr ⟨e,he,T4.mpr ⟨r,hr,T9 hs⟩⟩)))
theorem kC(F:Fun K "are_tables" "are_tables" c9 f fd) (T:Txt mg) (G0:FnD P w K mg base "is_tuple_of" 1 2 bE) (ga4:FnD P w K mg base "is_table" 4 4 jh):bA P w K mg base CX0 5 f fd ["lexicon","how","size_of","thing"] (spD K 4 gR):=by
 have nd:=gd.nd;refine F.okR rfl gd (fun cdv A outer s H E hr=>⟨_,(ah (aC (i:=4) nd rfl (L6 rfl) (aD aE (aa 0) af (fun _ _=>rfl)))
   (am (aW (cz (qd G0 hr (ab (aa 3) (ab (au bc rfl T.b_len (by kernel_rfl) (ab (aa 4) ag)) ag))) (fM (au (gp rfl) rfl T.b_all (by kernel_rfl) (ab (fF (ms:=[false,true,true,false,false]) (ai:=["word","kinds","table"]) (aF rfl (show aS (aj c9) cy _ _=true from by decide +kernel)) rfl (vJ rfl T.b_zip (ab (aa 4) (ab (aa 3) ag))) (dr (n:=2) rfl (aV (dr (n:=2) rfl (aV (az (i:=5) (show(cy++_).Nodup from by decide +kernel) rfl rfl) (aV (az (i:=6) (show(cy++_).Nodup from by decide +kernel) rfl rfl) da))) (aV (az (i:=7) (show(cy++_).Nodup from by decide +kernel) rfl rfl) da))) (fun _ _ _ _=>bv) (fun _ _ _ _=>(qd ga4 hr (ab (aa 1) (ab (aa 2) (ab (aa 6) (ab (aa 7) ag))))))) ag))))))),fun ds M R _ hS bk=>?_⟩)
 obtain⟨ord,aq,ak,how,sz,d,rfl,hL,hs,hm,hd,k⟩:=hS;have hn:=hL.n;refine bk ?_;clear bk;simp only[dR];walk_at "rd";refine⟨d,_,rfl,hd,_,rfl,?_⟩;rw[F1];cases d with
 |tup ts =>
  have hg:∀e∈ts,av e=true:=bW.mp hd;refine bj (fun c1=>?_) (fun c1=>?_)
  ·have c1':((ts.length:Int)==ak.length)=true:=by simpa[cq]using c1
   simp only[gh,c1',R6]at k;refine⟨_,_,⟨rfl,rfl⟩,_,_,_,rfl,_,rfl,?_⟩;have e:gM (ak.map et) ts=(ak.zip ts).map fun p=>D.tup [et p.1,p.2]:=ib et;rw[e];refine⟨by rw[F1,List.length_zip];exact sz3 _ (by lia),?_⟩;refine bw (fun p:(Str×List Row)×D=>D.tup [et p.1,p.2]) (fun _=>true) (fun p=>D.bl (jO how sz p.1.2 p.2)) (fun Δ=>∃x y z,Δ=[none,some (D.str how),some (dO (du sz)),none,none,x,y,z]) (ak.zip ts) _ _ (fun p hp Δ hΔ=>?_) ⟨none,none,none,rfl⟩ ?_
   ·obtain⟨x,y,z,rfl⟩:=hΔ;refine⟨_,rfl,⟨_,_,_,rfl⟩,fun Q1 q=>q,fun _ Q2 q=>?_⟩;walk_at "rd";obtain⟨h1,h2⟩:=ah0 hp;exact⟨how,sz,p.1.2,p.2,rfl,hs,(hL.sh _ h1).2.2.1,fun r hr=>⟨((hL.sh _ h1).2.2.2.2 r hr).1,LxM.ins hm h1 hr⟩,hg _ h2,q⟩
   rw[K5,L7.mpr (fun _ _=>rfl),show((ak.zip ts).map fun p=>D.bl (jO how sz p.1.2 p.2))=((ak.zip ts).map fun p=>jO how sz p.1.2 p.2).map D.bl by rw[N0];rfl];refine⟨_,b7,?_⟩;rw[R0];exact k
  ·have c1':((ts.length:Int)==ak.length)=false:=by simpa[cq]using c1
   simp only[gh,c1',P8]at k;exact k
 |scr _=>simp[av]at hd
 |ref _=>simp[av]at hd
 |box _ _=>simp[av]at hd
 |_=>exact k
def wdP(ord:List (Str×Str)) (aq:Str) (ak:List (Str×List Row)) (d:D):Prop:=∃(how:Str) (sz:Row) (t:D),d=.tup [.str how,aA sz,t]/\iK (.str how)=true/\my ord (mks ord aq ak) sz/\gh how sz ak t=true
def jj:SpD:=fun ds M R=>∃(ord:List (Str×Str)) (aq:Str) (ak:List (Str×List Row)) (d:D),ds=[dR ord aq ak,d]/\LxM ord aq ak/\av d=true/\R (.bl (prB (wdP ord aq ak d))) M
theorem xt(d:D):(∃x y z,d=.tup [x,y,z])∨cq d 3=false:=by
 cases d with
 |tup ds =>
  match ds with
  |[x,y,z]=>exact .inl ⟨x,y,z,rfl⟩
  |[]=>exact .inr rfl
  |[_]=>exact .inr rfl
  |[_,_]=>exact .inr rfl
  |_::_::_::_::r=>exact .inr (by simp[cq];lia)
 |_=>exact .inr rfl
theorem mV(F:Fun K "is_world" "is_world" dZ f fd) (T:Txt mg) (Y4:FnD P w K mg base "are_tables" 5 4 gR) (G0:FnD P w K mg base "is_tuple_of" 1 2 bE) (gb0:FnD P w K mg base "is_how" 1 1 lR) (ga0:FnD P w K mg base "are_sizes" 4 2 iA):bA P w K mg base CX0 6 f fd ["lexicon","world"] (spD K 2 jj):=by
 have nd:=iE.nd;refine F.okR rfl iE (fun cdv A outer s H E hr=>⟨_,(ah (bC (gc (cZ (bM (bu (qd G0 hr (ab (aa 1) (ab af ag))))) (cZ (bM (bu (qd gb0 hr (ab (aD aE (aa 1) af (fun _ _=>rfl)) ag)))) (dq (bM (bu (qd ga0 hr (ab (aa 0) (ab (aD aE (aa 1) af (fun _ _=>rfl)) ag))))))))) (am (aW fU)) bf)
   (ah (u7 (i:=2) (ms:=[false,false,false]) (ai:=["mark","size"]) hr.units0 nd rfl rfl rfl (aF (n0:=0) rfl (show aS (aj dZ) eB _ _=true from by decide +kernel)) rfl (aK (aD aE (aa 1) af (fun _ _=>rfl))) (dr (n:=2) rfl (aV (az (i:=3) (show(eB++_).Nodup from by decide +kernel) rfl rfl) (aV (az (i:=4) (show(eB++_).Nodup from by decide +kernel) rfl rfl) da))) (fun _ _ _ _=>(aa 3)) (fun _ _ _ _=>(aa 4)))
   (Dx 2 (am (aW (qd Y4 hr (ab (aa 0) (ab (aD aE (aa 1) af (fun _ _=>rfl)) (ab (aa 2) (ab (aD aE (aa 1) af (fun _ _=>rfl)) ag)))))))))),fun ds M R _ hS bk=>?_⟩)
 obtain⟨ord,aq,ak,d,rfl,hL,hd,k⟩:=hS;refine bk ?_;clear bk;have yes:wdP ord aq ak d->R (.bl true) M:=fun h=>by rw[je h]at k;exact k
 have no:¬ wdP ord aq ak d->R (.bl false) M:=fun h=>by rw[pK h]at k;exact k
 clear k;walk_at "rd";refine⟨d,3,rfl,hd,_,rfl,?_⟩;obtain⟨x,y,z,rfl⟩|h:=xt d
 ·have hg:av x=true/\av y=true/\av z=true:=by simpa[av,cW]using hd
  rw[if_neg (by simp[cq])];refine⟨x,rfl,x,rfl,hg.1,_,rfl,bj (fun c1=>no fun⟨how,sz,t,e,h1,_⟩=>?_) (fun c1=>?_)⟩
  ·simp only[D.tup.injEq,S4]at e;rw[e.1,h1]at c1;cases c1
  have c1':iK x=true:=by simpa using c1
  obtain⟨how,rfl⟩:∃how,x=.str how:=by cases x<;>first|exact⟨_,rfl⟩|(simp[iK]at c1')
  refine⟨y,rfl,ord,aq,ak,y,rfl,hL,hg.2.1,_,rfl,bj (fun c2=>no fun⟨how',sz,t,e,_,h2,_⟩=>?_) (fun c2=>?_)⟩
  ·simp only[D.tup.injEq,S4]at e;have q:mB ord (mks ord aq ak) y:=⟨sz,e.2.1,h2⟩;rw[je q]at c2;cases c2
  obtain⟨sz,rfl,hs⟩:mB ord (mks ord aq ak) y:=sX.mp (by simpa using c2);refine⟨_,rfl,_,rfl,fun hz p hp=>?_⟩;have hsl:sz.length<=49:=by
   have:=congrArg X0 hs.2.1;rw[F1]at this;have:=hL.len
   lia
  refine oH (fun Δ=>∃x y,Δ=[none,none,none,x,y]) sz _ _ [] _ (fun s hs Δ hΔ=>?_) ⟨none,none,rfl⟩ (by simp;lia) (by rw[K5,hs.2.1];exact iP) ?_
  ·obtain⟨x,y,rfl⟩:=hΔ;exact⟨_,rfl,⟨_,_,rfl⟩,fun M Q1 q=>⟨_,rfl,q⟩,fun M Q2 q=>⟨_,rfl,q⟩⟩
  rw[K5];refine⟨du sz,aP,.str how,rfl,z,rfl,?_⟩;rw[dM hp];refine⟨ord,aq,ak,how,sz,z,rfl,hL,hs.1,hs.2.1,hg.2.2,?_⟩;cases ht:gh how sz ak z with
  |true=>exact yes ⟨how,sz,z,rfl,c1',hs,ht⟩
  |false =>
   refine no fun⟨how',sz',t,e,_,_,h3⟩=>?_;simp only[D.tup.injEq,S4,D.str.injEq]at e;obtain⟨rfl,e2,rfl,_⟩:=e;obtain rfl:=eD _ _ e2;rw[h3]at ht;cases ht
 ·rw[if_pos (by simp[h])];exact no fun⟨a,b,c,e,_⟩=>by rw[e]at h;cases h
def jR:SpD:=lL jH
theorem rL(F:Fun K "_law_whole" "_law_whole" jM f fd) (T:Txt mg) :bA P w K mg base CX0 1 f fd ["_law_thing"] (spD K 1 jR):=by
 have nd:=lH.nd;refine F.okR rfl lH (fun cdv A outer s H E hr=>⟨_,(am (aW (cz (bV (Tn:="int") (by decide) rfl T.b_isinstance rfl T.b_int (by kernel_rfl) (aa 0)) (fM (AI (bV (Tn:="bool") (by decide) rfl T.b_isinstance rfl T.b_bool (by kernel_rfl) (aa 0))))))),fun ds M R _ hS bk=>?_⟩);obtain⟨d,rfl,hd,k⟩:=hS;refine bk ?_;clear bk;walk_at "rd";simp only[bG hd];cases d with
 |int i=>exact⟨true,rfl,by simp only[if_true];exact⟨false,rfl,k⟩⟩
 |bl b=>exact⟨true,rfl,by simp only[if_true];exact⟨true,rfl,k⟩⟩
 |scr _=>simp[av]at hd
 |ref _=>simp[av]at hd
 |box _ _=>simp[av]at hd
 |_=>exact⟨false,rfl,by simp only[K1,if_false];exact k⟩
def lP:SpD:=lL fun d=>cq d 2
theorem ux(F:Fun K "_law_pair" "_law_pair" lO f fd) (T:Txt mg) :bA P w K mg base CX0 1 f fd ["_law_thing"] (spD K 1 lP):=by
 have nd:=nH.nd;refine F.okR rfl nH (fun cdv A outer s H E hr=>⟨_,(am (aW (cz (bV (Tn:="tuple") (by decide) rfl T.b_isinstance rfl T.b_tuple (by kernel_rfl) (aa 0)) (fM (fh (eU hr.units) (au bc rfl T.b_len (by kernel_rfl) (ab (aa 0) ag)) af nbh))))),fun ds M R _ hS bk=>?_⟩);obtain⟨d,rfl,hd,k⟩:=hS;refine bk ?_;clear bk;walk_at "rd";simp only[bG hd];cases d with
 |tup ds =>
  refine⟨true,rfl,?_⟩;walk_at "rd";exact k
 |scr _=>simp[av]at hd
 |ref _=>simp[av]at hd
 |box _ _=>simp[av]at hd
 |_=>exact⟨false,rfl,by simp only[K1,if_false];exact k⟩
def oU:SpD:=fun ds M R=>∃a b:Int,ds=[.int a,.int b]/\1<=b/\T0 a b<1073741824/\R (.tup [.int (a / T0 a b),.int (b / T0 a b)]) M
theorem wj(F:Fun K "_law_low" "_law_low" oa f fd) (T:Txt mg) :bA P w K mg base CX0 1 f fd ["_law_top","_law_bottom"] (spD K 2 oU):=by
 have nd:=p8.nd;refine F.okR rfl p8 (fun cdv A outer s H E hr=>⟨_,(ah (aC (i:=2) nd rfl (L6 rfl) (au pW rfl T.b_abs (by kernel_rfl) (ab (aa 0) ag)))
   (ah (aC (i:=3) nd rfl (L6 rfl) (aa 1))
   (ah (kR K9 (aQ Ci (aa 3) af nbh) (am (Ai (i:=2) (j:=3) rfl nd rfl rfl (by decide) rfl rfl (ab (aa 3) (ab (aw bh (aa 2) (aa 3)) ag)) (by with_unfolding_all rfl))))
   (am (aW (bF (ab (aw dB (aa 0) (aa 2)) (ab (aw dB (aa 1) (aa 2)) ag)))))))),fun ds M R _ hS bk=>?_⟩)
 obtain⟨a,b,rfl,hb,hg,k⟩:=hS;refine bk ?_;clear bk;have hg0:0<T0 a b:=Int.gcd_pos_of_ne_zero_right a (by lia);walk_at "rd";refine⟨fun m Δ M'=>∃x y:Int,Δ=[some (D.int a),some (D.int b),some (D.int x),some (D.int y)]/\M'=M/\0<=x/\0<=y/\T0 x y=T0 a b/\m=y.toNat,⟨b.toNat,(a.natAbs:Int),b,by rw[show(if a<0 then -a else a)=(a.natAbs:Int)by split<;>lia],rfl,by lia,by lia,by unfold T0;rw[Int.natAbs_natCast],rfl⟩,?_⟩;rintro m Δ M' ⟨x,y,rfl,rfl,hx,hy,he,rfl⟩;walk_at "rd";refine bj (fun c=>?_) (fun c=>?_)
 ·have h0:0<=x % y:=X4 _ (by lia);have h1:x % y<y:=V9 _ (by lia);exact⟨_,if_pos (by lia),_,_,⟨rfl,rfl⟩,_,(by lia:(x % y).toNat<y.toNat),y,x % y,⟨rfl,rfl⟩,hy,h0,by rw[qb];exact he,rfl⟩
 ·have hy0:y=0:=by lia
  subst hy0;have e:x=((T0 a b:Nat):Int):=by
   rw[<-he,Int.gcd_zero_right];lia
  subst e;have hc:∀i:Int,lM i (T0 a b:Nat):=fun i=>⟨by lia,by lia⟩;exact⟨_,if_pos (hc _),_,if_pos (hc _),sz3 2,k⟩
def nU(d:D):Prop:=∀a b,d=.tup [.int a,.int b]->T0 a b<1073741824
theorem yh{b:Int}{g:Nat}(hb:1<=b) (hg:0<g) (h:b / (g:Int)=b):g=1:=by
 have h1:b / (g:Int)*(g:Int)<=b:=Int.ediv_mul_le _ (by lia);rw[h]at h1;have h2:¬ 2<=g:=fun z=>by
  have h3:b*2<=b*(g:Int):=Int.mul_le_mul_of_nonneg_left (by lia) (by lia)
  lia
 lia
def ir:SpD:=fun ds M R=>∃(how:Str) (d:D),ds=[.str how,d]/\iK (.str how)=true/\av d=true/\nU d/\R (.bl (gq how d)) M
theorem se{how:Str}(h:iK (.str how)=true):((how==K3 "truths")=true/\(how==K3 "sums")=false)∨((how==K3 "truths")=false/\(how==K3 "sums")=true):=by
 have h':(K3 "sums"==how || (K3 "truths"==how || false))=true:=h;rw[al9,ah4,beq_iff_eq,beq_iff_eq]at h';rcases h' with rfl|rfl
 ·exact .inr ⟨by decide +kernel,by decide +kernel⟩
 ·exact .inl ⟨by decide +kernel,by decide +kernel⟩
theorem mq(F:Fun K "_law_good_cell" "_law_good_cell" fm f fd) (T:Txt mg) (Y7:FnD P w K mg base "_law_pair" 1 1 lP) (G8:FnD P w K mg base "_law_whole" 1 1 jR) (ga1:FnD P w K mg base "_law_low" 1 2 oU):bA P w K mg base CX0 2 f fd ["_law_how","_law_cell"] (spD K 2 ir):=by
 have nd:=gH.nd;refine F.okR rfl gH (fun cdv A outer s H E hr=>⟨_,(ah (bC (aQ (eU hr.units) (aa 0) fe nbh) (am (aW (bV (Tn:="bool") (by decide) rfl T.b_isinstance rfl T.b_bool (by kernel_rfl) (aa 1)))) bf)
   (ah (bC (gc (cZ (bM (bu (qd Y7 hr (ab (aa 1) ag)))) (cZ (bM (bu (qd G8 hr (ab (aD aE (aa 1) af (fun _ _=>rfl)) ag)))) (cZ (bM (bu (qd G8 hr (ab (aD aE (aa 1) af (fun _ _=>rfl)) ag)))) (dq (aQ oE (aD aE (aa 1) af (fun _ _=>rfl)) af nbh)))))) (am (aW fU)) bf)
   (am (aW (cz (fh oE (au pW rfl T.b_abs (by kernel_rfl) (ab (aD aE (aa 1) af (fun _ _=>rfl)) ag)) (aw iZ af af) nbh) (cz (fh oE (aD aE (aa 1) af (fun _ _=>rfl)) (aw iZ af af) nbh) (fM (fh (eU hr.units) (qd ga1 hr (ab (aD aE (aa 1) af (fun _ _=>rfl)) (ab (aD aE (aa 1) af (fun _ _=>rfl)) ag))) (aa 1) nbh)))))))),fun ds M R _ hS bk=>?_⟩)
 obtain⟨how,d,rfl,hh,hd,hq,k⟩:=hS;refine bk ?_;clear bk;walk_at "rd";rcases se hh with⟨h1,h2⟩|⟨h1,h2⟩
 ·rw[if_pos h1];simp only[gq,h2,K1,if_false]at k;exact⟨_,qx hd,k⟩
 ·rw[if_neg (by rw[h1];decide)];simp only[gq,h2,if_true]at k;have e1:∀p:Bool,frB d=p->R (D.bl p) M:=fun p h=>by rw[h]at k;exact k
  clear k;refine⟨d,rfl,hd,_,rfl,?_⟩;obtain⟨x,y,rfl⟩|h:=oJ d
  ·have hg:av x=true/\av y=true:=by simpa[av,cW]using hd
   rw[if_neg (by simp[cq])];refine⟨x,rfl,x,rfl,hg.1,_,rfl,bj (fun wx=>e1 false (Al (by simpa using wx))) (fun wx=>?_)⟩;obtain⟨a,rfl⟩:=ic (x:=x) (by simpa using wx);refine⟨y,rfl,y,rfl,hg.2,_,rfl,bj (fun wy=>e1 false (zZ (by simpa using wy))) (fun wy=>?_)⟩;obtain⟨b,rfl⟩:=ic (x:=y) (by simpa using wy);have hab:=hq a b rfl;walk_at "rd";have hp:mJ 10 30:=⟨by decide,by decide,by decide⟩;refine bj (fun c1=>e1 false ?_) (fun c1=>⟨_,if_pos hp,_,rfl,_,rfl,bj (fun c2=>⟨_,if_pos hp,_,rfl,_,rfl,bj (fun c3=>?_) (fun c3=>e1 false ?_)⟩) (fun c2=>e1 false ?_)⟩)
   ·simp only[frB,decide_eq_false (show ¬ 1<=b by lia),P8,ad4]
   ·have c2':a.natAbs<1000000000000000000000000000000:=by have:=ph.mp (of_decide_eq_true c2);lia
    have c3':b<1000000000000000000000000000000:=of_decide_eq_true c3;have hb1:1<=b:=by lia
    have hg0:0<T0 a b:=Int.gcd_pos_of_ne_zero_right a (by lia);refine⟨a,b,rfl,hb1,hab,_,(show eqF (.tup [.int (a / T0 a b),.int (b / T0 a b)]) (.tup [.int a,.int b])=some (.bl (eqD (.tup [.int (a / T0 a b),.int (b / T0 a b)]) (.tup [.int a,.int b])))from ?_),e1 _ ?_⟩
    ·have q1:dLe (.tup [.int (a / T0 a b),.int (b / T0 a b)]) 60=true:=rfl;have q2:dLe (.tup [.int a,.int b]) 60=true:=rfl;simp only[eqF,q1,q2,and_self,if_true]
    ·simp only[frB,decide_eq_true c2',decide_eq_true hb1,decide_eq_true c3',R6];rw[ab8,decide_eq_true_eq];simp only[eqD,eA,Bool.and_true,N1,beq_iff_eq,decide_eq_true_eq];constructor
     ·intro h;rw[h];exact⟨am4 a,am4 b⟩
     ·exact fun h=>yh hb1 hg0 h.2
   ·have c3':¬ b<1000000000000000000000000000000:=fun z=>c3 (decide_eq_true z);simp only[frB,decide_eq_false c3',P8,ad4]
   ·have c2':¬ a.natAbs<1000000000000000000000000000000:=fun z=>c2 (decide_eq_true (ph.mpr (by lia)));simp only[frB,decide_eq_false c2',P8]
  ·rw[if_pos (by simp[h])];exact e1 false (wU h)
def gC:SpD:=fun ds M R=>∃(how:Str) (sz kd:Row) (d:D),ds=[.str how,dO (du sz),aA kd,d]/\iK (.str how)=true/\(∀s∈sz,1<=s.2/\s.2<=3)/\InS sz kd/\kd.length<=5/\av d=true/\(∀cs,d=.tup cs->∀c∈cs,nU c)/\R (.bl (cV how (c7 sz kd) d)) M
theorem nJ{sz kd:Row}{i:Nat}{s:Str×Int}(h:kd[i]?=some s):c7 sz (kd.take (i+1))=c7 sz (kd.take i)*bQ sz s.1:=by
 unfold c7 oD;rw[O6,h];simp
theorem tE{sz kd:Row}(hs:∀s∈sz,1<=s.2/\s.2<=3) (hin:InS sz kd) (hl:kd.length<=5):0<=c7 sz kd/\c7 sz kd<=531441:=tI (fun x hx=>by
 obtain⟨s,hm,rfl⟩:=O9.mp hx;have:=kQ hs (hin s hm)
 lia) (by rw[F1];lia)
theorem kK(F:Fun K "_law_good_cells" "_law_good_cells" cY f fd) (T:Txt mg) (G3:FnD P w K mg base "_law_good_cell" 2 2 ir):bA P w K mg base CX0 3 f fd ["_law_how","_law_known","_law_kind","_law_cells_here"] (spD K 4 gC):=by
 have nd:=gr.nd;refine F.okR rfl gr (fun cdv A outer s H E hr=>⟨_,(ah (aC (i:=4) nd rfl (L6 rfl) af)
   (ah (bU K9 rfl (aK (aa 2)) (ft rfl (br (aG (i:=5) nd rfl (L6 rfl)) (br (aG (i:=6) nd rfl (L6 rfl)) fo))) (am (aC (i:=4) nd rfl (L6 rfl) (aw bK (aa 4) (iQ hr.units1 (aa 1) (aa 5) (fun _ _=>rfl))))))
   (am (aW (cz (bV (Tn:="tuple") (by decide) rfl T.b_isinstance rfl T.b_tuple (by kernel_rfl) (aa 3)) (cz (fh (eU hr.units) (au bc rfl T.b_len (by kernel_rfl) (ab (aa 3) ag)) (aa 4) nbh) (fM (au (gp rfl) rfl T.b_all (by kernel_rfl) (ab (fF (ms:=[true,false,false,false,false,false,false]) (ai:=["_law_cell"]) (aF rfl (show aS (aj cY) eL _ _=true from by decide +kernel)) rfl (aK (aa 3)) (az (i:=7) (show(eL++_).Nodup from by decide +kernel) rfl rfl) (fun _ _ _ _=>bv) (fun _ _ _ _=>(qd G3 hr (ab (aa 0) (ab (aa 7) ag))))) ag))))))))),fun ds M R _ hS bk=>?_⟩)
 obtain⟨how,sz,kd,d,rfl,hh,hs,hin,hl,hd,hq,k⟩:=hS;refine bk ?_;clear bk;simp only[aA];walk_at "rd";refine fun _=>?_;refine aI (fun i Δ M'=>∃x y z,Δ=[some (D.str how),some (dO (du sz)),some (D.tup (kd.map aM)),some d,some (D.int (c7 sz (kd.take i))),x,y]/\M'=M/\z=i) ⟨_,_,_,rfl,rfl,rfl⟩ ?_ ?_
 ·rintro i e Δ M' X he ⟨x,y,_,rfl,rfl,_⟩ k';obtain⟨s,hsg,rfl⟩:=bZ he;refine⟨_,rfl,?_⟩;walk_at "rd";have hm:=J1 hsg;have hb:=tE (kd:=kd.take i) hs (fun s h=>hin s (Q0 h)) (by rw[M0];lia);refine⟨_,eS,_,dJ (hin s hm),.int (c7 sz (kd.take i)*bQ sz s.1),?_,k' _ _ ⟨_,_,_,by rw[nJ hsg],rfl,rfl⟩⟩;rw[cG,kP];exact if_pos (.inl (by lia))
 ·rintro Δ M' ⟨x,y,z,rfl,rfl,_⟩;rw[F1,S5];walk_at "rd";simp only[bG hd];cases d with
  |tup cs =>
   have hg:∀e∈cs,av e=true:=bW.mp hd;refine⟨true,rfl,?_⟩;rw[if_pos rfl];have e1:∀p:Bool,cV how (c7 sz kd) (.tup cs)=p->R (D.bl p) M':=fun p h=>by rw[h]at k;exact k
   clear k;refine⟨_,rfl,_,(k9:eqF (.int (cs.length:Int)) (.int (c7 sz kd))=_),_,rfl,bj (fun c1=>?_) (fun c1=>e1 false ?_)⟩
   ·refine⟨_,rfl,fun hz=>⟨hz,?_⟩⟩;refine bP (fun _=>true) (fun d=>.bl (gq how d)) (fun Δ=>∃x,Δ=[some (D.str how),none,none,none,none,none,none,x]) _ _ _ (fun e he Δ hΔ=>?_) ⟨none,rfl⟩ ?_
    ·obtain⟨x1,rfl⟩:=hΔ;refine⟨_,rfl,⟨_,rfl⟩,fun Q1 q=>q,fun _ Q2 q=>?_⟩;walk_at "rd";exact⟨how,e,rfl,hh,hg e he,hq cs rfl e he,q⟩
    rw[K5,L7.mpr (fun _ _=>rfl),show(cs.map fun d=>D.bl (gq how d))=(cs.map (gq how)).map D.bl by rw[N0];rfl];refine⟨_,b7,e1 _ ?_⟩;have c1':((cs.length:Int)==c7 sz kd)=true:=by simpa using c1
    simp only[cV,c1',R6,R0];rfl
   ·have c1':((cs.length:Int)==c7 sz kd)=false:=by simpa using c1
    simp only[cV,c1',P8]
  |scr _=>simp[av]at hd
  |ref _=>simp[av]at hd
  |box _ _=>simp[av]at hd
  |_=>exact⟨false,rfl,by simp only[K1,if_false];exact k⟩
theorem qK:∀{sz:Row},rS (sz.map aM)=some (du sz)
 |[]=>rfl
 |e::l=>by
  rw[J8,aM];simp only[rS,qK (sz:=l),ab9];rfl
theorem iR{sz:Row}(h:(sz.map (·.1)).Nodup):qw (aA sz)=some (dO (du sz)):=by
 refine yr qK ?_;unfold du;rw[N0];have:((fun x:Key×D=>x.1)∘fun e:Str×Int=>((.inr e.1:Key),D.int e.2))=(fun x:Str=>(ag6 x:Key))∘fun e:Str×Int=>e.1:=rfl;rw[this,<-N0];unfold List.Nodup at h ⊢;rw[List.pairwise_map];exact List.Pairwise.imp (fun hab e=>hab (ah7 e)) h
def two(p:D×D):D:=.tup [p.1,p.2]
theorem tN:∀{ds:List D},(∀d∈ds,cq d 2=true)->∃ps:List (D×D),ds=ps.map two
 |[],_=>⟨[],rfl⟩
 |d::ds,h=>by
  obtain⟨ps,rfl⟩:=tN (ds:=ds) fun x hx=>h x (.tail _ hx);obtain⟨x,y,rfl⟩|q:=oJ d
  ·exact⟨(x,y)::ps,rfl⟩
  ·rw[h d (.head _)]at q;cases q
def s3B:D×D->Bool
 |(.str _,.int n)=>decide (1<=n)&&decide (n<=3)
 |_=>false
theorem wM:∀{ps:List (D×D)},(∀p∈ps,s3B p=true)->∃sz:Row,ps.map two=sz.map aM/\∀s∈sz,1<=s.2/\s.2<=3
 |[],_=>⟨[],rfl,fun _ h=>by cases h⟩
 |p::ps,h=>by
  obtain⟨sz,e,hs⟩:=wM (ps:=ps) fun x hx=>h x (.tail _ hx);have hp:=h p (.head _);unfold s3B at hp
  split at hp
  ·rename_i x n;simp only[N1,decide_eq_true_eq]at hp;refine⟨(x,n)::sz,by rw[J8,J8,e];rfl,fun s z=>?_⟩;rcases J9.mp z with rfl|z
   ·exact hp
   ·exact hs s z
  ·cases hp
def gI:SpD:=fun ds M R=>∃(ord:List (Str×Str)) (aq:Str) (ak:List (Str×List Row)) (d:D),ds=[dR ord aq ak,d]/\LxM ord aq ak/\av d=true/\R (.bl (prB (mB ord (mks ord aq ak) d))) M
theorem kE(F:Fun K "_law_good_sizes" "_law_good_sizes" bL f fd) (T:Txt mg) (Y0:FnD P w K mg base "_law_marks" 1 1 jF) (Y7:FnD P w K mg base "_law_pair" 1 1 lP) (G8:FnD P w K mg base "_law_whole" 1 1 jR):bA P w K mg base CX0 2 f fd ["_law_lexicon","_law_sizes_here"] (spD K 2 gI):=by
 have nd:=gg.nd;refine F.okR rfl gg (fun cdv A outer s H E hr=>⟨_,(ah (bC (gc (cZ (bM (bu (bV (Tn:="tuple") (by decide) rfl T.b_isinstance rfl T.b_tuple (by kernel_rfl) (aa 1)))) (dq (bM (bu (au (gp rfl) rfl T.b_all (by kernel_rfl) (ab (fF (ms:=[false,false,false]) (ai:=["_law_one"]) (aF rfl (show aS (aj bL) aR _ _=true from by decide +kernel)) rfl (aK (aa 1)) (az (i:=3) (show(aR++_).Nodup from by decide +kernel) rfl rfl) (fun _ _ _ _=>bv) (fun _ _ _ _=>(qd Y7 hr (ab (aa 3) ag)))) ag))))))) (am (aW fU)) bf)
   (ah (bC (bM (bu (au (gp rfl) rfl T.b_all (by kernel_rfl) (ab (fF (ms:=[false,false,false]) (ai:=["_law_mark","_law_size"]) (aF rfl (show aS (aj bL) aR _ _=true from by decide +kernel)) rfl (aK (aa 1)) (dr (n:=2) rfl (aV (az (i:=3) (show(aR++_).Nodup from by decide +kernel) rfl rfl) (aV (az (i:=4) (show(aR++_).Nodup from by decide +kernel) rfl rfl) da))) (fun _ _ _ _=>bv) (fun _ _ _ _=>(cz (bV (Tn:="str") (by decide) rfl T.b_isinstance rfl T.b_str (by kernel_rfl) (aa 3)) (cz (qd G8 hr (ab (aa 4) ag)) (fM (kS pB pB af (aa 4) af)))))) ag)))) (am (aW fU)) bf)
   (ah (bC (aQ (mI hr.units) (fF (ms:=[false,false,false]) (ai:=["_law_mark","_law_size"]) (aF rfl (show aS (aj bL) aR _ _=true from by decide +kernel)) rfl (aK (aa 1)) (dr (n:=2) rfl (aV (az (i:=3) (show(aR++_).Nodup from by decide +kernel) rfl rfl) (aV (az (i:=4) (show(aR++_).Nodup from by decide +kernel) rfl rfl) da))) (fun _ _ _ _=>bv) (fun _ _ _ _=>(aa 3))) (qd Y0 hr (ab (aa 0) ag)) nbh) (am (aW fU)) bf)
   (ah (aC (i:=2) nd rfl (aj0 rfl) (aY (rh rfl) rfl T.b_dict (by kernel_rfl) (ab (aa 1) ag)))
   (am (aW (au (gp rfl) rfl T.b_all (by kernel_rfl) (ab (fF (ms:=[false,false,true]) (ai:=["_law_low_here","_law_high"]) (aF rfl (show aS (aj bL) aR _ _=true from by decide +kernel)) rfl (aK (aD aE (aa 0) af (fun _ _=>rfl))) (dr (n:=2) rfl (aV (az (i:=3) (show(aR++_).Nodup from by decide +kernel) rfl rfl) (aV (az (i:=4) (show(aR++_).Nodup from by decide +kernel) rfl rfl) da))) (fun _ _ _ _=>bv) (fun _ _ _ _=>(fh (eU hr.units) (iQ hr.units1 (aa 2) (aa 3) (fun _ _=>rfl)) (iQ hr.units1 (aa 2) (aa 4) (fun _ _=>rfl)) nbh))) ag)))))))),fun ds M R _ hS bk=>?_⟩)
 obtain⟨ord,aq,ak,d,rfl,hL,hd,k⟩:=hS;refine bk ?_;clear bk;have yes:mB ord (mks ord aq ak) d->R (.bl true) M:=fun h=>by rw[je h]at k;exact k
 have no:¬ mB ord (mks ord aq ak) d->R (.bl false) M:=fun h=>by rw[pK h]at k;exact k
 clear k;walk_at "rd";simp only[bG hd];cases d with
 |tup ds =>
  refine⟨true,rfl,?_⟩;rw[if_neg (by simp)];have hg:∀e∈ds,av e=true:=bW.mp hd;refine⟨_,rfl,fun hz=>⟨hz,?_⟩⟩;refine bP (fun _=>true) (fun d=>.bl (cq d 2)) (fun Δ=>∃x,Δ=[none,none,none,x]) _ _ _ (fun e he Δ hΔ=>?_) ⟨none,rfl⟩ ?_
  ·obtain⟨x1,rfl⟩:=hΔ;refine⟨_,rfl,⟨_,rfl⟩,fun Q1 q=>q,fun _ Q2 q=>?_⟩;walk_at "rd";exact⟨e,rfl,hg e he,q⟩
  rw[K5,L7.mpr (fun _ _=>rfl),show(ds.map fun d=>D.bl (cq d 2))=(ds.map fun d=>cq d 2).map D.bl by rw[N0];rfl];refine⟨_,b7,_,rfl,bj (fun c1=>no fun⟨sz,e,hs⟩=>?_) (fun c1=>?_)⟩
  ·obtain rfl:ds=sz.map aM:=by simpa[aA]using e
   rw[N0,show((fun d=>cq d 2)∘aM)=fun _=>true from rfl]at c1;simp at c1
  have hall:∀d∈ds,cq d 2=true:=by
   have:((ds.map fun d=>cq d 2).all id)=true:=by simpa using c1
   rw[R0,M7]at this;exact this
  obtain⟨ps,rfl⟩:=tN hall;have hg2:∀p∈ps,av p.1=true/\av p.2=true:=fun p hp=>by
   have:=hg _ (T9 hp);simpa[two,av,cW]using this
  clear hall c1;refine⟨_,rfl,fun hz=>⟨hz,?_⟩⟩;refine bw two (fun _=>true) (fun p=>D.bl (s3B p)) (fun Δ=>∃x y,Δ=[none,none,none,x,y]) ps _ _ (fun p hp Δ hΔ=>?_) ⟨none,none,rfl⟩ ?_
  ·obtain⟨x,y,rfl⟩:=hΔ;refine⟨_,rfl,⟨_,_,rfl⟩,fun Q1 q=>q,fun _ Q2 q=>?_⟩;obtain⟨g1,g2⟩:=hg2 p hp;obtain⟨a,b⟩:=p;have e1:∀p:Bool,s3B (a,b)=p->Q2 (D.bl p) M:=fun p h=>by rw[h]at q;exact q
   clear q;walk_at "rd";rw[bG g1];cases a with
   |str m =>
    refine⟨true,rfl,?_⟩;rw[if_pos rfl];refine⟨b,rfl,g2,_,rfl,bj (fun wy=>?_) (fun wy=>e1 false ?_)⟩
    ·obtain⟨n,rfl⟩:=ic wy;walk_at "rd";refine bj (fun h1=>e1 _ ?_) (fun h1=>e1 false ?_)
     ·simp only[s3B,decide_eq_true h1,R6]
     ·simp only[s3B,decide_eq_false h1,P8]
    ·cases b<;>first|rfl|(exact absurd rfl wy)
   |scr _=>simp[av]at g1
   |ref _=>simp[av]at g1
   |box _ _=>simp[av]at g1
   |_=>exact⟨false,rfl,by rw[if_neg (by decide)];exact e1 false rfl⟩
  rw[K5,L7.mpr (fun _ _=>rfl),show(ps.map fun p=>D.bl (s3B p))=(ps.map s3B).map D.bl by rw[N0];rfl];refine⟨_,b7,_,rfl,bj (fun c1=>no fun⟨sz,e,hs⟩=>?_) (fun c1=>?_)⟩
  ·have e':ps.map two=sz.map aM:=by simpa[aA]using e
   have:((ps.map s3B).all id)=true:=by
    rw[R0,M7];intro p hp;have h1:two p∈sz.map aM:=by rw[<-e'];exact T9 hp
    obtain⟨s,hm,h2⟩:=O9.mp h1;obtain⟨a,b⟩:=p;simp only[two,aM,D.tup.injEq,S4,and_true]at h2;obtain⟨rfl,rfl⟩:=h2;have:=hs.1 s hm;show(decide (1<=s.2)&&decide (s.2<=3))=true;simp[this]
   rw[this]at c1;cases c1
  have hall:∀p∈ps,s3B p=true:=by
   have:((ps.map s3B).all id)=true:=by simpa using c1
   rw[R0,M7]at this;exact this
  obtain⟨sz,e,hsz⟩:=wM hall;rw[e];rw[e]at yes no;clear e hall c1 hg2 hg hd hz;refine⟨_,rfl,fun hz=>⟨hz,?_⟩⟩;refine bw aM (fun _=>true) (fun s=>D.str s.1) (fun Δ=>∃x y,Δ=[none,none,none,x,y]) sz _ _ (fun s hs Δ hΔ=>?_) ⟨none,none,rfl⟩ ?_
  ·obtain⟨x,y,rfl⟩:=hΔ;refine⟨_,rfl,⟨_,_,rfl⟩,fun Q1 q=>q,fun _ Q2 q=>?_⟩;walk_at "rd";exact q
  rw[K5,L7.mpr (fun _ _=>rfl),show(sz.map fun s=>D.str s.1)=(sz.map (·.1)).map D.str by rw[N0];rfl];refine⟨ord,aq,ak,rfl,hL,_,oR D.str (fun x y=>by simp only[eqD];exact ab8.mpr (by simp)) (fun _=>rfl),_,rfl,bj (fun c2=>no fun⟨sz',e,hs⟩=>?_) (fun c2=>?_)⟩
  ·obtain rfl:sz=sz':=eD _ _ (show aA sz=aA sz' from e);have:=hs.2.1;simp[this]at c2
  have hms:sz.map (·.1)=mks ord aq ak:=by simpa using c2
  refine⟨_,iR (by rw[hms];exact iP),?_⟩;refine⟨.tup (ord.map bo),rfl,_,rfl,fun hz3=>⟨hz3,?_⟩⟩;have hin:∀p∈ord,p.1∈sz.map (·.1)/\p.2∈sz.map (·.1):=fun p hp=>by
   rw[hms];exact⟨eZ.mpr (.inl (T4.mpr ⟨p,hp,.head _⟩)),eZ.mpr (.inl (T4.mpr ⟨p,hp,.tail _ (.head _)⟩))⟩
  refine bw bo (fun _=>true) (fun p=>D.bl (decide (bQ sz p.1=bQ sz p.2))) (fun Δ=>∃x y,Δ=[none,none,some (dO (du sz)),x,y]) ord _ _ (fun p hp Δ hΔ=>?_) ⟨none,none,rfl⟩ ?_
  ·obtain⟨x,y,rfl⟩:=hΔ;refine⟨_,rfl,⟨_,_,rfl⟩,fun Q1 q=>q,fun _ Q2 q=>?_⟩;walk_at "rd";exact⟨_,eS,_,dJ (hin p hp).1,_,eS,_,dJ (hin p hp).2,by rw[cG,cG];exact⟨_,k9,q⟩⟩
  rw[K5,L7.mpr (fun _ _=>rfl),show(ord.map fun p=>D.bl (decide (bQ sz p.1=bQ sz p.2)))=(ord.map fun p=>decide (bQ sz p.1=bQ sz p.2)).map D.bl by rw[N0];rfl];refine⟨_,b7,?_⟩;rw[R0]
  by_cases h:∀p∈ord,bQ sz p.1=bQ sz p.2
  ·rw[show(ord.all (id∘fun p=>decide (bQ sz p.1=bQ sz p.2)))=true from M7.mpr fun p hp=>decide_eq_true (h p hp)];exact yes ⟨sz,rfl,hsz,hms,h⟩
  ·rw[show(ord.all (id∘fun p=>decide (bQ sz p.1=bQ sz p.2)))=false from eq_false_of_ne_true fun z=>h fun p hp=>of_decide_eq_true (M7.mp z p hp)];refine no fun⟨sz',e,hs⟩=>h ?_;obtain rfl:sz=sz':=eD _ _ (show aA sz=aA sz' from e);exact hs.2.2
 |scr _=>simp[av]at hd
 |ref _=>simp[av]at hd
 |box _ _=>simp[av]at hd
 |_=>exact⟨false,rfl,by rw[if_pos (by simp)];exact no fun⟨_,e,_⟩=>by cases e⟩
def WdQ(d:D):Prop:=∀x y ts,d=.tup [x,y,.tup ts]->∀t∈ts,∀cs,t=.tup cs->∀c∈cs,∀es,c=.tup es->∀e∈es,nU e
def pG:SpD:=fun ds M R=>∃(ord:List (Str×Str)) (aq:Str) (ak:List (Str×List Row)) (d:D),ds=[dR ord aq ak,d]/\LxM ord aq ak/\av d=true/\WdQ d/\R (.bl (prB (wdP ord aq ak d))) M
theorem uC(F:Fun K "_law_good" "_law_good" jr f fd) (T:Txt mg) (Y5:FnD P w K mg base "_law_good_sizes" 2 2 gI) (Y6:FnD P w K mg base "_law_good_cells" 3 4 gC):bA P w K mg base CX0 4 f fd ["_law_lexicon","_law_world_here"] (spD K 2 pG):=by
 have nd:=nu.nd;refine F.okR rfl nu (fun cdv A outer s H E hr=>⟨_,(ah (bC (gc (cZ (bM (bu (bV (Tn:="tuple") (by decide) rfl T.b_isinstance rfl T.b_tuple (by kernel_rfl) (aa 1)))) (cZ (aQ (mI hr.units) (au bc rfl T.b_len (by kernel_rfl) (ab (aa 1) ag)) af nbh) (dq (bM (bu (bV (Tn:="str") (by decide) rfl T.b_isinstance rfl T.b_str (by kernel_rfl) (aD aE (aa 1) af (fun _ _=>rfl))))))))) (am (aW fU)) bf)
   (ah (nN (aa 1) (ft rfl (br (aG (i:=2) nd rfl (aj0 rfl)) (br (aG (i:=3) nd rfl (aj0 rfl)) (br (aG (i:=4) nd rfl (aj0 rfl)) fo)))))
   (ah (bC (gc (cZ (aQ lF (aa 2) (ck (ab fe (ab fe ag))) rfl) (dq (bM (bu (qd Y5 hr (ab (aa 0) (ab (aa 3) ag)))))))) (am (aW fU)) bf)
   (ah (bC (gc (cZ (bM (bu (bV (Tn:="tuple") (by decide) rfl T.b_isinstance rfl T.b_tuple (by kernel_rfl) (aa 4)))) (dq (aQ (mI hr.units) (au bc rfl T.b_len (by kernel_rfl) (ab (aa 4) ag)) (au bc rfl T.b_len (by kernel_rfl) (ab (aD aE (aa 0) af (fun _ _=>rfl)) ag)) nbh)))) (am (aW fU)) bf)
   (ah (bU K9 rfl (de rfl T.b_range (ab (au bc rfl T.b_len (by kernel_rfl) (ab (aa 4) ag)) ag)) (aG (i:=5) nd rfl (aj0 rfl)) (ah (aC (i:=6) nd rfl (aj0 rfl) (aD aE (aD aE (aD aE (aa 0) af (fun _ _=>rfl)) (aa 5) (fun _ _=>rfl)) af (fun _ _=>rfl)))
   (ah (bC (gc (cZ (bM (bu (bV (Tn:="tuple") (by decide) rfl T.b_isinstance rfl T.b_tuple (by kernel_rfl) (aD aE (aa 4) (aa 5) (fun _ _=>rfl))))) (dq (aQ (mI hr.units) (au bc rfl T.b_len (by kernel_rfl) (ab (aD aE (aa 4) (aa 5) (fun _ _=>rfl)) ag)) (au bc rfl T.b_len (by kernel_rfl) (ab (aa 6) ag)) nbh)))) (am (aW fU)) bf)
   (am (bC (bM (bu (au (gp rfl) rfl T.b_all (by kernel_rfl) (ab (fF (ms:=[false,false,true,true,true,true,true]) (ai:=["_law_j"]) (aF rfl (show aS (aj jr) ly _ _=true from by decide +kernel)) rfl (de rfl T.b_range (ab (au bc rfl T.b_len (by kernel_rfl) (ab (aa 6) ag)) ag)) (az (i:=7) (show(ly++_).Nodup from by decide +kernel) rfl rfl) (fun _ _ _ _=>bv) (fun _ _ _ _=>(qd Y6 hr (ab (aa 2) (ab (aY (rh rfl) rfl T.b_dict (by kernel_rfl) (ab (aa 3) ag)) (ab (aD aE (aa 6) (aa 7) (fun _ _=>rfl)) (ab (aD aE (aD aE (aa 4) (aa 5) (fun _ _=>rfl)) (aa 7) (fun _ _=>rfl)) ag))))))) ag)))) (am (aW fU)) bf)))))
   (am (aW fU))))))),fun ds M R _ hS bk=>?_⟩)
 obtain⟨ord,aq,ak,d,rfl,hL,hd,hq,k⟩:=hS;refine bk ?_;clear bk;have yes:wdP ord aq ak d->R (.bl true) M:=fun h=>by rw[je h]at k;exact k
 have no:¬ wdP ord aq ak d->R (.bl false) M:=fun h=>by rw[pK h]at k;exact k
 clear k;walk_at "rd";simp only[bG hd];cases d with
 |tup ds =>
  refine⟨true,rfl,?_⟩;rw[if_neg (by simp)];refine⟨_,rfl,_,(rG:neF (.int (ds.length:Int)) (.int 3)=_),_,rfl,bj (fun c1=>no fun⟨how,sz,t,e,_⟩=>?_) (fun c1=>?_)⟩
  ·simp only[D.tup.injEq]at e;subst e;simp at c1
  obtain⟨x,y,z,rfl⟩:∃x y z,ds=[x,y,z]:=by
   match ds,c1 with
   |[x,y,z],_=>exact⟨x,y,z,rfl⟩
   |[],c=>simp at c
   |[_],c=>simp at c
   |[_,_],c=>simp at c
   |_::_::_::_::r,c=>simp at c;lia
  clear c1;have hg:av x=true/\av y=true/\av z=true:=by simpa[av,cW]using hd
  walk_at "rd";rw[bG hg.1];cases x with
  |str how =>
   refine⟨true,rfl,?_⟩;rw[if_neg (by simp)];refine⟨_,rfl,?_⟩;walk_at "rd";refine⟨sz3 2,_,if_pos ⟨rfl,rfl⟩,_,rfl,bj (fun c1=>no fun⟨how',sz,t,e,h1,_⟩=>?_) (fun c1=>?_)⟩
   ·simp only[D.tup.injEq,S4,D.str.injEq]at e;obtain⟨rfl,_⟩:=e;have h1':([D.str (K3 "sums"),D.str (K3 "truths")].any fun d=>eqD d (.str how))=true:=h1;rw[h1']at c1;cases c1
   have hh:iK (.str how)=true:=by
    cases q:iK (.str how)with
    |true=>rfl
    |false =>
     have q':([D.str (K3 "sums"),D.str (K3 "truths")].any fun d=>eqD d (.str how))=false:=q;rw[q']at c1;exact absurd rfl c1
   clear c1;refine⟨ord,aq,ak,y,rfl,hL,hg.2.1,_,rfl,bj (fun c2=>no fun⟨how',sz,t,e,_,h2,_⟩=>?_) (fun c2=>?_)⟩
   ·simp only[D.tup.injEq,S4]at e;have q:mB ord (mks ord aq ak) y:=⟨sz,e.2.1,h2⟩;rw[je q]at c2;cases c2
   obtain⟨sz,rfl,hs⟩:mB ord (mks ord aq ak) y:=sX.mp (by simpa using c2);clear c2;have noT:gh how sz ak z=false->R (.bl false) M:=fun ht=>no fun⟨how',sz',t,e,_,_,h3⟩=>by
    simp only[D.tup.injEq,S4,D.str.injEq]at e;obtain⟨rfl,e2,rfl,_⟩:=e;obtain rfl:=eD _ _ e2;rw[h3]at ht;cases ht
   have yesT:gh how sz ak z=true->R (.bl true) M:=fun ht=>yes ⟨how,sz,z,rfl,hh,hs,ht⟩;clear yes no;rw[bG hg.2.2];cases z with
   |tup ts =>
    refine⟨true,rfl,?_⟩;rw[if_neg (by simp)];simp only[dR];walk_at "rd";have hn:=hL.n;have hg3:∀t∈ts,av t=true:=bW.mp hg.2.2;rw[F1];refine bj (fun c3=>noT ?_) (fun c3=>?_)
    ·have c3':((ts.length:Int)==ak.length)=false:=by simpa using c3
     simp only[gh,c3',P8]
    have c3':((ts.length:Int)==ak.length)=true:=by simpa using c3
    have cS:ts.length=ak.length:=by have:=beq_iff_eq.mp c3';lia
    have zipm:∀{i:Nat} {e:Str×List Row} {t:D},ak[i]?=some e->ts[i]?=some t->(e,t)∈ak.zip ts:=fun h1 h2=>J1 (T7.mpr ⟨h1,h2⟩);refine⟨by lia,by lia,?_⟩;rw[N4];refine aI (fun i Δ M'=>∃x5 x6,Δ=[some (D.tup [D.tup (ord.map bo),D.str aq,D.tup (ak.map et)]),some (D.tup [D.str how,aA sz,D.tup ts]),some (D.str how),some (aA sz),some (D.tup ts),x5,x6]/\M'=M/\∀j,j<i->∀e t,ak[j]?=some e->ts[j]?=some t->jO how sz e.2 t=true) ⟨_,_,rfl,rfl,fun j hj=>absurd hj (Nat.not_lt_zero j)⟩ ?_ ?_
    ·rintro i d Δ M' X hd' ⟨x5,x6,rfl,rfl,hI⟩ k';obtain⟨hi,rfl⟩:=cg hd';obtain⟨e,he⟩:∃e,ak[i]?=some e:=⟨_,u8 (by lia)⟩;obtain⟨t,ht⟩:∃t,ts[i]?=some t:=⟨_,u8 hi⟩;have hem:=J1 he;have htm:=J1 ht;have ate:atI (ak.map et) (i:Int)=some (et e):=aL (by rw[J6,he];rfl);have att:atI ts (i:Int)=some t:=aL ht;have noE:jO how sz e.2 t=false->R (.bl false) M':=fun h=>noT (by
      simp only[gh,c3',R6];refine eq_false_of_ne_true fun z=>?_;have:=M7.mp z (e,t) (zipm he ht);rw[h]at this;cases this)
     refine⟨_,rfl,?_⟩;rw[Z8];walk_at "rd";refine⟨_,ate,?_⟩;simp only[et];walk_at "rd";refine⟨_,att,?_⟩;rw[bG (hg3 t htm)];cases t with
     |tup cs =>
      refine⟨true,rfl,?_⟩;rw[if_neg (by simp)];have hgc:∀c∈cs,av c=true:=bW.mp (hg3 _ htm);have hks:=(hL.sh e hem).2;have hkl:=hks.2.1;refine⟨_,att,_,rfl,_,rfl,_,(rG:neF (.int (cs.length:Int)) (.int ((e.2.map aA).length:Int))=_),_,rfl,?_⟩;rw[F1];refine bj (fun c4=>noE ?_) (fun c4=>?_)
      ·have c4':((cs.length:Int)==e.2.length)=false:=by simpa using c4
       simp only[jO,c4',P8]
      have c4':((cs.length:Int)==e.2.length)=true:=by simpa using c4
      have hcl:cs.length=e.2.length:=by have:=beq_iff_eq.mp c4';lia
      have hzl:(e.2.zip cs).length=e.2.length:=by rw[List.length_zip];lia
      refine⟨_,rfl,((e.2.map aA).length:Int),rfl,by rw[F1];lia,by rw[F1];lia,by rw[bD,F1];exact sz3 _ (by lia),?_⟩;rw[F1,N4];refine lC (fun j acc Δ M2=>∃x,Δ=[none,none,some (D.str how),some (aA sz),some (D.tup ts),some (D.int (i:Int)),some (dE e.2),x]/\M2=M'/\acc=(((e.2.zip cs).take j).map fun p=>cV how (c7 sz p.1) p.2).map D.bl) ⟨none,rfl,rfl,rfl⟩ ?_ ?_
      ·rintro j d acc Δ M2 Y hd2 ⟨x,rfl,rfl,rfl⟩ k2;obtain⟨hj,rfl⟩:=cg hd2;obtain⟨r,hr⟩:∃r,e.2[j]?=some r:=⟨_,u8 hj⟩;obtain⟨c,hc⟩:∃c,cs[j]?=some c:=⟨_,u8 (by lia)⟩;have hrm:=J1 hr;have hcm:=J1 hc;have atr:atI (e.2.map aA) (j:Int)=some (aA r):=aL (by rw[J6,hr];rfl);have atc:atI cs (j:Int)=some c:=aL hc;refine⟨_,rfl,?_⟩;rw[Z8];simp only[vR,if_true];walk_at "rd";refine⟨_,iR (by rw[hs.2.1];exact iP),?_⟩;refine⟨aA r,by simp only[dE];rw[ou,ye];exact atr,_,att,c,by rw[ou,ye];exact atc,how,sz,r,c,rfl,hh,hs.1,LxM.ins hs.2.1 hem hrm,(hks.2.2.2 r hrm).1,hgc c hcm,fun es e1 e2 he2=>hq _ _ ts rfl _ htm cs rfl c hcm es e1 e2 he2,k2 _ _ _ ⟨_,rfl,rfl,?_⟩⟩;have hz:(e.2.zip cs)[j]?=some (r,c):=T7.mpr ⟨hr,hc⟩;rw[O6,hz,O2,O2];rfl
      ·rintro acc Δ M2 ⟨x,rfl,rfl,rfl⟩;rw[bD,<-hzl,S5];refine⟨_,b7,_,rfl,bj (fun c5=>noE ?_) (fun c5=>k' _ _ ⟨_,_,rfl,rfl,fun j hj e' t' he' ht'=>?_⟩)⟩
       ·have c5':(((e.2.zip cs).map fun p=>cV how (c7 sz p.1) p.2).all id)=false:=by simpa using c5
        rw[R0]at c5';simp only[jO,c4',R6];exact c5'
       ·by_cases q:j=i
        ·subst q;rw[he]at he';rw[ht]at ht';cases he';cases ht';have c5':(((e.2.zip cs).map fun p=>cV how (c7 sz p.1) p.2).all id)=true:=by simpa using c5
         rw[R0]at c5';simp only[jO,c4',R6];exact c5'
        ·exact hI j (by lia) e' t' he' ht'
     |scr _=>have:=hg3 _ htm;simp[av]at this
     |ref _=>have:=hg3 _ htm;simp[av]at this
     |box _ _=>have:=hg3 _ htm;simp[av]at this
     |_=>exact⟨false,rfl,by rw[if_pos (by simp)];exact noE rfl⟩
    ·rintro Δ M' ⟨x5,x6,rfl,rfl,hI⟩;walk_at "rd";refine yesT ?_;simp only[gh,c3',R6];rw[M7];rintro⟨e,t⟩ hm;obtain⟨i,hi⟩:=S1.mp hm;obtain⟨h1,h2⟩:=T7.mp hi;exact hI i (by rw[bD];have:=(F8.mp h2).1;lia) e t h1 h2
   |scr _=>simp[av]at hg
   |ref _=>simp[av]at hg
   |box _ _=>simp[av]at hg
   |_=>exact⟨false,rfl,by rw[if_pos (by simp)];exact noT rfl⟩
  |scr _=>simp[av]at hg
  |ref _=>simp[av]at hg
  |box _ _=>simp[av]at hg
  |_=>exact⟨false,rfl,by rw[if_pos (by simp)];exact no fun⟨_,_,_,e,_⟩=>by simp at e⟩
 |scr _=>simp[av]at hd
 |ref _=>simp[av]at hd
 |box _ _=>simp[av]at hd
 |_=>exact⟨false,rfl,by rw[if_pos (by simp)];exact no fun⟨_,_,_,e,_⟩=>by cases e⟩
def cb(f:Str->Int) (p:Str×Str):Str->Int:=fun m=>if m=p.1∨m=p.2 then min (f p.1) (f p.2)else f m
theorem jy(f:Str->Int) (p:Str×Str) (m:Str):cb f p m<=f m:=by
 unfold cb
 split
 ·rename_i h;rcases h with rfl|rfl<;>lia
 ·exact Int.le_refl _
theorem fT:∀(l:List (Str×Str)) (f:Str->Int) (m:Str),l.foldl cb f m<=f m
 |[],f,m=>Int.le_refl _
 |p::l,f,m=>W7 (fT l (cb f p) m) (jy f p m)
theorem vK{f:Str->Int}{p:Str×Str}(h:∀m,1<=f m) (m:Str):1<=cb f p m:=by
 unfold cb
 split
 ·have:=h p.1;have:=h p.2;lia
 ·exact h m
theorem sT:∀(l:List (Str×Str)) (f:Str->Int),(∀m,1<=f m)->∀m,1<=l.foldl cb f m
 |[],_,h=>h
 |p::l,f,h=>sT l (cb f p) (vK h)
def ju(L:Int) (f:Str->Int) (p:Str×Str):Prop:=(f p.1<=L/\¬ f p.2<=L)∨(¬ f p.1<=L/\f p.2<=L)
theorem C7{L:Int}:∀(l:List (Str×Str)) (f:Str->Int) (p:Str×Str),p∈l->ju L f p->∃m,(∃q∈l,m=q.1∨m=q.2)/\¬ f m<=L/\l.foldl cb f m<=L
 |[],_,_,h,_=>by cases h
 |q::l,f,p,h,o=>by
  rcases J9.mp h with rfl|hp
  ·rcases o with⟨h1,h2⟩|⟨h1,h2⟩
   ·refine⟨p.2,⟨p,.head _,.inr rfl⟩,h2,W7 (fT l _ _) ?_⟩;unfold cb;rw[if_pos (.inr rfl)];lia
   ·refine⟨p.1,⟨p,.head _,.inl rfl⟩,h1,W7 (fT l _ _) ?_⟩;unfold cb;rw[if_pos (.inl rfl)];lia
  ·by_cases c:ju L (cb f q) p
   ·obtain⟨m,⟨r,hr,hm⟩,n,le⟩:=C7 l (cb f q) p hp c;exact⟨m,⟨r,.tail _ hr,hm⟩,fun z=>n (W7 (jy f q m) z),le⟩
   ·have r1:=jy f q p.1;have r2:=jy f q p.2;unfold ju at c;rcases o with⟨h1,h2⟩|⟨h1,h2⟩
    ·exact⟨p.2,⟨p,.tail _ hp,.inr rfl⟩,h2,W7 (fT l _ _) (by lia)⟩
    ·exact⟨p.1,⟨p,.tail _ hp,.inl rfl⟩,h1,W7 (fT l _ _) (by lia)⟩
theorem uV{L:Int}{f:Str->Int}{q:Str×Str}(h:¬ ju L f q) (m:Str):cb f q m<=L↔f m<=L:=by
 unfold ju at h;unfold cb
 split
 ·rename_i c;rcases c with rfl|rfl<;>lia
 ·exact Iff.rfl
theorem BI{L:Int}:∀(l:List (Str×Str)) (f:Str->Int),(∀q∈l,¬ ju L f q)->∀m,l.foldl cb f m<=L↔f m<=L
 |[],_,_,_=>Iff.rfl
 |q::l,f,h,m=>by
  have h0:=uV (h q (.head _));refine(BI l (cb f q) (fun r hr=>?_) m).trans (h0 m);have:=h r (.tail _ hr);unfold ju at this ⊢;rw[h0,h0];exact this
theorem we{p q:Str->Bool}{m0:Str}(h2:q m0=true) (h3:p m0=false):∀{ms:List Str},(∀m∈ms,p m=true->q m=true)->m0∈ms->ms.countP p<ms.countP q
 |[],_,h=>by cases h
 |a::l,hm,h=>by
  have hle:l.countP p<=l.countP q:=List.countP_mono_left fun m hm'=>hm m (.tail _ hm');rw[List.countP_cons,List.countP_cons];rcases J9.mp h with rfl|h
  ·rw[h2,h3];simp;lia
  ·have ih:=we h2 h3 (fun m hm'=>hm m (.tail _ hm')) h;have:=hm a (.head _)
   by_cases c:p a=true
   ·rw[c,this c];simp;lia
   ·rw[if_neg c];split<;>lia
def bt(ord:List (Str×Str)):Nat->(Str->Int)->(Str->Int)
 |0,f=>f
 |n+1,f=>ord.foldl cb (bt ord n f)
theorem lW{ord:List (Str×Str)}{ms:List Str}(hin:∀p∈ord,p.1∈ms/\p.2∈ms) {L:Int}{f:Str->Int}:∀n,(∀p∈ord,¬ ju L (bt ord n f) p)∨n+1<=ms.countP fun m=>decide (bt ord n f m<=L)
 |0=>by
  by_cases c:∀p∈ord,¬ ju L (bt ord 0 f) p
  ·exact .inl c
  ·refine .inr ?_;obtain⟨p,c⟩:=Classical.not_forall.mp c;obtain⟨hp,c⟩:=Classical.not_imp.mp c;have c:=Classical.not_not.mp c;refine List.countP_pos_iff.mpr ?_;rcases c with⟨h1,_⟩|⟨_,h1⟩
   ·exact⟨p.1,(hin p hp).1,decide_eq_true h1⟩
   ·exact⟨p.2,(hin p hp).2,decide_eq_true h1⟩
 |n+1=>by
  by_cases c:∀p∈ord,¬ ju L (bt ord (n+1) f) p
  ·exact .inl c
  ·refine .inr ?_;have c0:¬ ∀p∈ord,¬ ju L (bt ord n f) p:=fun z=>c fun p hp=>by
    have h0:=BI ord (bt ord n f) z;have:=z p hp;unfold ju at this ⊢;show ¬ ((ord.foldl cb (bt ord n f) p.1<=L/\¬ ord.foldl cb (bt ord n f) p.2<=L)∨(¬ ord.foldl cb (bt ord n f) p.1<=L/\ord.foldl cb (bt ord n f) p.2<=L));rw[h0,h0];exact this
   have ih:=(lW hin (L:=L) (f:=f) n).resolve_left c0;obtain⟨p,c0⟩:=Classical.not_forall.mp c0;obtain⟨hp,c0⟩:=Classical.not_imp.mp c0;have c0:=Classical.not_not.mp c0;obtain⟨m,⟨q,hq,hm⟩,h1,h2⟩:=C7 ord (bt ord n f) p hp c0;have hmm:m∈ms:=by
    rcases hm with rfl|rfl
    ·exact(hin q hq).1
    ·exact(hin q hq).2
   have:=we (p:=fun m=>decide (bt ord n f m<=L)) (q:=fun m=>decide (bt ord (n+1) f m<=L)) (m0:=m) (decide_eq_true h2) (decide_eq_false h1) (ms:=ms) (fun m' _ h=>decide_eq_true (W7 (fT ord (bt ord n f) m') (of_decide_eq_true h))) hmm
   lia
theorem ua{ord:List (Str×Str)}{ms:List Str}(hin:∀p∈ord,p.1∈ms/\p.2∈ms) {f:Str->Int}{p:Str×Str}(hp:p∈ord):bt ord ms.length f p.1=bt ord ms.length f p.2:=by
 have key:∀L,¬ ju L (bt ord ms.length f) p:=fun L=>by
  rcases lW hin (L:=L) (f:=f) ms.length with h|h
  ·exact h p hp
  ·have:=List.countP_le_length (p:=fun m=>decide (bt ord ms.length f m<=L)) (l:=ms)
   lia
 have k1:=key (bt ord ms.length f p.1);have k2:=key (bt ord ms.length f p.2);unfold ju at k1 k2
 lia
theorem ve{kvs:List (Key×D)}{k:Key}{v:D}:(fV kvs k v).length<=kvs.length+1:=by
 unfold fV
 split
 ·rw[F1];lia
 ·simp
theorem pA{kvs:List (Key×D)}{k:Key}{v d:D}(h:eQ kvs k=some d):(fV kvs k v).length=kvs.length:=by
 unfold fV;rw[jB,h];simp
def wV(ms:List Str) (kvs:List (Key×D)) (f:Str->Int):Prop:=∀m∈ms,eQ kvs (.inr m)=some (.int (f m))
theorem lZ(f:Str->Int) {m:Str}:∀{ms:List Str},m∈ms->bQ (ms.map fun m=>(m,f m)) m=f m
 |[],h=>by cases h
 |a::l,h=>by
  unfold bQ;rw[J8,N8]
  by_cases c:a=m
  ·subst c;simp
  ·rw[show(m==a)=false by simpa using fun q:m=a=>c q.symm];exact lZ f ((J9.mp h).resolve_left fun z=>c z.symm)
def nv:SpD:=fun ds M R=>∃(ord:List (Str×Str)) (aq:Str) (ak:List (Str×List Row)) (xs:List Int) (n:Int),ds=[dR ord aq ak,.lst (xs.map D.int),.int n]/\LxM ord aq ak/\26<=xs.length/\1<=n/\n<=3/\∀sz,my ord (mks ord aq ak) sz->R (aA sz) M
theorem rP(F:Fun K "_law_sizes" "_law_sizes" gY f fd) (T:Txt mg) (Y0:FnD P w K mg base "_law_marks" 1 1 jF):bA P w K mg base CX0 2 f fd ["_law_lexicon","_law_xs","_law_most_here"] (spD K 3 nv):=by
 have nd:=lg.nd;refine F.okR rfl lg (fun cdv A outer s H E hr=>⟨_,(ah (aC (i:=3) nd rfl (L6 rfl) (qd Y0 hr (ab (aa 0) ag)))
   (ah (aC (i:=4) nd rfl (aj0 rfl) EM)
   (ah (bU K9 rfl (de rfl T.b_range (ab (au bc rfl T.b_len (by kernel_rfl) (ab (aa 3) ag)) ag)) (aG (i:=5) nd rfl (L6 rfl)) (am (rn hr.units1 (aa 4) (aD aE (aa 3) (aa 5) (fun _ _=>rfl)) (aw bq af (aw bh (aD aE (aa 1) (aa 5) (fun _ _=>rfl)) (aa 2))))))
   (ah (bU K9 rfl (de rfl T.b_range (ab (au bc rfl T.b_len (by kernel_rfl) (ab (aa 3) ag)) ag)) (aG (i:=6) nd rfl (L6 rfl)) (am (bU K9 rfl (aK (aD aE (aa 0) af (fun _ _=>rfl))) (ft rfl (br (aG (i:=7) nd rfl (L6 rfl)) (br (aG (i:=8) nd rfl (L6 rfl)) fo))) (ah (aC (i:=9) nd rfl (L6 rfl) (au (C6 rfl) rfl T.b_min (by kernel_rfl) (ab (pf hr.units1 (aa 4) (aa 7) (fun _ _=>rfl)) (ab (pf hr.units1 (aa 4) (aa 8) (fun _ _=>rfl)) ag))))
   (ah (rn hr.units1 (aa 4) (aa 7) (aa 9))
   (am (rn hr.units1 (aa 4) (aa 8) (aa 9))))))))
   (am (eJ (aY cm rfl T.b_tuple (by kernel_rfl) (ab (fF (ms:=[false,false,false,false,true,false,false,false,false,false]) (ai:=["_law_mark"]) (aF rfl (show aS (aj gY) jW _ _=true from by decide +kernel)) rfl (aK (aa 3)) (az (i:=10) (show(jW++_).Nodup from by decide +kernel) rfl rfl) (fun _ _ _ _=>bv) (fun _ _ _ _=>(bF (ab (aa 10) (ab (pf hr.units1 (aa 4) (aa 10) (fun _ _=>rfl)) ag))))) ag)))))))),fun ds M R _ hS bk=>?_⟩)
 obtain⟨ord,aq,ak,xs,n,rfl,hL,hx,hn,hn3,k⟩:=hS;refine bk ?_;clear bk;walk_at "rd";refine⟨ord,aq,ak,rfl,hL,?_⟩;have mn:=hL.few;have hin:∀p∈ord,p.1∈mks ord aq ak/\p.2∈mks ord aq ak:=fun p hp=>⟨eZ.mpr (.inl (T4.mpr ⟨p,hp,.head _⟩)),eZ.mpr (.inl (T4.mpr ⟨p,hp,.tail _ (.head _)⟩))⟩;have hnd:(mks ord aq ak).Nodup:=iP;generalize mks ord aq ak=ms at mn hin hnd k ⊢;intro p hp;refine⟨_,rfl,((ms.map D.str).length:Int),rfl,by rw[F1];lia,by rw[F1];lia,?_⟩;rw[F1,N4];refine aI (fun i Δ M'=>∃(x5:Option D) (kvs:List (Key×D)) (f:Str->Int),Δ=[some (dR ord aq ak),some (D.lst (xs.map D.int)),some (D.int n),some (D.lst (ms.map D.str)),some (D.ref p),x5,none,none,none,none]/\M'=aH M p (.dK kvs)/\kvs.length<=i/\wV (ms.take i) kvs f/\∀m,1<=f m/\f m<=3) ⟨_,[],fun _=>1,rfl,rfl,F9 0,(fun m h=>by rw[List.take_zero]at h;cases h),fun _=>⟨Int.le_refl 1,(by decide:(1:Int)<=3)⟩⟩ ?_ ?_
 ·rintro i d Δ M' X hd ⟨x5,kvs,f,rfl,rfl,hkl,hT,hf⟩ k';obtain⟨hi,rfl⟩:=cg hd;obtain⟨m,hm⟩:∃m,ms[i]?=some m:=⟨_,u8 hi⟩;obtain⟨x,hxi⟩:∃x,xs[i]?=some x:=⟨_,u8 (by lia)⟩;have atm:atI (ms.map D.str) (i:Int)=some (D.str m):=aL (by rw[J6,hm];rfl);have atx:atI (xs.map D.int) (i:Int)=some (D.int x):=aL (by rw[J6,hxi];rfl);refine⟨_,rfl,?_⟩;rw[Z8];walk_at "rd";refine⟨_,atx,.int (x % n),?_,.int (1+x % n),rfl,_,atm,.inr m,rfl,J5 (by lia:kvs.length<1000) (sz3 1000),k' _ _ ⟨_,fV kvs (.inr m) (.int (1+x % n)),fun z=>if z=m then 1+x % n else f z,rfl,rfl,?_,fun z hz=>?_,fun z=>?_⟩⟩
  ·rw[cG,o8];exact if_pos (by lia)
  ·have:=ve (kvs:=kvs) (k:=.inr m) (v:=.int (1+x % n));lia
  ·rw[i4]
   by_cases c:z=m
   ·subst c;simp
   ·rw[if_neg fun q=>c (ah7 q),show(fun z=>if z=m then 1+x % n else f z) z=f z from if_neg c];refine hT z ?_;rw[O6,hm]at hz;rcases O3.mp hz with q|q
    ·exact q
    ·exact absurd (N5.mp q) c
  ·show 1<=(if z=m then 1+x % n else f z)/\(if z=m then 1+x % n else f z)<=3;have:=X4 x (by lia:n≠0);have:=V9 x (by lia:0<n);have:=hf z
   split<;>lia
 ·rintro Δ M' ⟨x5,kvs,f,rfl,rfl,hkl,hT,hf⟩;rw[bD]at hkl hT;rw[S5]at hT;walk_at "rd";refine⟨by rw[F1];lia,by rw[F1];lia,?_⟩;rw[F1,N4];refine aI (fun t Δ M'=>∃(x6 x7 x8 x9:Option D) (kvs:List (Key×D)),Δ=[some (dR ord aq ak),some (D.lst (xs.map D.int)),some (D.int n),some (D.lst (ms.map D.str)),some (D.ref p),x5,x6,x7,x8,x9]/\M'=aH M p (.dK kvs)/\kvs.length<=26/\wV ms kvs (bt ord t f)) ⟨_,_,_,_,kvs,rfl,rfl,by lia,hT⟩ ?_ ?_
  ·rintro t d Δ M' X hd ⟨x6,x7,x8,x9,kvs,rfl,rfl,hkl,hT⟩ k';obtain⟨ht,rfl⟩:=cg hd;refine⟨_,rfl,?_⟩;simp only[dR];walk_at "rd";refine fun _=>?_;refine aI (fun i Δ M2=>∃(x7 x8 x9:Option D) (kvs:List (Key×D)),Δ=[some (D.tup [D.tup (ord.map bo),D.str aq,D.tup (ak.map et)]),some (D.lst (xs.map D.int)),some (D.int n),some (D.lst (ms.map D.str)),some (D.ref p),x5,some (D.int (0+(t:Int))),x7,x8,x9]/\M2=aH M p (.dK kvs)/\kvs.length<=26/\wV ms kvs ((ord.take i).foldl cb (bt ord t f))) ⟨_,_,_,kvs,rfl,rfl,hkl,hT⟩ ?_ ?_
   ·rintro i d Δ M2 Y hd2 ⟨x7,x8,x9,kvs,rfl,rfl,hkl,hT⟩ k2;obtain⟨q,hq,rfl⟩:=bZ hd2;obtain⟨h1,h2⟩:=hin q (J1 hq);refine⟨_,rfl,?_⟩;walk_at "rd";obtain⟨g,hg⟩:∃g,g=(ord.take i).foldl cb (bt ord t f):=⟨_,rfl⟩;rw[<-hg]at hT;have emin:yM [.int (g q.1),.int (g q.2)]=some (.int (min (g q.1) (g q.2))):=by
     rw[sD];congr 2
     split<;>lia
    have l1:(fV kvs (.inr q.1) (.int (min (g q.1) (g q.2)))).length=kvs.length:=pA (hT _ h1);have l2:(fV (fV kvs (.inr q.1) (.int (min (g q.1) (g q.2)))) (.inr q.2) (.int (min (g q.1) (g q.2)))).length=kvs.length:=by
     have:∃d,eQ (fV kvs (.inr q.1) (.int (min (g q.1) (g q.2)))) (.inr q.2)=some d:=by
      rw[i4]
      split
      ·exact⟨_,rfl⟩
      ·exact⟨_,hT _ h2⟩
     obtain⟨d,hd'⟩:=this;rw[pA hd',l1]
    refine⟨_,hT _ h1,_,hT _ h2,_,emin,J5 (by lia:kvs.length<1000) (sz3 1000),by rw[l1];exact J5 (by lia:kvs.length<1000) (sz3 1000),k2 _ _ ⟨_,_,_,_,rfl,rfl,by rw[l2];exact hkl,fun z hz=>?_⟩⟩;rw[O6,hq,List.foldl_append,<-hg];simp only[Option.toList_some,ae4,List.foldl_nil];rw[i4,i4];unfold cb
    by_cases c1:z=q.2
    ·rw[if_pos (by rw[c1]),if_pos (.inr c1)]
    ·rw[if_neg fun e=>c1 (ah7 e)]
     by_cases c2:z=q.1
     ·rw[if_pos (by rw[c2]),if_pos (.inl c2)]
     ·rw[if_neg fun e=>c2 (ah7 e),if_neg (by rintro(e|e);exact c2 e;exact c1 e)];exact hT z hz
   ·rintro Δ M2 ⟨x7,x8,x9,kvs,rfl,rfl,hkl,hT⟩;rw[F1,S5]at hT;exact k' _ _ ⟨_,_,_,_,kvs,rfl,rfl,hkl,hT⟩
  ·rintro Δ M' ⟨x6,x7,x8,x9,kvs,rfl,rfl,hkl,hT⟩;rw[bD]at hT;walk_at "rd";refine fun hz=>⟨hz,?_⟩;refine bw D.str (fun _=>true) (fun m=>aM (m,bt ord ms.length f m)) (fun Δ=>∃x,Δ=[none,none,none,none,some (.ref p),none,none,none,none,none,x]) ms _ _ (fun m hm Δ hΔ=>?_) ⟨none,rfl⟩ ?_
   ·obtain⟨x,rfl⟩:=hΔ;refine⟨_,rfl,⟨_,rfl⟩,fun Q1 q=>q,fun _ Q2 q=>?_⟩;walk_at "rd";exact⟨_,hT m hm,sz3 2,q⟩
   rw[K5,L7.mpr (fun _ _=>rfl)];refine⟨M,eC hp,?_⟩;have q:=k (ms.map fun m=>(m,bt ord ms.length f m)) ⟨fun s hs=>?_,by rw[N0];exact List.map_id _,fun q hq=>?_⟩
   ·unfold aA at q;rw[N0]at q;exact q
   ·obtain⟨m,_,rfl⟩:=O9.mp hs;refine⟨?_,?_⟩
    ·have:∀n,∀m,1<=bt ord n f m:=fun n=>by
      induction n with
      |zero=>exact fun m=>(hf m).1
      |succ n ih=>exact sT ord _ ih
     exact this _ m
    ·have:∀n,∀m,bt ord n f m<=3:=fun n=>by
      induction n with
      |zero=>exact fun m=>(hf m).2
      |succ n ih=>exact fun m=>W7 (fT ord _ m) (ih m)
     exact this _ m
   ·rw[lZ _ (hin q hq).1,lZ _ (hin q hq).2];exact ua hin hq
def Cl(how:Str) (c:D):Prop:=gq how c=true/\((∃b,c=.bl b)∨∃a b:Int,c=.tup [.int a,.int b]/\-6<=a/\a<=6/\1<=b/\b<=4)
theorem xH{a b:Int}(h1:-6<=a) (h2:a<=6) (h3:1<=b) (h4:b<=4):T0 a b<1073741824/\frB (.tup [.int (a / T0 a b),.int (b / T0 a b)])=true/\-6<=a / T0 a b/\a / T0 a b<=6/\1<=b / T0 a b/\b / T0 a b<=4:=by
 have h:∀i:Fin 13,∀j:Fin 4,(T0 ((i.1:Int)-6) ((j.1:Int)+1)<1073741824/\frB (.tup [.int (((i.1:Int)-6) / T0 ((i.1:Int)-6) ((j.1:Int)+1)),.int (((j.1:Int)+1) / T0 ((i.1:Int)-6) ((j.1:Int)+1))])=true/\-6<=((i.1:Int)-6) / T0 ((i.1:Int)-6) ((j.1:Int)+1)/\((i.1:Int)-6) / T0 ((i.1:Int)-6) ((j.1:Int)+1)<=6/\1<=((j.1:Int)+1) / T0 ((i.1:Int)-6) ((j.1:Int)+1)/\((j.1:Int)+1) / T0 ((i.1:Int)-6) ((j.1:Int)+1)<=4):=by decide +kernel
 have:=h ⟨(a+6).toNat,by lia⟩ ⟨(b-1).toNat,by lia⟩;have e1:(((a+6).toNat:Nat):Int)-6=a:=by lia
 have e2:(((b-1).toNat:Nat):Int)+1=b:=by lia
 simp only[e1,e2]at this;exact this
def ng:SpD:=fun ds M R=>∃(how:Str) (xs:List Int) (n:Nat) (salt:Int),ds=[.str how,.lst (xs.map D.int),.int n,.int salt]/\iK (.str how)=true/\1<=xs.length/\xs.length<=1000/\(∀x∈xs,0<=x/\x<=1000000)/\n<=1000/\0<=salt/\salt<=1000/\∀cs:List D,cs.length=n->(∀c∈cs,Cl how c)->R (.tup cs) M
theorem rf(F:Fun K "_law_cells" "_law_cells" jZ f fd) (T:Txt mg) (ga1:FnD P w K mg base "_law_low" 1 2 oU):bA P w K mg base CX0 2 f fd ["_law_how","_law_xs","_law_amount","_law_salt"] (spD K 4 ng):=by
 have nd:=mw.nd;refine F.okR rfl mw (fun cdv A outer s H E hr=>⟨_,(ah (aC (i:=4) nd rfl (L6 rfl) (di ag))
   (ah (bU K9 rfl (de rfl T.b_range (ab (aa 2) ag)) (aG (i:=5) nd rfl (L6 rfl)) (ah (aC (i:=6) nd rfl (L6 rfl) (aw dB (aa 5) (au bc rfl T.b_len (by kernel_rfl) (ab (aa 1) ag))))
   (ah (aC (i:=7) nd rfl (L6 rfl) (aw bq (aw dB (aD aE (aa 1) (aw bh (aw bq (aa 5) (aa 3)) (au bc rfl T.b_len (by kernel_rfl) (ab (aa 1) ag))) (fun _ _=>rfl)) (aw bq af (aa 6))) (aw bK (aa 6) (aa 3))))
   (am (bC (aQ (eU hr.units) (aa 0) fe nbh) (am (cj (eT (aa 4) (fh Ci (aw bh (aa 7) af) af nbh)))) (am (cj (eT (aa 4) (qd ga1 hr (ab (aw gn (aw bh (aa 7) af) af) (ab (aw bq af (aw bh (aw dB (aa 7) af) af)) ag)))))))))))
   (am (eJ (aY cm rfl T.b_tuple (by kernel_rfl) (ab (aa 4) ag)))))),fun ds M R _ hS bk=>?_⟩)
 obtain⟨how,xs,n,salt,rfl,hh,hx0,hxl,hx,hn,hs0,hs,k⟩:=hS;refine bk ?_;clear bk;walk_at "rd";refine⟨sz3 0,fun p hp=>⟨by lia,by lia,?_⟩⟩;rw[N4];refine aI (fun i Δ M'=>∃(x5 x6 x7:Option D) (cs:List D),Δ=[some (D.str how),some (D.lst (xs.map D.int)),some (D.int n),some (D.int salt),some (D.ref p),x5,x6,x7]/\M'=aH M p (.lst cs)/\cs.length=i/\∀c∈cs,Cl how c) ⟨_,_,_,[],rfl,rfl,rfl,fun _ h=>by cases h⟩ ?_ ?_
 ·rintro i d Δ M' X hd ⟨x5,x6,x7,cs,rfl,rfl,hcl,hc⟩ k';obtain⟨hi,rfl⟩:=cg hd;have hlp:(0:Int)<(xs.length:Int):=by lia
  obtain⟨v,hv,ev⟩:=fW (l:=xs) hx0 ((i:Int)+salt);obtain⟨x,hxv⟩:∃x,xs[v]?=some x:=⟨_,u8 hv⟩;obtain⟨hb0,hb1⟩:=hx x (J1 hxv);have atx:atI (xs.map D.int) (v:Int)=some (D.int x):=aL (by rw[J6,hxv];rfl);have t0:0<=(i:Int) / (xs.length:Int):=Int.ediv_nonneg (by lia) (by lia);have t1:(i:Int) / (xs.length:Int)<=i:=Int.ediv_le_self _ (by lia);refine⟨_,rfl,?_⟩;rw[Z8];walk_at "rd";rw[F1];have hcz:cs.length<F7:=J5 (by lia:cs.length<1001) (P7 (by decide:1001<=4096) (by decide));obtain⟨turn,hturn⟩:∃turn,turn=(i:Int) / (xs.length:Int):=⟨_,rfl⟩;rw[<-hturn]at t0 t1 ⊢;have q0:0<=x / (1+turn):=Int.ediv_nonneg hb0 (by lia);have q1:0<=turn*salt:=Int.mul_nonneg t0 hs0;obtain⟨y,hy⟩:∃y,y=x / (1+turn)+turn*salt:=⟨_,rfl⟩;have hy0:0<=y:=by lia
  refine⟨_,if_pos ⟨by lia,by lia⟩,.int (v:Int),by rw[if_pos hlp,ev],.int x,by rw[cG,Ay];exact atx,.int (1+turn),rfl,.int (x / (1+turn)),?_,.int (turn*salt),?_,.int y,by rw[hy];rfl,bj (fun c1=>?_) (fun c1=>?_)⟩
  ·rw[cG,cG,o8];exact if_pos ⟨by lia,by lia⟩
  ·rw[cG,kP];exact if_pos (.inl (by lia))
  ·refine⟨.int (y % 3),rfl,.bl (decide (0<y % 3)),rfl,hcz,k' _ _ ⟨_,_,_,cs++[.bl (decide (0<y % 3))],rfl,rfl,by rw[F6,hcl];rfl,cE hc ⟨?_,.inl ⟨_,rfl⟩⟩⟩⟩;rcases se hh with⟨h1,h2⟩|⟨h1,h2⟩
   ·unfold gq;rw[if_neg (by rw[h2];decide)];rfl
   ·rw[h1]at c1;cases c1
  ·have h2:(how==K3 "sums")=true:=by
    rcases se hh with⟨h1,h2⟩|⟨h1,h2⟩
    ·exact absurd h1 c1
    ·exact h2
   have a1:-6<=y % 13-6/\y % 13-6<=6:=by lia
   have a2:1<=1+y / 13 % 4/\1+y / 13 % 4<=4:=by lia
   obtain⟨b1,b2,b3,b4,b5,b6⟩:=xH a1.1 a1.2 a2.1 a2.2;refine⟨.int (y % 13),rfl,.int (y % 13-6),rfl,.int (y / 13),by rw[cG,o8];exact if_pos ⟨by decide,by decide⟩,.int (y / 13 % 4),rfl,.int (1+y / 13 % 4),rfl,_,_,rfl,a2.1,b1,_,aP,hcz,?_⟩;rw[cf];refine k' _ _ ⟨_,_,_,cs++[_],rfl,rfl,by rw[F6,hcl];rfl,cE hc ⟨?_,.inr ⟨_,_,rfl,b3,b4,b5,b6⟩⟩⟩;unfold gq;rw[if_pos h2];exact b2
 ·rintro Δ M' ⟨x5,x6,x7,cs,rfl,rfl,hcl,hc⟩;rw[bD]at hcl;walk_at "rd";exact⟨M,eC hp,k cs hcl hc⟩
theorem zg{M M2:DH}{p:J7}{x:HD}(h:LeM M M2) (hp:M p=none):LeM M (aH M2 p x):=fun c o e=>by
 unfold aH
 split
 ·rename_i z;rw[z,hp]at e;cases e
 ·exact h c o e
theorem oS{sz kd:Row}(hs:∀s∈sz,1<=s.2/\s.2<=3) (hin:InS sz kd) (hl:kd.length<=5):0<=c7 sz kd/\c7 sz kd<=243:=by
 obtain⟨h1,h2⟩:=tW (l:=kd.map fun s=>bQ sz s.1) (fun x hx=>by
  obtain⟨s,hm,rfl⟩:=O9.mp hx;have:=kQ hs (hin s hm)
  lia) 1 (by decide)
 refine⟨h1,W7 h2 ?_⟩;rw[Int.one_mul,F1];have:(3:Nat) ^ kd.length<=3 ^ 5:=Nat.pow_le_pow_right (by decide) hl;have q:((3:Int) ^ kd.length)=((3 ^ kd.length:Nat):Int):=by simp
 rw[q];lia
def Cs(how:Str) (sz kd:Row) (c:D):Prop:=∃es,c=.tup es/\(es.length:Int)=c7 sz kd/\∀e∈es,Cl how e
def Ts(how:Str) (sz:Row) (e:Str×List Row) (t:D):Prop:=∃cs,t=.tup cs/\cs.length=e.2.length/\∀(j:Nat) (kd:Row) (c:D),e.2[j]?=some kd->cs[j]?=some c->Cs how sz kd c
def Ws(how:Str) (sz:Row) (ak:List (Str×List Row)) (ts:List D):Prop:=ts.length=ak.length/\∀(j:Nat) (e:Str×List Row) (t:D),ak[j]?=some e->ts[j]?=some t->Ts how sz e t
def nc:SpD:=fun ds M R=>∃(ord:List (Str×Str)) (aq:Str) (ak:List (Str×List Row)) (how:Str) (xs:List Int) (n:Int),ds=[dR ord aq ak,.str how,.lst (xs.map D.int),.int n]/\LxM ord aq ak/\iK (.str how)=true/\xs.length=30/\(∀x∈xs,0<=x/\x<=1000000)/\1<=n/\n<=3/\∀(sz:Row) (ts:List D),my ord (mks ord aq ak) sz->Ws how sz ak ts->R (.tup [.str how,aA sz,.tup ts]) M
theorem rC(F:Fun K "_law_world" "_law_world" jG f fd) (T:Txt mg) (gb3:FnD P w K mg base "_law_sizes" 2 3 nv) (gb2:FnD P w K mg base "_law_cells" 2 4 ng):bA P w K mg base CX0 3 f fd ["_law_lexicon","_law_how","_law_xs","_law_most_here"] (spD K 4 nc):=by
 have nd:=mm.nd;refine F.okR rfl mm (fun cdv A outer s H E hr=>⟨_,(ah (aC (i:=4) nd rfl (L6 rfl) (qd gb3 hr (ab (aa 0) (ab (aa 2) (ab (aa 3) ag)))))
   (ah (aC (i:=5) nd rfl (L6 rfl) (aY (rh rfl) rfl T.b_dict (by kernel_rfl) (ab (aa 4) ag)))
   (ah (aC (i:=6) nd rfl (L6 rfl) (di ag))
   (ah (bU K9 rfl (aK (aD aE (aa 0) af (fun _ _=>rfl))) (ft rfl (br (aG (i:=7) nd rfl (L6 rfl)) (br (aG (i:=8) nd rfl (L6 rfl)) fo))) (ah (aC (i:=9) nd rfl (L6 rfl) (di ag))
   (ah (bU K9 rfl (aK (aa 8)) (aG (i:=10) nd rfl (L6 rfl)) (ah (aC (i:=11) nd rfl (L6 rfl) af)
   (ah (bU K9 rfl (aK (aa 10)) (ft rfl (br (aG (i:=12) nd rfl (L6 rfl)) (br (aG (i:=13) nd rfl (L6 rfl)) fo))) (am (aC (i:=11) nd rfl (L6 rfl) (aw bK (aa 11) (iQ hr.units1 (aa 5) (aa 12) (fun _ _=>rfl))))))
   (am (cj (eT (aa 9) (qd gb2 hr (ab (aa 1) (ab (aO (aa 2) (aU af) bp) (ab (aa 11) (ab (aw bq (au bc rfl T.b_len (by kernel_rfl) (ab (aa 6) ag)) (aw bK af (au bc rfl T.b_len (by kernel_rfl) (ab (aa 9) ag)))) ag)))))))))))
   (am (cj (eT (aa 6) (aY cm rfl T.b_tuple (by kernel_rfl) (ab (aa 9) ag))))))))
   (am (eJ (bF (ab (aa 1) (ab (aa 4) (ab (aY cm rfl T.b_tuple (by kernel_rfl) (ab (aa 6) ag)) ag)))))))))),fun ds M R _ hS bk=>?_⟩)
 obtain⟨ord,aq,ak,how,xs,n,rfl,hL,hh,hx,hxb,hn,hn3,k⟩:=hS;refine bk ?_;clear bk;walk_at "rd";refine⟨ord,aq,ak,xs,n,rfl,hL,by lia,hn,hn3,fun sz hsz=>?_⟩;have hin:∀e∈ak,∀r∈e.2,InS sz r:=fun e he r hr=>LxM.ins hsz.2.1 he hr;have hl5:∀e∈ak,e.2.length<=2/\∀r∈e.2,r.length<=5:=fun e he=>⟨(hL.sh e he).2.2.1,fun r hr=>((hL.sh e he).2.2.2.2 r hr).1⟩;have hne:=hL.n;walk_at "rd";refine⟨_,iR (by rw[hsz.2.1];exact iP),sz3 0,fun p hp=>?_⟩;simp only[dR];walk_at "rd";refine fun _=>?_;refine aI (fun i Δ M'=>∃(x7 x8 x9 x10 x11 x12 x13:Option D) (ts:List D),Δ=[some (D.tup [D.tup (ord.map bo),D.str aq,D.tup (ak.map et)]),some (D.str how),some (D.lst (xs.map D.int)),some (D.int n),some (aA sz),some (dO (du sz)),some (D.ref p),x7,x8,x9,x10,x11,x12,x13]/\M' p=some (.lst ts)/\LeM M M'/\ts.length=i/\∀(j:Nat) (e:Str×List Row) (t:D),ak[j]?=some e->ts[j]?=some t->Ts how sz e t) ⟨_,_,_,_,_,_,_,[],rfl,aP,eC hp,rfl,fun j e t _ h=>by cases j<;>cases h⟩ ?_ ?_
 ·rintro i d Δ M' X hd ⟨x7,x8,x9,x10,x11,x12,x13,ts,rfl,hMp,hle,htl,hts⟩ k';obtain⟨e,he,rfl⟩:=bZ hd;have hem:=J1 he;have hi:=(F8.mp he).1;refine⟨_,rfl,?_⟩;simp only[et,dE];walk_at "rd";refine⟨sz3 0,fun q hq=>?_⟩;have hpq:p≠q:=fun z=>by rw[z,hq]at hMp;cases hMp
  refine fun _=>?_;refine aI (fun j Δ M2=>∃(x10 x11 x12 x13:Option D) (cs:List D),Δ=[some (D.tup [D.tup (ord.map bo),D.str aq,D.tup (ak.map et)]),some (D.str how),some (D.lst (xs.map D.int)),some (D.int n),some (aA sz),some (dO (du sz)),some (D.ref p),some (D.str e.1),some (D.tup (e.2.map aA)),some (D.ref q),x10,x11,x12,x13]/\M2=aH M' q (.lst cs)/\cs.length=j/\∀(j:Nat) (kd:Row) (c:D),e.2[j]?=some kd->cs[j]?=some c->Cs how sz kd c) ⟨_,_,_,_,[],rfl,rfl,rfl,fun j kd c _ h=>by cases j<;>cases h⟩ ?_ ?_
  ·rintro j d Δ M2 Y hd2 ⟨x10,x11,x12,x13,cs,rfl,rfl,hcl,hcs⟩ k2;obtain⟨kd,hkd,rfl⟩:=bZ hd2;have hkm:=J1 hkd;have hj:=(F8.mp hkd).1;refine⟨_,rfl,?_⟩;walk_at "rd";refine⟨kd.map aM,rfl,fun _=>?_⟩;have hik:=hin e hem kd hkm;have hk5:=(hl5 e hem).2 kd hkm;obtain⟨w0,w1⟩:=oS hsz.1 hik hk5;refine aI (fun t Δ M3=>∃(x12 x13:Option D),Δ=[some (D.tup [D.tup (ord.map bo),D.str aq,D.tup (ak.map et)]),some (D.str how),some (D.lst (xs.map D.int)),some (D.int n),some (aA sz),some (dO (du sz)),some (D.ref p),some (D.str e.1),some (D.tup (e.2.map aA)),some (D.ref q),some (aA kd),some (D.int (c7 sz (kd.take t))),x12,x13]/\M3=aH M' q (.lst cs)) ⟨_,_,rfl,rfl⟩ ?_ ?_
   ·rintro t d Δ M3 Z hd3 ⟨x12,x13,rfl,rfl⟩ k3;obtain⟨s,hsg,rfl⟩:=bZ hd3;refine⟨_,rfl,?_⟩;walk_at "rd";have hm:=J1 hsg;have hb:=tE (kd:=kd.take t) hsz.1 (fun s h=>hik s (Q0 h)) (by rw[M0];lia);refine⟨_,eS,_,dJ (hik s hm),.int (c7 sz (kd.take t)*bQ sz s.1),?_,k3 _ _ ⟨_,_,by rw[nJ hsg],rfl⟩⟩;rw[cG,kP];exact if_pos (.inl (by lia))
   ·rintro Δ M3 ⟨x12,x13,rfl,rfl⟩;rw[F1,S5];walk_at "rd";have e1:aH M' q (.lst cs) p=some (.lst ts):=by rw[cQ hpq];exact hMp
    rw[fQ e1];have hxs:L2.cv (xs.map D.int) (some 4) none=(xs.drop 4).map D.int:=by rw[show(4:Int)=((4:Nat):Int)from rfl,dh,af6]
    rw[hxs];have hek:=(hl5 e hem).1;obtain⟨wn,hwn⟩:∃wn:Nat,c7 sz kd=(wn:Int):=⟨(c7 sz kd).toNat,by lia⟩;refine⟨.int (ts.length:Int),rfl,.int ((ts.length:Int)+7*cs.length),rfl,how,xs.drop 4,wn,(ts.length:Int)+7*cs.length,by rw[hwn],hh,by rw[S3];lia,by rw[S3];lia,fun x hx=>hxb x (S7 hx),by lia,by lia,by lia,fun es hel hes=>?_⟩;refine⟨cs,aP,J5 (by lia:cs.length<1000) (sz3 1000),?_⟩;rw[cf];refine k2 _ _ ⟨_,_,_,_,cs++[.tup es],rfl,rfl,by rw[F6,hcl];rfl,fun j' kd' c hkd' hc'=>?_⟩
    by_cases c1:j'<cs.length
    ·rw[O1 c1]at hc';exact hcs j' kd' c hkd' hc'
    ·have hj':j'=j:=by
      have:=(F8.mp hc').1;rw[F6]at this;simp at this
      lia
     subst hj';rw[<-hcl,List.getElem?_concat_length]at hc';rw[hkd]at hkd';cases hc';cases hkd';exact⟨es,rfl,by rw[hel,hwn],hes⟩
  ·rintro Δ M2 ⟨x10,x11,x12,x13,cs,rfl,rfl,hcl,hcs⟩;rw[F1]at hcl;walk_at "rd";have e1:aH M' q (.lst cs) p=some (.lst ts):=by rw[cQ hpq];exact hMp
   have hql:LeM M (aH M' q (.lst cs)):=fun c o h=>eC hq c o (hle c o h);refine⟨_,e1,_,e1,J5 (by lia:ts.length<1000) (sz3 1000),k' _ _ ⟨_,_,_,_,_,_,_,ts++[.tup cs],rfl,aP,zg hql hp,by rw[F6,htl];rfl,fun j e' t' he' ht'=>?_⟩⟩
   by_cases c:j<ts.length
   ·rw[O1 c]at ht';exact hts j e' t' he' ht'
   ·have hj:j=i:=by
     have:=(F8.mp ht').1;rw[F6]at this;simp at this
     lia
    subst hj;rw[<-htl,List.getElem?_concat_length]at ht';rw[he]at he';cases ht';cases he';exact⟨cs,rfl,hcl,hcs⟩
 ·rintro Δ M' ⟨x7,x8,x9,x10,x11,x12,x13,ts,rfl,hMp,hle,htl,hts⟩;rw[F1]at htl;walk_at "rd";rw[fQ hMp];exact⟨_,yb,sz3 3,M,hle,k sz ts hsz ⟨htl,hts⟩⟩
mutual
def smD:D->Bool
 |.tup ds=>kF ds
 |.lst ds=>kF ds
 |.int i=>decide (-100<=i)&&decide (i<=100)
 |.str x=>decide (x.length<=100)
 |.scr _=>false
 |.ref _=>false
 |.box _ _=>false
 |_=>true
def kF:List D->Bool
 |[]=>true
 |d::ds=>smD d&&kF ds
end
theorem bb:∀{ds:List D},kF ds=true↔∀d∈ds,smD d=true
 |[]=>by simp[kF]
 |d::ds=>by simp[kF,bb (ds:=ds)]
mutual
theorem fS:∀{d:D},smD d=true->av d=true
 |.tup ds,h=>fA (ds:=ds) h
 |.lst ds,h=>fA (ds:=ds) h
 |.str x,h=>by
  have:x.length<=100:=of_decide_eq_true h;show decide (x.length<=1000000)=true;exact decide_eq_true (by lia)
 |.scr _,h=>h
 |.ref _,h=>h
 |.box _ _,h=>h
 |.int _,_=>rfl
 |.bl _,_=>rfl
 |.non,_=>rfl
 |.emp,_=>rfl
theorem fA:∀{ds:List D},kF ds=true->cW ds=true
 |[],_=>rfl
 |d::ds,h=>by
  simp only[kF,N1]at h;simp only[cW,fS h.1,fA h.2,Bool.and_self]
end
theorem kM{d:D}(h:smD d=true):nU d:=fun a b e=>by
 subst e;simp only[smD,kF,Bool.and_true,N1,decide_eq_true_eq]at h
 by_cases c:b=0
 ·subst c;rw[Int.gcd_zero_right];lia
 ·have:=Int.gcd_le_natAbs_right (a:=a) (b:=b) (by lia)
  lia
theorem Ac{d:D}(h:smD d=true):WdQ d:=fun x y ts e t ht cs e1 c hc es e2 z hz=>by
 subst e;have h':smD (.tup ts)=true:=(bb.mp h) _ (by simp);have h1:=bb.mp h' t ht;subst e1;have h2:=bb.mp h1 c hc;subst e2;exact kM (bb.mp h2 z hz)
def tws:List Str:=K3 "sums"::K3 "truths"::fN
theorem Bp:(tws.all fun y=>decide (y.length<=20)&&smD (.str (y++K3 " "))&&smD (.str (ai9 y (some 1) none))&&smD (.str (K3 "no "++y))&&smD (.str (y++K3 " + 1")))=true:=by decide +kernel
theorem wX{y:Str}(h:y∈tws):y.length<=20/\smD (.str (y++K3 " "))=true/\smD (.str (ai9 y (some 1) none))=true/\smD (.str (K3 "no "++y))=true/\smD (.str (y++K3 " + 1"))=true:=by
 have:=M7.mp Bp y h;simp only[N1,decide_eq_true_eq]at this;exact⟨this.1.1.1.1,this.1.1.1.2,this.1.1.2,this.1.2,this.2⟩
inductive Tw:Nat->D->Prop
 |int (n:Nat) (i:Int) (h0:-30<=i) (h1:i<=30):Tw n (.int i)
 |bl (n:Nat) (b:Bool):Tw n (.bl b)
 |str (n:Nat) (x:Str) (h:x∈tws):Tw n (.str x)
 |tup (n:Nat) (ds:List D) (hl:ds.length<=243) (h:∀d,d∈ds->Tw n d):Tw (n+1) (.tup ds)
theorem Tw.sm{n:Nat}{d:D}(h:Tw n d):smD d=true:=by
 induction h with
 |int n i h0 h1=>simp only[smD,N1,decide_eq_true_eq];lia
 |bl n b=>rfl
 |str n x h=>exact decide_eq_true (by have:=(wX h).1;lia)
 |tup n ds _ _ ih=>exact bb.mpr ih
theorem Tw.le{n:Nat}{d:D}(h:Tw n d):∀k,n<=k->dLe d k=true:=by
 induction h with
 |int n i _ _=>intro k _;cases k<;>rfl
 |bl n b=>intro k _;cases k<;>rfl
 |str n x _=>intro k _;cases k<;>rfl
 |tup n ds _ _ ih =>
  intro k hk;obtain⟨k',rfl⟩:∃k',k=k'+1:=⟨k-1,by lia⟩;exact fP.mpr fun d hd=>ih d hd k' (by lia)
theorem oG{ds:List D}{i:Int}(h0:0<=i) (h1:i<(ds.length:Int)):∃d∈ds,atI ds i=some d:=by
 obtain⟨n,rfl⟩:=Int.eq_ofNat_of_zero_le h0;have hn:n<ds.length:=by lia
 exact⟨ds[n],P3 hn,aL (by rw[u8 hn])⟩
theorem uD{t:Int}(h0:-30<=t) (h1:t<=30):smD (.str (ao2 t))=true/\t.natAbs.log2<1920:=by
 have h:∀n:Fin 61,smD (.str (ao2 ((n.1:Int)-30)))=true/\((n.1:Int)-30).natAbs.log2<1920:=by decide +kernel
 have:=h ⟨(t+30).toNat,by lia⟩;have e:(((t+30).toNat:Nat):Int)-30=t:=by lia
 simp only[e]at this;exact this
def Lf(d:D):Prop:=(∃b,d=.bl b)∨(∃i:Int,d=.int i/\-30<=i/\i<=30)∨∃x:Str,d=.str x/\x∈tws
def pP:SpD:=fun ds M R=>∃(d:D) (x:Int),ds=[d,.int x]/\Lf d/\∀d,smD d=true->R d M
theorem uH(F:Fun K "_law_leaf" "_law_leaf" l9 f fd) (T:Txt mg) :bA P w K mg base CX0 1 f fd ["_law_thing","_law_way"] (spD K 2 pP):=by
 have nd:=nX.nd;refine F.okR rfl nX (fun cdv A outer s H E hr=>⟨_,(ah (bC (gc (cZ (bu (bV (Tn:="bool") (by decide) rfl T.b_isinstance rfl T.b_bool (by kernel_rfl) (aa 0))) (dq (aQ En (aa 0) m3 nbh)))) (am (aW (aD aE (ck (ab af (ab af (ab m3 (ab (ck ag) ag))))) (aw bh (aa 1) af) (fun _ _=>rfl)))) bf)
   (ah (bC (bu (bV (Tn:="int") (by decide) rfl T.b_isinstance rfl T.b_int (by kernel_rfl) (aa 0))) (ah (aC (i:=2) nd rfl (L6 rfl) (ck (ab (aw bq (aa 0) af) (ab (aw gn (aa 0) af) (ab (aw gn af (aa 0)) (ab (aw bK (aa 0) af) (ab fU (ab m3 (ab (aY AR rfl T.b_str (by kernel_rfl) (ab (aa 0) ag)) (ab (bF (ab (aa 0) (ab af ag))) (ab (ck (ab (aa 0) ag)) (ab Aq ag))))))))))))
   (am (aW (aD aE (aa 2) (aw bh (aa 1) af) (fun _ _=>rfl))))) bf)
   (ah (bC (bu (bV (Tn:="str") (by decide) rfl T.b_isinstance rfl T.b_str (by kernel_rfl) (aa 0))) (am (aW (aD aE (ck (ab (aw bq (aa 0) fe) (ab (aO (aa 0) (aU af) bp) (ab (aw bq fe (aa 0)) (ab m3 (ab (aw bq (aa 0) fe) (ab fe (ab (ck (ab (aa 0) ag)) (ab Aq ag))))))))) (aw bh (aa 1) af) (fun _ _=>rfl)))) bf)
   (am (aW m3))))),fun ds M R _ hS bk=>?_⟩)
 obtain⟨d,x,rfl,hd,k⟩:=hS;refine bk ?_;clear bk;rcases hd with⟨b,rfl⟩|⟨t,rfl,h0,h1⟩|⟨y,rfl,hy⟩
 ·walk_at "rd";obtain⟨d,hd,hat⟩:=oG (ds:=[D.int 0,D.int 1,D.non,D.lst []]) (i:=x % 4) (by lia) (by show x % 4<4;lia);refine⟨sz3 0,sz3 4,d,hat,k d ?_⟩;simp only[J9,L4,or_false]at hd;rcases hd with rfl|rfl|rfl|rfl<;>rfl
 ·walk_at "rd";refine⟨false,rfl,?_⟩;rw[if_neg (by decide)];refine bj (fun h=>absurd h (by simp[qJ])) (fun _=>?_);refine⟨true,rfl,?_⟩;rw[if_pos rfl];obtain⟨g1,g2⟩:=uD h0 h1;refine⟨_,if_pos g2,sz3 2,sz3 1,sz3 10,?_⟩;obtain⟨d,hd,hat⟩:=oG (ds:=[D.int (t+1),D.int (t-1),D.int (0-t),D.int (t*2),D.bl true,D.non,D.str (ao2 t),D.tup [D.int t,D.int 1],D.lst [D.int t],D.emp]) (i:=x % 10) (by lia) (by show x % 10<10;lia);refine⟨_,hat,k d ?_⟩;have sI:∀i:Int,-100<=i->i<=100->smD (.int i)=true:=fun i a b=>by simp only[smD,N1,decide_eq_true_eq];exact⟨a,b⟩
  have st:=sI t (by lia) (by lia);simp only[J9,L4,or_false]at hd;rcases hd with rfl|rfl|rfl|rfl|rfl|rfl|rfl|rfl|rfl|rfl
  ·exact sI _ (by lia) (by lia)
  ·exact sI _ (by lia) (by lia)
  ·exact sI _ (by lia) (by lia)
  ·exact sI _ (by lia) (by lia)
  ·rfl
  ·rfl
  ·exact g1
  ·simp only[smD,kF]at st ⊢;rw[st];rfl
  ·simp only[smD,kF]at st ⊢;rw[st];rfl
  ·rfl
 ·obtain⟨b0,b1,b2,b3,b4⟩:=wX hy;walk_at "rd";refine⟨false,rfl,?_⟩;rw[if_neg (by decide)];refine bj (fun h=>absurd h (by simp[qJ])) (fun _=>?_);refine⟨false,rfl,?_⟩;rw[if_neg (by decide)];refine⟨true,rfl,?_⟩;rw[if_pos rfl];have l1:(K3 " ").length=1:=by decide +kernel
  have l2:(K3 "no ").length=3:=by decide +kernel
  have l3:(K3 " + 1").length=4:=by decide +kernel
  refine⟨_,if_pos (sz3 _ (by lia)),_,if_pos (sz3 _ (by lia)),_,if_pos (sz3 _ (by lia)),_,if_pos (sz3 _ (by lia)),sz3 1,sz3 8,?_⟩;obtain⟨d,hd,hat⟩:=oG (ds:=[D.str (y++K3 " "),D.str (ai9 y (some 1) none),D.str (K3 "no "++y),D.non,D.str (y++K3 " + 1"),D.str (K3 "x"),D.lst [D.str y],D.emp]) (i:=x % 8) (by lia) (by show x % 8<8;lia);refine⟨_,hat,k d ?_⟩;have sy:smD (.str y)=true:=decide_eq_true (by lia);simp only[J9,L4,or_false]at hd;rcases hd with rfl|rfl|rfl|rfl|rfl|rfl|rfl|rfl
  ·exact b1
  ·exact b2
  ·exact b3
  ·rfl
  ·exact b4
  ·decide +kernel
  ·simp only[smD,kF]at sy ⊢;rw[sy];rfl
  ·rfl
end
section
variable{P:L1}{w:P9}{K:F2}{mg:Str->Option F3}{base:K7}{f:J7}{fd:L8}
theorem Ls.wd{fs:List D}(h:∀e∈fs,smD e=true):smD (.tup fs)=true:=bb.mpr h
theorem Ls.wl{fs:List D}(h:∀e∈fs,smD e=true):smD (.lst fs)=true:=bb.mpr h
def jo:Nat->SpD
 |0=>xy
 |m+1=>fun ds M R=>∃(n:Nat) (d:D) (xs:List Int),ds=[d,.lst (xs.map D.int)]/\Tw n d/\n<=50/\xs.length=2*(m+1)/\(∀x∈xs,0<=x)/\∀d',smD d'=true->R d' M
theorem eF(F:Fun K "_law_bent" "_law_bent" l7 f fd) (T:Txt mg) {m:Nat} (G7:FnD P w K mg base "_law_leaf" 1 2 pP) (G1:FnD P w K mg base "_law_bent" (m+1) 2 (jo m)):bA P w K mg base CX0 (m+1+1) f fd ["_law_thing","_law_xs"] (spD K 2 (jo (m+1))):=by
 have nd:=mX.nd;refine F.okR rfl mX (fun cdv A outer s H E hr=>⟨_,(ah (bC (gc (mj (bM (bu (bV (Tn:="list") (by decide) rfl T.b_isinstance rfl T.b_list (by kernel_rfl) (aa 0)))) (jl (bM (bu (bV (Tn:="tuple") (by decide) rfl T.b_isinstance rfl T.b_tuple (by kernel_rfl) (aa 0))))))) (am (aW (qc G7 (hr.mono (by lia)) rfl (ab (aa 0) (ab (aw bq (aD aE (aa 1) af (fun _ _=>rfl)) (aw bK af (aw bh (aD aE (aa 1) af (fun _ _=>rfl)) af))) ag))))) bf)
   (aJ (ah (aC (i:=2) nd rfl (L6 rfl) (zl rfl T.b_list (by kernel_rfl) (ab (aa 0) ag)))
   (aJ (ah (bC (gc (cZ (aQ (eU hr.units) (aa 2) (ck ag) nbh) (cZ (aQ (eU hr.units) (aw bh (aD aE (aa 1) af (fun _ _=>rfl)) af) af nbh) (dq (aQ oE (au bc rfl T.b_len (by kernel_rfl) (ab (aa 1) ag)) af nbh))))) (aJ (ah (aC (i:=3) nd rfl (L6 rfl) (aw bh (aD aE (aa 1) af (fun _ _=>rfl)) (au (AG rfl) rfl T.b_max (by kernel_rfl) (ab af (ab (au bc rfl T.b_len (by kernel_rfl) (ab (aa 2) ag)) ag)))))
   (ah (aC (i:=4) nd rfl (L6 rfl) (aD aE (ck (ab (aw bq (aO (aa 2) bp (aU (aa 3))) (aO (aa 2) (aU (aw bq (aa 3) af)) bp)) (ab (aw bq (aa 2) (aO (aa 2) (aU (aa 3)) (aU (aw bq (aa 3) af)))) (ab (um (aa 2) (Dz D7 af)) (ab (ck (ab (aY cm rfl T.b_tuple (by kernel_rfl) (ab (aa 2) ag)) ag)) ag))))) (aw bh (aw dB (aD aE (aa 1) af (fun _ _=>rfl)) af) af) (fun _ _=>rfl)))
   (ah (bC (aQ (eU hr.units) (aw bh (aw dB (aD aE (aa 1) af (fun _ _=>rfl)) af) af) af nbh) (am (eJ (Eo (bu (bV (Tn:="list") (by decide) rfl T.b_isinstance rfl T.b_list (by kernel_rfl) (aa 0))) (aY cm rfl T.b_tuple (by kernel_rfl) (ab (aa 2) ag)) (aY oT rfl T.b_list (by kernel_rfl) (ab (aa 2) ag))))) bf)
   (am (aC (i:=2) nd rfl (L6 rfl) (aa 4))))))) (ah (aC (i:=3) nd rfl (L6 rfl) (aw bh (aD aE (aa 1) af (fun _ _=>rfl)) (au bc rfl T.b_len (by kernel_rfl) (ab (aa 2) ag))))
   (am (vB (aa 2) (aa 3) (qc G1 (hr.mono (by lia)) rfl (ab (aD aE (aa 2) (aa 3) (fun _ _=>rfl)) (ab (aO (aa 1) (aU af) bp) ag)))))))
   (aJ (ah (bC (bu (bV (Tn:="tuple") (by decide) rfl T.b_isinstance rfl T.b_tuple (by kernel_rfl) (aa 0))) (am (eJ (aY cm rfl T.b_tuple (by kernel_rfl) (ab (aa 2) ag)))) bf)
   (am (eJ (aa 2)))))))))),fun ds M R _ hS bk=>?_⟩)
 obtain⟨n,d,xs,rfl,hd,hn50,hxl,hx,k⟩:=hS;obtain⟨x0,h0⟩:∃x,xs[0]?=some x:=⟨_,u8 (by lia)⟩;obtain⟨x1,h1⟩:∃x,xs[1]?=some x:=⟨_,u8 (by lia)⟩;refine bk ?_;clear bk;have p0:=hx x0 (J1 h0);have p1:=hx x1 (J1 h1);have a0:atI (xs.map D.int) 0=some (.int x0):=aL (j:=0) (by rw[J6,h0];rfl);have a1:atI (xs.map D.int) 1=some (.int x1):=aL (j:=1) (by rw[J6,h1];rfl);walk_at "rd";rw[bG (fS hd.sm)];cases hd with
 |int n i i0 i1 =>
  refine⟨false,rfl,?_⟩;rw[if_pos (show(!false)=true from rfl)];refine⟨false,rfl,?_⟩;rw[if_pos (show(!false)=true from rfl)];refine⟨_,a0,_,a1,?_⟩;walk_at "rd";exact⟨_,_,rfl,.inr (.inl ⟨i,rfl,i0,i1⟩),k⟩
 |bl n c =>
  refine⟨false,rfl,?_⟩;rw[if_pos (show(!false)=true from rfl)];refine⟨false,rfl,?_⟩;rw[if_pos (show(!false)=true from rfl)];refine⟨_,a0,_,a1,?_⟩;walk_at "rd";exact⟨_,_,rfl,.inl ⟨c,rfl⟩,k⟩
 |str n y hy =>
  refine⟨false,rfl,?_⟩;rw[if_pos (show(!false)=true from rfl)];refine⟨false,rfl,?_⟩;rw[if_pos (show(!false)=true from rfl)];refine⟨_,a0,_,a1,?_⟩;walk_at "rd";exact⟨_,_,rfl,.inr (.inr ⟨y,rfl,hy⟩),k⟩
 |tup n es hl hes =>
  refine⟨false,rfl,?_⟩;rw[if_pos (show(!false)=true from rfl)];refine⟨true,rfl,?_⟩;rw[if_neg (by simp)];refine ar ?_;walk_at "rd";intro p hp;refine ar (iH (fun Δ' M2=>∃(sm:D) (fs:List D) (x3 x4:Option D),Δ'=[some (.tup es),some (.lst (xs.map D.int)),some sm,x3,x4]/\rdM M2 sm=.lst fs/\(∀e∈fs,smD e=true)/\LeM M M2) (fun nx knx=>?_) ?_)
  ·have hes0:∀e∈es,smD e=true:=fun e he=>(hes e he).sm;have hr0:rdM (aH M p (.lst es)) (.ref p)=.lst es:=fQ aP;walk_at "rd";have e0:eqF (.lst es) (.lst [])=some (.bl es.isEmpty):=by
    have h1:dLe (.lst es) 60=true:=fP.mpr fun d hd=>(hes d hd).le 59 (by lia);have h2:dLe (.lst []) 60=true:=rfl;simp only[eqF,h1,h2,and_self,if_true];cases es<;>rfl
   refine⟨sz3 0,_,e0,_,rfl,bj (fun c1=>?_) (fun c1=>⟨_,a0,?_⟩)⟩
   rotate_left
   walk_at "rd";rw[F1];have hne:0<es.length:=by cases es<;>first|(exact absurd rfl c1)|simp
   obtain⟨v,hv,ev⟩:=fW hne x1;refine bj (fun c2=>?_) (fun c2=>bj (fun c3=>?_) (fun c3=>⟨_,a1,?_⟩))
   rotate_left 2
   ·walk_at "rd";refine⟨_,if_pos (by lia),?_⟩;walk_at "rd";rw[ev];obtain⟨dv,hdv⟩:∃dv,es[v]?=some dv:=⟨_,u8 hv⟩;refine⟨dv,aL hdv,?_⟩;obtain⟨m',rfl⟩:∃m',m=m'+1:=⟨m-1,by lia⟩;rw[show(2:Int)=((2:Nat):Int)from rfl,dh,<-af6];refine⟨n,dv,xs.drop 2,rfl,hes dv (J1 hdv),by lia,by rw[S3];lia,fun x h=>hx x (S7 h),fun d' hd'=>?_⟩;refine⟨es,aP,v,oj hv,knx _ _ ⟨.ref p,es.set v d',_,_,rfl,fQ aP,fun e he=>?_,?_⟩⟩
    ·rcases List.mem_or_eq_of_mem_set he with z|rfl
     ·exact hes0 e z
     ·exact hd'
    ·rw[cf];exact eC hp
   all_goals
    refine ar ?_;walk_at "rd";have hmx:0<(if(es.length:Int) > 1 then(es.length:Int)else 1):=by split<;>lia
    obtain⟨u,eu⟩:∃u:Nat,x1 % (if(es.length:Int) > 1 then(es.length:Int)else 1)=(u:Int):=⟨_,(ac9 (X4 _ (by lia))).symm⟩;refine⟨_,a1,?_⟩;walk_at "rd";refine⟨_,if_pos hmx,?_⟩;walk_at "rd";rw[eu,show(u:Int)+1=((u+1:Nat):Int)by lia,gK,dh];have hc1:(L2.cv es (some (u:Int)) (some ((u+1:Nat):Int))).length<=1/\∀e∈L2.cv es (some (u:Int)) (some ((u+1:Nat):Int)),e∈es:=by
     unfold L2.cv;rw[HT.sIx_nat,HT.sIx_nat];exact⟨by rw[M0];lia,fun e he=>S7 (Q0 he)⟩
    generalize L2.cv es (some (u:Int)) (some ((u+1:Nat):Int))=cu at hc1;refine⟨_,if_pos (sz3 _ (by rw[M0,S3];lia)),_,if_pos (sz3 _ (by lia)),sz3 1,sz3 4,_,a1,?_⟩;walk_at "rd";obtain⟨o,ho,hat⟩:=oG (ds:=[D.lst (List.take u es++List.drop (u+1) es),D.lst (es++cu),D.lst es.reverse,D.lst [D.tup es]]) (i:=x1 / 7 % 4) (by lia) (by show x1 / 7 % 4<4;lia);obtain⟨fs,rfl,hfs⟩:∃fs,o=.lst fs/\∀e∈fs,smD e=true:=by
     simp only[J9,L4,or_false]at ho;rcases ho with rfl|rfl|rfl|rfl
     ·refine⟨_,rfl,fun e he=>hes0 e ?_⟩;rcases O3.mp he with z|z
      ·exact Q0 z
      ·exact S7 z
     ·refine⟨_,rfl,fun e he=>hes0 e ?_⟩;rcases O3.mp he with z|z
      ·exact z
      ·exact hc1.2 e z
     ·exact⟨_,rfl,fun e he=>hes0 e (by simpa using he)⟩
     ·refine⟨_,rfl,fun e he=>?_⟩;rw[N5.mp he];exact Ls.wd hes0
    refine⟨_,hat,_,a1,?_⟩;walk_at "rd";refine bj (fun _=>⟨false,rfl,?_⟩) (fun _=>knx _ _ ⟨.lst fs,fs,_,_,rfl,rfl,hfs,eC hp⟩);rw[if_neg (by simp)];exact⟨_,rfl,M,eC hp,k _ (Ls.wl hes0)⟩
  rintro Δ' M2 ⟨sm,fs,x3,x4,rfl,hsm,hfs,hle⟩;refine ar ?_;walk_at "rd";refine⟨true,rfl,?_⟩;rw[if_pos rfl,hsm];exact⟨_,rfl,M,hle,k _ (Ls.wd hfs)⟩
theorem yv{how:Str}{sz:Row}{ak:List (Str×List Row)}{ts:List D}(h:Ws how sz ak ts):gh how sz ak (.tup ts)=true:=by
 have h1:((ts.length:Int)==ak.length)=true:=beq_iff_eq.mpr (by rw[h.1]);simp only[gh,h1,R6];rw[M7];rintro⟨e,t⟩ hm;obtain⟨i,hi⟩:=S1.mp hm;obtain⟨g1,g2⟩:=T7.mp hi;obtain⟨cs,rfl,hl,hc⟩:=h.2 i e t g1 g2;have h2:((cs.length:Int)==e.2.length)=true:=beq_iff_eq.mpr (by rw[hl]);simp only[jO,h2,R6];rw[M7];rintro⟨kd,c⟩ hm2;obtain⟨j,hj⟩:=S1.mp hm2;obtain⟨g3,g4⟩:=T7.mp hj;obtain⟨es,rfl,hel,hes⟩:=hc j kd c g3 g4;have h3:((es.length:Int)==c7 sz kd)=true:=beq_iff_eq.mpr hel;simp only[cV,h3,R6];exact M7.mpr fun e he=>(hes e he).1
theorem xr{ord:List (Str×Str)}{aq:Str}{ak:List (Str×List Row)}{how:Str}{sz:Row}{ts:List D}(hh:iK (.str how)=true) (hs:my ord (mks ord aq ak) sz) (hw:Ws how sz ak ts):wdP ord aq ak (.tup [.str how,aA sz,.tup ts]):=⟨how,sz,.tup ts,rfl,hh,hs,yv hw⟩
theorem Dm{how:Str}{c:D}(h:Cl how c):Tw 1 c:=by
 rcases h.2 with⟨b,rfl⟩|⟨a,b,rfl,h1,h2,h3,h4⟩
 ·exact .bl 1 b
 ·refine .tup 0 _ (by simp) fun d hd=>?_;simp only[J9,L4,or_false]at hd;rcases hd with rfl|rfl
  ·exact .int 0 _ (by lia) (by lia)
  ·exact .int 0 _ (by lia) (by lia)
theorem xK{how:Str}(h:iK (.str how)=true):how∈tws:=by
 have h':(K3 "sums"==how || (K3 "truths"==how || false))=true:=h;rw[al9,ah4,beq_iff_eq,beq_iff_eq]at h';rcases h' with rfl|rfl
 ·exact .head _
 ·exact .tail _ (.head _)
theorem sY{ord:List (Str×Str)}{aq:Str}{ak:List (Str×List Row)}{how:Str}{sz:Row}{ts:List D}(hL:LxM ord aq ak) (hs:my ord (mks ord aq ak) sz) (hw:Ws how sz ak ts):Tw 4 (.tup ts):=by
 have hn:=hL.n;refine .tup 3 _ (by rw[hw.1];lia) fun t ht=>?_;obtain⟨i,hi⟩:=S1.mp ht;have hil:=(F8.mp hi).1;obtain⟨e,he⟩:∃e,ak[i]?=some e:=⟨_,u8 (by rw[<-hw.1];exact hil)⟩;have hem:=J1 he;have hkl:=(hL.sh e hem).2.2.1;obtain⟨cs,rfl,hl,hc⟩:=hw.2 i e t he hi;refine .tup 2 _ (by lia) fun c hcm=>?_;obtain⟨j,hj⟩:=S1.mp hcm;have hjl:=(F8.mp hj).1;obtain⟨kd,hkd⟩:∃kd,e.2[j]?=some kd:=⟨_,u8 (by lia)⟩;have hkm:=J1 hkd;obtain⟨es,rfl,hel,hes⟩:=hc j kd c hkd hj;have:=oS hs.1 (LxM.ins hs.2.1 hem hkm) ((hL.sh e hem).2.2.2.2 kd hkm).1;exact .tup 1 _ (by lia) fun x hx=>Dm (hes x hx)
theorem pE{ord:List (Str×Str)}{aq:Str}{ak:List (Str×List Row)}{sz:Row}(hL:LxM ord aq ak) (hs:my ord (mks ord aq ak) sz):Tw 4 (aA sz):=by
 have hf:=hL.few;refine .tup 3 _ (by have:=congrArg X0 hs.2.1;rw[F1]at this ⊢;lia) fun d hd=>?_;obtain⟨s,hm,rfl⟩:=O9.mp hd;have h1:=hs.1 s hm;refine .tup 2 _ (by simp) fun d hd=>?_;simp only[J9,L4,or_false]at hd;rcases hd with rfl|rfl
 ·exact .str _ _ (.tail _ (.tail _ (hL.one (by rw[<-hs.2.1];exact T9 hm))))
 ·exact .int _ _ (by lia) (by lia)
theorem xT{ord:List (Str×Str)}{aq:Str}{ak:List (Str×List Row)}{how:Str}{sz:Row}{ts:List D}(hL:LxM ord aq ak) (hh:iK (.str how)=true) (hs:my ord (mks ord aq ak) sz) (hw:Ws how sz ak ts):Tw 5 (.tup [.str how,aA sz,.tup ts]):=by
 refine .tup 4 _ (by simp) fun d hd=>?_;simp only[J9,L4,or_false]at hd;rcases hd with rfl|rfl|rfl
 ·exact .str _ _ (xK hh)
 ·exact pE hL hs
 ·exact sY hL hs hw
theorem yX{a b:Int}(h:(b=1∨a=1)):nU (.tup [.int a,.int b]):=fun x y e=>by
 simp only[D.tup.injEq,S4,D.int.injEq,and_true]at e;obtain⟨rfl,rfl⟩:=e;rcases h with rfl|rfl
 ·rw[Int.gcd_one_right];decide
 ·rw[Int.gcd_one_left];decide
theorem xf{d s c:D}{es cs ts:List D}(hd:av d=true) (hs:av s=true) (hc:av c=true) (hq:nU c) (he:∀e∈es,smD e=true) (hcs:∀e∈cs,smD e=true) (hts:∀e∈ts,smD e=true) :
  av (.tup [d,s,.tup (.tup (.tup (c::es)::cs)::ts)])=true/\WdQ (.tup [d,s,.tup (.tup (.tup (c::es)::cs)::ts)]):=by
 constructor
 ·simp only[av,cW,hd,hs,hc,fA (bb.mpr he),fA (bb.mpr hcs),fA (bb.mpr hts),Bool.and_self]
 ·intro x y us e t ht vs e1 w hw zs e2 z hz;simp only[D.tup.injEq,S4,and_true]at e;obtain⟨_,_,rfl⟩:=e;rcases J9.mp ht with q|q
  ·rw[q]at e1;obtain rfl:D.tup (c::es)::cs=vs:=by simpa using e1
   rcases J9.mp hw with q2|q2
   ·rw[q2]at e2;obtain rfl:c::es=zs:=by simpa using e2
    rcases J9.mp hz with rfl|q3
    ·exact hq
    ·exact kM (he z q3)
   ·have h2:=hcs w q2;subst e2;exact kM (bb.mp h2 z hz)
  ·have h1:=hts t q;subst e1;have h2:=bb.mp h1 w hw;subst e2;exact kM (bb.mp h2 z hz)
def rW:List Int:=I0 30 1000000++[2]++(I0 60 [8,112]).flatten
theorem AZ:j6 (.lst [.int 1000000]) (.int 30)=some (.lst ((I0 30 (1000000:Int)).map D.int)):=by
 have e:j6 (.lst [.int 1000000]) (.int 30)=if -(2 ^ 63)<=(30:Int)/\(30:Int)<2 ^ 63/\[D.int 1000000].length*(30:Int).toNat<=F7 then some (.lst (I0 (30:Int).toNat [D.int 1000000]).flatten)else none:=rfl
 rw[e,if_pos ⟨by decide,by decide,sz3 _ (by decide)⟩];rfl
theorem A0:j6 (.lst [.int 8,.int 112]) (.int 60)=some (.lst (((I0 60 [8,112]).flatten:List Int).map D.int)):=by
 have e:j6 (.lst [.int 8,.int 112]) (.int 60)=if -(2 ^ 63)<=(60:Int)/\(60:Int)<2 ^ 63/\[D.int 8,D.int 112].length*(60:Int).toNat<=F7 then some (.lst (I0 (60:Int).toNat [D.int 8,D.int 112]).flatten)else none:=rfl
 rw[e,if_pos ⟨by decide,by decide,sz3 _ (by decide)⟩];rfl
theorem vd:rW.length=151:=by decide
theorem Ca:mR (.lst ((I0 30 (1000000:Int)).map D.int)) (D.lst [D.int 2])=some (.lst ((I0 30 (1000000:Int)++[2]).map D.int)):=by
 rw[oz,if_pos (by simp;exact sz3 31),O2];rfl
theorem Bh:mR (.lst ((I0 30 (1000000:Int)++[2]).map D.int)) (D.lst (((I0 60 [8,112]).flatten:List Int).map D.int))=some (.lst (rW.map D.int)):=by
 rw[oz,if_pos (by simp;exact sz3 151),<-O2];rfl
def lnD:D->Int
 |.tup es=>es.length
 |_=>0
def smL:D->Int
 |.tup cs=>(cs.map lnD).sum
 |_=>0
theorem yQ{x:Int}(h0:0<=x) (h1:x<2):∃how,atI [D.str (K3 "sums"),D.str (K3 "truths")] x=some (.str how)/\iK (.str how)=true:=by
 have:x=0∨x=1:=by lia
 rcases this with rfl|rfl
 ·exact⟨_,rfl,by decide +kernel⟩
 ·exact⟨_,rfl,by decide +kernel⟩
theorem CF{xs:List Int}(h:AV rW xs) {i:Nat}{s:Int}(hs:rW[i]?=some s):∃x,xs[i]?=some x/\atI (xs.map D.int) (i:Int)=some (.int x)/\0<=x/\x<s:=by
 have hl:i<xs.length:=by rw[h.1];exact(F8.mp hs).1
 have e:=u8 hl;exact⟨_,e,aL (by rw[J6,e];rfl),h.2 i _ _ e hs⟩
def OkD(d:D):Prop:=av d=true/\WdQ d
theorem xp{ord:List (Str×Str)}{aq:Str}{ak:List (Str×List Row)}{how:Str}{sz:Row}{ts:List D}(hL:LxM ord aq ak) (hw:Ws how sz ak ts):∀t∈ts,∃cs,t=.tup cs/\cs.length<=1000/\∀c∈cs,∃es,c=.tup es:=fun t ht=>by
 obtain⟨i,hi⟩:=S1.mp ht;have hil:=(F8.mp hi).1;obtain⟨e,he⟩:∃e,ak[i]?=some e:=⟨_,u8 (by rw[<-hw.1];exact hil)⟩;obtain⟨cs,rfl,hl,hc⟩:=hw.2 i e t he hi;have:=(hL.sh e (J1 he)).2.2.1;refine⟨cs,rfl,by lia,fun c hcm=>?_⟩;obtain⟨j,hj⟩:=S1.mp hcm;have hjl:=(F8.mp hj).1;obtain⟨kd,hkd⟩:∃kd,e.2[j]?=some kd:=⟨_,u8 (by lia)⟩;obtain⟨es,rfl,_⟩:=hc j kd c hkd hj;exact⟨es,rfl⟩
def S_law:SpD:=fun ds M R=>∃ns:List Int,ds=[.scr (ns.map .int)]/\M=noM/\ns.length<=63/\∀M',R (.bl true) M'
theorem B0(F:Fun K "law" "law" tJ f fd) (T:Txt mg) (ga2:FnD P w K mg base "_law_sentence" 3 1 jn) (Y1:FnD P w K mg base "_law_parts" 1 2 j7) (ga5:FnD P w K mg base "_law_world" 3 4 nc) (Y3:FnD P w K mg base "is_world" 6 2 jj) (G2:FnD P w K mg base "_law_good" 4 2 pG) (G1:FnD P w K mg base "_law_bent" 7 2 (jo 6)):bA P w K mg base CX0 8 f fd ["_law_script"] (spD K 1 S_law):=by
 have nd:=vE.nd;refine F.okR rfl vE (fun cdv A outer s H E hr=>⟨_,(ah (bU K9 rfl (aK (aw bq (aY oT rfl T.b_list (by kernel_rfl) (ab (aO (aa 0) bp (aU af)) ag)) (ck (ab af ag)))) (aG (i:=1) nd rfl (L6 rfl)) (ah (nN (qd ga2 hr (ab (aa 1) ag)) (ft rfl (br (aG (i:=2) nd rfl (L6 rfl)) (br (aG (i:=3) nd rfl (L6 rfl)) (br (aG (i:=4) nd rfl (L6 rfl)) fo)))))
   (aJ (ah (aC (i:=5) nd rfl (L6 rfl) (qd Y1 hr (ab (aw dB (au pW rfl T.b_abs (by kernel_rfl) (ab (aa 1) ag)) af) (ab (aw bq (aw bq (aw bK (ck (ab (aw iZ af af) ag)) af) (ck (ab af ag))) (aw bK (ck (ab af (ab af ag))) af)) ag))))
   (aJ (ah (aC (i:=6) nd rfl (L6 rfl) (aD aE (ck (ab fe (ab fe ag))) (aD aE (aa 5) af (fun _ _=>rfl)) (fun _ _=>rfl)))
   (aJ (ah (aC (i:=7) nd rfl (L6 rfl) (qd ga5 hr (ab (aa 2) (ab (aa 6) (ab (aO (aa 5) bp (aU af)) (ab af ag))))))
   (aJ (ah (bU K9 rfl (aK (ck (ab af (ab af ag)))) (aG (i:=8) nd rfl (L6 rfl)) (ah (aC (i:=9) nd rfl (L6 rfl) (qd ga5 hr (ab (aa 2) (ab (aa 6) (ab (aO (aa 5) bp (aU af)) (ab (aa 8) ag))))))
   (am (bC (aQ pB (au (Ao rfl) rfl T.b_sum (by kernel_rfl) (ab (fF (ms:=[false,false,false,false,false,false,false,false,false,false,false,false,false,false,false,false]) (ai:=["_law_table"]) (aF (n0:=0) rfl (show aS (aj tJ) pM _ _=true from by decide +kernel)) rfl (aK (aD aE (aa 9) af (fun _ _=>rfl))) (az (i:=16) (show(pM++_).Nodup from by decide +kernel) rfl rfl) (fun _ _ _ _=>bv) (fun _ _ _ _=>(au (Ao rfl) rfl T.b_sum (by kernel_rfl) (ab (fF (ms:=[false,false,false,false,false,false,false,false,false,false,false,false,false,false,false,false,false]) (ai:=[]) (t5 (show oQ (pM++(["_law_table"]:List Str)) _ _=true from by decide +kernel)) rfl (aK (aa 16)) (az (i:=10) (show((pM++(["_law_table"]:List Str))++_).Nodup from by decide +kernel) rfl rfl) (fun _ _ _ _=>bv) (fun _ _ _ _=>(au bc rfl T.b_len (by kernel_rfl) (ab (aa 10) ag)))) ag)))) ag)) af nbh) (am (aC (i:=7) nd rfl (L6 rfl) (aa 9))) bf))))
   (aJ (ah (bC (gc (cZ (aQ vX (qd Y3 hr (ab (aa 2) (ab (aa 7) ag))) fU nbh) (dq (bM (bu (qd G2 hr (ab (aa 2) (ab (aa 7) ag)))))))) (am (aW fU)) bf)
   (aJ (ah (aC (i:=11) nd rfl (L6 rfl) (di (ab (bF (ab fe (ab (aD aE (aa 7) af (fun _ _=>rfl)) (ab (aD aE (aa 7) af (fun _ _=>rfl)) ag)))) (ab (bF (ab fe (ab (aD aE (aa 7) af (fun _ _=>rfl)) (ab (aD aE (aa 7) af (fun _ _=>rfl)) ag)))) (ab m3 (ab (aa 6) (ab (bF ag) (ab (ck (ab (aa 6) ag)) (ab (aY oT rfl T.b_list (by kernel_rfl) (ab (aa 7) ag)) ag)))))))))
   (aJ (ah (bU K9 rfl (aK (ck (ab (bF (ab (aw gn (aw iZ af af) af) (ab af ag))) (ab (bF (ab (aw iZ af af) (ab af ag))) (ab (bF (ab (aw gn af (aw iZ af af)) (ab af ag))) (ab (bF (ab af (ab (aw gn (aw iZ af af) af) ag))) (ab (bF (ab af (ab (aw iZ af af) ag))) ag))))))) (aG (i:=12) nd rfl (L6 rfl)) (ah (aC (i:=10) nd rfl (L6 rfl) (aw bq (bF (ab (aa 12) ag)) (aO (aD aE (aD aE (aD aE (aa 7) af (fun _ _=>rfl)) af (fun _ _=>rfl)) af (fun _ _=>rfl)) (aU af) bp)))
   (am (cj (eT (aa 11) (bF (ab (aa 6) (ab (aD aE (aa 7) af (fun _ _=>rfl)) (ab (aw bq (bF (ab (aw bq (bF (ab (aa 10) ag)) (aO (aD aE (aD aE (aa 7) af (fun _ _=>rfl)) af (fun _ _=>rfl)) (aU af) bp)) ag)) (aO (aD aE (aa 7) af (fun _ _=>rfl)) (aU af) bp)) ag)))))))))
   (aJ (ah (bU K9 rfl (de rfl T.b_range (ab af ag)) (aG (i:=13) nd rfl (L6 rfl)) (am (cj (eT (aa 11) (qd G1 hr (ab (aa 7) (ab (aO (aa 5) (aU (aw bq af (aw bK af (aa 13)))) (aU (aw bq af (aw bK af (aa 13))))) ag)))))))
   (aJ (ot 11 (am (bU K9 rfl (aK (aa 11)) (aG (i:=14) nd rfl (L6 rfl)) (ah (aC (i:=15) nd rfl (L6 rfl) (qd Y3 hr (ab (aa 2) (ab (aa 14) ag))))
   (am (bC (gc (cZ (bM (bu (bV (Tn:="bool") (by decide) rfl T.b_isinstance rfl T.b_bool (by kernel_rfl) (aa 15)))) (dq (aQ (mI hr.units) (aa 15) (qd G2 hr (ab (aa 2) (ab (aa 14) ag))) nbh)))) (am (aW fU)) bf)))))))))))))))))))))))))
   (am (aW fU))),fun ds M R _ hS bk=>?_⟩)
 obtain⟨ns,rfl,rfl,hn,k⟩:=hS;refine bk ?_;clear bk;walk_at "rd";obtain⟨ys,hys,hyl⟩:∃ys:List Int,L2.cv (ns.map D.int) none (some 5)=ys.map D.int/\ys.length<=5:=⟨ns.take 5,by rw[show(5:Int)=((5:Nat):Int)from rfl,gK,Z9],by rw[M0];lia⟩;rw[hys];refine⟨_,rfl,sz3 1,_,if_pos (sz3 _ (by simp;lia)),_,rfl,fun hz=>?_⟩;rw[show ys.map D.int++[D.int 0]=(ys++[0]).map D.int by rw[O2];rfl];refine aI (fun i Δ M'=>∃x1 x2 x3 x4 x5 x6 x7 x8 x9 x10 x11 x12 x13 x14 x15,Δ=[some (D.scr (ns.map D.int)),x1,x2,x3,x4,x5,x6,x7,x8,x9,x10,x11,x12,x13,x14,x15]) ⟨_,_,_,_,_,_,_,_,_,_,_,_,_,_,_,rfl⟩ ?_ ?_
 ·rintro i d Δ M X hd ⟨x1,x2,x3,x4,x5,x6,x7,x8,x9,x10,x11,x12,x13,x14,x15,rfl⟩ k';obtain⟨c,hc,rfl⟩:=bZ hd;refine⟨_,rfl,?_⟩;walk_at "rd";refine⟨c,rfl,fun ord aq ak wa wb hL hne=>?_⟩;walk_at "rd";simp only[jt,gb,gU,k8,ad2];refine⟨_,if_pos rfl,ar ?_⟩;walk_at "rd";refine⟨_,if_pos ⟨by decide,by decide,by decide⟩,sz3 1,_,AZ,sz3 1,_,Ca,sz3 2,_,A0,_,Bh,_,rW,rfl,by decide,by decide,fun xs hx=>ar ?_⟩;have hxl:xs.length=151:=hx.1;have hx0:∀x∈xs,0<=x:=fun x hm=>by
   obtain⟨i,hi,rfl⟩:=W1.mp hm;obtain⟨s,hs⟩:∃s,rW[i]?=some s:=⟨_,u8 (by rw[vd];lia)⟩;exact(hx.2 i _ s (u8 hi) hs).1
  have hx30:∀x∈xs.take 30,0<=x/\x<=1000000:=fun x hm=>by
   obtain⟨i,hi,rfl⟩:=W1.mp hm;rw[M0]at hi;have:=hx.2 i _ 1000000 (by rw[u8 (by lia:i<xs.length)]) (by
    unfold rW;rw[U0,O1 (by rw[V6];lia),U1,if_pos (by lia)])
   rw[List.getElem_take]
   lia
  obtain⟨x30,_,a30,b30,c30⟩:=CF (i:=30) (s:=2) hx rfl;obtain⟨how,hat,hh⟩:=yQ b30 c30;have hcut:L2.cv (xs.map D.int) none (some 30)=(xs.take 30).map D.int:=by rw[show(30:Int)=((30:Nat):Int)from rfl,gK,Z9]
  walk_at "rd";refine⟨sz3 2,_,a30,_,hat,ar ?_⟩;walk_at "rd";rw[hcut];refine⟨ord,aq,ak,how,xs.take 30,1,rfl,hL,hh,by rw[M0];lia,hx30,by lia,by lia,fun sz ts hs hw=>ar ?_⟩;refine(iH (fun Δ' M2=>∃sz ts y8 y9,Δ'=[some (D.scr (ns.map D.int)),some (D.int c),some (dR ord aq ak),some wa,some wb,some (D.lst (xs.map D.int)),some (D.str how),some (D.tup [D.str how,aA sz,D.tup ts]),y8,y9,x10,x11,x12,x13,x14,x15]/\M2=M/\my ord (mks ord aq ak) sz/\Ws how sz ak ts) (fun nx knx=>?_) ?_)
  ·walk_at "rd";refine⟨sz3 2,fun _=>?_⟩;refine aI (fun i Δ M'=>∃sz ts y8 y9,Δ=[some (D.scr (ns.map D.int)),some (D.int c),some (dR ord aq ak),some wa,some wb,some (D.lst (xs.map D.int)),some (D.str how),some (D.tup [D.str how,aA sz,D.tup ts]),y8,y9,x10,x11,x12,x13,x14,x15]/\M'=M/\my ord (mks ord aq ak) sz/\Ws how sz ak ts) ⟨sz,ts,_,_,rfl,rfl,hs,hw⟩ ?_ ?_
   ·rintro j d Δ M' Y hd2 ⟨sz,ts,y8,y9,rfl,rfl,hs,hw⟩ k2;obtain⟨m,rfl,hm1,hm3⟩:∃m:Int,d=.int m/\1<=m/\m<=3:=by
     have:=J1 hd2;simp only[J9,L4,or_false]at this;rcases this with rfl|rfl
     ·exact⟨2,rfl,by lia,by lia⟩
     ·exact⟨3,rfl,by lia,by lia⟩
    refine⟨_,rfl,?_⟩;walk_at "rd";rw[hcut];refine⟨ord,aq,ak,how,xs.take 30,m,rfl,hL,hh,by rw[M0];lia,hx30,hm1,hm3,fun sz2 ts2 hs2 hw2=>?_⟩;walk_at "rd";have hts:∀t∈ts2,∃cs,t=.tup cs/\cs.length<=1000/\∀c∈cs,∃es,c=.tup es:=xp hL hw2;refine fun hz2=>⟨hz2,?_⟩;refine bP (fun _=>true) (fun d=>.int (smL d)) (fun Δ=>∃u,Δ=[none,none,none,none,none,none,none,none,none,none,none,none,none,none,none,none,u]) _ _ _ (fun d hd3 Δ hΔ=>?_) ⟨none,rfl⟩ ?_
    ·obtain⟨u,rfl⟩:=hΔ;obtain⟨cs,rfl,hcl,hcs⟩:=hts d hd3;refine⟨_,rfl,⟨_,rfl⟩,fun Q1 q=>q,fun _ Q2 q=>?_⟩;walk_at "rd";refine fun hz3=>⟨hz3,?_⟩;refine bP (fun _=>true) (fun d=>.int (lnD d)) (fun Δ=>∃u,Δ=[none,none,none,none,none,none,none,none,none,none,u,none,none,none,none,none,none]) _ _ _ (fun d hd4 Δ hΔ=>?_) ⟨none,rfl⟩ ?_
     ·obtain⟨u,rfl⟩:=hΔ;obtain⟨es,rfl⟩:=hcs d hd4;refine⟨_,rfl,⟨_,rfl⟩,fun Q1 q=>q,fun _ Q2 q=>?_⟩;walk_at "rd";exact q
     ·rw[K5,L7.mpr (fun _ _=>rfl)];refine⟨.int (smL (.tup cs)),?_,q⟩;have:=vZ (ns:=cs.map lnD);rw[N0]at this;exact this
    ·rw[K5,L7.mpr (fun _ _=>rfl)];refine⟨.int (ts2.map smL).sum,?_,?_⟩
     ·have:=vZ (ns:=ts2.map smL);rw[N0]at this;exact this
     refine⟨_,rfl,_,rfl,bj (fun _=>?_) (fun _=>?_)⟩
     ·exact k2 _ _ ⟨sz2,ts2,_,_,rfl,rfl,hs2,hw2⟩
     ·exact k2 _ _ ⟨sz,ts,_,_,rfl,rfl,hs,hw⟩
   ·rintro Δ M' ⟨sz,ts,y8,y9,rfl,rfl,hs,hw⟩;exact knx _ _ ⟨sz,ts,_,_,rfl,rfl,hs,hw⟩
  rintro Δ' M2 ⟨sz,ts,y8,y9,rfl,rfl,hs,hw⟩;have htw:=xT hL hh hs hw;have hW:=xr (aq:=aq) hh hs hw;refine ar ?_;walk_at "rd";refine⟨ord,aq,ak,_,rfl,hL,fS htw.sm,?_⟩;rw[je hW];refine⟨_,rfl,_,rfl,?_⟩;rw[if_neg (by decide)];refine⟨ord,aq,ak,_,rfl,hL,fS htw.sm,Ac htw.sm,?_⟩;rw[je hW];refine⟨_,rfl,?_⟩;rw[if_neg (by decide)];refine ar ?_;walk_at "rd";refine⟨sz3 3,sz3 3,sz3 0,sz3 1,_,rfl,sz3 7,fun p hp=>ar ?_⟩;have hkt:smD (aA sz)=true:=(pE hL hs).sm;have htt:smD (.tup ts)=true:=(sY hL hs hw).sm;have hsh:smD (.str how)=true:=(Tw.str 0 _ (xK hh)).sm;have smo:∀{d:D},smD d=true->OkD d:=fun h=>⟨fS h,Ac h⟩;have tws3:∀{y:Str},smD (.str y)=true->smD (.tup [.str y,aA sz,.tup ts])=true:=fun h=>bb.mpr fun d hd=>by
   simp only[J9,L4,or_false]at hd;rcases hd with rfl|rfl|rfl
   ·exact h
   ·exact hkt
   ·exact htt
  refine(iH (fun Δ' M2'=>∃L x10 x12,Δ'=[some (D.scr (ns.map D.int)),some (D.int c),some (dR ord aq ak),some wa,some wb,some (D.lst (xs.map D.int)),some (D.str how),some (D.tup [D.str how,aA sz,D.tup ts]),y8,y9,x10,some (.ref p),x12,x13,x14,x15]/\M2'=aH M2 p (.lst L)/\L.length<=50/\∀d∈L,OkD d) (fun nx knx=>?_) ?_)
  ·obtain⟨t0,ts',rfl⟩:∃t0 ts',ts=t0::ts':=by
    cases ts with
    |nil=>exact absurd (List.eq_nil_of_length_eq_zero hw.1.symm) hne
    |cons t0 ts'=>exact⟨t0,ts',rfl⟩
   obtain⟨e0,he0⟩:∃e0,ak[0]?=some e0:=⟨_,u8 (by rw[<-hw.1];simp)⟩;obtain⟨cs0,rfl,hc0,hcc⟩:=hw.2 0 e0 t0 he0 rfl;have hkl:=(hL.sh e0 (J1 he0)).2;obtain⟨c0,cs',rfl⟩:∃c0 cs',cs0=c0::cs':=by
    cases cs0 with
    |nil=>have:=hkl.1;simp at hc0;lia
    |cons t0 ts'=>exact⟨t0,ts',rfl⟩
   obtain⟨kd0,hkd0⟩:∃kd,e0.2[0]?=some kd:=⟨_,u8 (by rw[<-hc0];simp)⟩;obtain⟨es0,rfl,hel,_⟩:=hcc 0 kd0 c0 hkd0 rfl;have hem0:=J1 he0;have hkm0:=J1 hkd0;have hwl:=oS hs.1 (LxM.ins hs.2.1 hem0 hkm0) ((hL.sh e0 hem0).2.2.2.2 kd0 hkm0).1;have hk2:=hkl.2.1;have htl:=hw.1;have h1:∀e∈ts',smD e=true:=fun e he=>bb.mp htt e (.tail _ he);have h0:smD (.tup (.tup es0::cs'))=true:=bb.mp htt _ (.head _);have h2:∀e∈cs',smD e=true:=fun e he=>bb.mp h0 e (.tail _ he);have h3:smD (.tup es0)=true:=bb.mp h0 _ (.head _);have h4:∀e∈es0,smD e=true:=bb.mp h3;have hn8:=hL.n;have hp30:mJ 10 30:=⟨by decide,by decide,by decide⟩;walk_at "rd";refine⟨_,if_pos hp30,_,rfl,sz3 2,_,if_pos hp30,sz3 2,_,if_pos hp30,_,rfl,sz3 2,_,if_pos hp30,_,rfl,sz3 2,_,if_pos hp30,sz3 2,sz3 5,fun _=>?_⟩;refine aI (fun i Δ' M2'=>∃L x10 x12,Δ'=[some (D.scr (ns.map D.int)),some (D.int c),some (dR ord aq ak),some wa,some wb,some (D.lst (xs.map D.int)),some (D.str how),some (D.tup [D.str how,aA sz,D.tup (.tup (.tup es0::cs')::ts')]),y8,y9,x10,some (.ref p),x12,x13,x14,x15]/\M2'=aH M2 p (.lst L)/\L.length<=10+i/\∀d∈L,OkD d) ⟨_,_,_,rfl,rfl,by simp,fun d hd=>?_⟩ ?_ ?_
   ·simp only[J9,L4,or_false]at hd;rcases hd with rfl|rfl|rfl|rfl|rfl|rfl|rfl
    ·exact smo (tws3 (Tw.str 0 _ (.head _)).sm)
    ·exact smo (tws3 (Tw.str 0 _ (.tail _ (.head _))).sm)
    ·exact smo rfl
    ·exact smo hsh
    ·exact smo rfl
    ·exact smo (bb.mpr fun d hd=>by rw[N5.mp hd];exact hsh)
    ·exact smo (tws3 hsh)
   ·rintro j d Δ M' Y hd2 ⟨L,x10,x12,rfl,rfl,hll,hLok⟩ k2;obtain⟨a,b,rfl,hab⟩:∃a b:Int,d=.tup [.int a,.int b]/\(b=1∨a=1):=by
     have:=J1 hd2;simp only[J9,L4,or_false]at this;rcases this with rfl|rfl|rfl|rfl|rfl
     ·exact⟨_,_,rfl,.inl rfl⟩
     ·exact⟨_,_,rfl,.inl rfl⟩
     ·exact⟨_,_,rfl,.inl rfl⟩
     ·exact⟨_,_,rfl,.inr rfl⟩
     ·exact⟨_,_,rfl,.inr rfl⟩
    have hj:j<5:=(F8.mp hd2).1;refine⟨_,rfl,?_⟩;walk_at "rd";rw[show L2.cv es0 (some 1) none=es0.drop 1 from dh (n:=1),show L2.cv (D.tup es0::cs') (some 1) none=cs' from dh (n:=1),show L2.cv (D.tup (D.tup es0::cs')::ts') (some 1) none=ts' from dh (n:=1)];simp only[P2]at hc0 htl;have hdl:(es0.drop 1).length<=900:=by rw[S3];lia
    refine⟨sz3 1,_,if_pos (P7 (by lia:_<=1000) (sz3 1000)),sz3 1,_,if_pos (P7 (by lia:_<=1000) (sz3 1000)),sz3 1,_,if_pos (P7 (by lia:_<=1000) (sz3 1000)),sz3 3,J5 (by lia:L.length<1000) (sz3 1000),k2 _ _ ⟨L++[_],_,_,rfl,rfl,by rw[F6,ae5];lia,cE hLok ?_⟩⟩;exact xf (fS hsh) (fS hkt) rfl (yX hab) (fun e he=>h4 e (S7 he)) h2 h1
   ·rintro Δ M' ⟨L,x10,x12,rfl,rfl,hll,hLok⟩;exact knx _ _ ⟨L,_,_,rfl,rfl,by simp at hll;lia,hLok⟩
  rintro Δ' M2' ⟨L,x10',x12',rfl,rfl,hL50,hLok⟩;refine ar (iH (fun Δ' M2'=>∃L x13,Δ'=[some (D.scr (ns.map D.int)),some (D.int c),some (dR ord aq ak),some wa,some wb,some (D.lst (xs.map D.int)),some (D.str how),some (D.tup [D.str how,aA sz,D.tup ts]),y8,y9,x10',some (.ref p),x12',x13,x14,x15]/\M2'=aH M2 p (.lst L)/\L.length<=100/\∀d∈L,OkD d) (fun nx knx=>?_) ?_)
  ·walk_at "rd";refine aI (fun i Δ' M2'=>∃L x13,Δ'=[some (D.scr (ns.map D.int)),some (D.int c),some (dR ord aq ak),some wa,some wb,some (D.lst (xs.map D.int)),some (D.str how),some (D.tup [D.str how,aA sz,D.tup ts]),y8,y9,x10',some (.ref p),x12',x13,x14,x15]/\M2'=aH M2 p (.lst L)/\L.length<=50+i/\∀d∈L,OkD d) ⟨_,_,rfl,rfl,by lia,hLok⟩ ?_ ?_
   ·rintro j d Δ M' Y hd2 ⟨L,x13,rfl,rfl,hll,hLok⟩ k2;obtain⟨hj,rfl⟩:=cg hd2;refine⟨_,rfl,?_⟩;rw[Z8];walk_at "rd";have hcb:L2.cv (xs.map D.int) (some (31+12*(j:Int))) (some (43+12*(j:Int)))=((xs.take (43+12*j)).drop (31+12*j)).map D.int:=by
     rw[show(31:Int)+12*(j:Int)=((31+12*j:Nat):Int)by lia,show(43:Int)+12*(j:Int)=((43+12*j:Nat):Int)by lia];unfold L2.cv;rw[HT.sIx_nat,HT.sIx_nat,ak7 (by rw[F1];lia),ak7 (by rw[F1];lia),af6,Z9,List.drop_take]
    rw[hcb];refine⟨5,_,_,rfl,htw,by lia,by rw[S3,M0];show _=12;lia,fun x hm=>hx0 x (Q0 (S7 hm)),fun d' hd'=>⟨L,aP,J5 (by lia:L.length<1000) (sz3 1000),?_⟩⟩;rw[cf];exact k2 _ _ ⟨L++[d'],_,rfl,rfl,by rw[F6,ae5];lia,cE hLok (smo hd')⟩
   ·rintro Δ M' ⟨L,x13,rfl,rfl,hll,hLok⟩;exact knx _ _ ⟨L,_,rfl,rfl,by rw[bD]at hll;lia,hLok⟩
  rintro Δ' M2' ⟨L,x13',rfl,rfl,hL50,hLok⟩;refine ar ?_;walk_at "rd";refine fun _=>aI (fun i Δ' M2'=>∃x14 x15,Δ'=[some (D.scr (ns.map D.int)),some (D.int c),some (dR ord aq ak),some wa,some wb,some (D.lst (xs.map D.int)),some (D.str how),some (D.tup [D.str how,aA sz,D.tup ts]),y8,y9,x10',some (.lst L),x12',x13',x14,x15]) ⟨_,_,rfl⟩ ?_ ?_
  ·rintro j d Δ M' Y hd2 ⟨x14,x15,rfl⟩ k2;obtain⟨hg,hq⟩:=hLok d (J1 hd2);refine⟨_,rfl,?_⟩;walk_at "rd";refine⟨ord,aq,ak,d,rfl,hL,hg,?_⟩;refine⟨true,rfl,?_⟩;rw[if_neg (by simp)];refine⟨ord,aq,ak,d,rfl,hL,hg,hq,?_⟩;refine⟨_,xh,_,rfl,?_⟩;rw[if_neg (by simp)];exact k2 _ _ ⟨_,_,rfl⟩
  ·rintro Δ M' ⟨x14,x15,rfl⟩;exact k' _ _ ⟨_,_,_,_,_,_,_,_,_,_,_,_,_,_,_,rfl⟩
 ·rintro Δ M ⟨x1,x2,x3,x4,x5,x6,x7,x8,x9,x10,x11,x12,x13,x14,x15,rfl⟩;walk_at "rd";exact k _
end
theorem D4:D3 S_law:=fun ns R hn hR=>⟨ns,rfl,rfl,hn,hR⟩
theorem Bm{l:PySem.W.OpenLaw}{w:P9}{K:F2}{h:K7}{mg:Str->Option F3}{fa:J7}(X:K.In h) (G:h.Ns L3 mg) (hfa:mg "law"=some (.ref fa))
  {f0:J7} {d0:L8}
  {f1:J7} {d1:L8}
  {f2:J7} {d2:L8}
  {f3:J7} {d3:L8}
  {f4:J7} {d4:L8}
  {f5:J7} {d5:L8}
  {f6:J7} {d6:L8}
  {f7:J7} {d7:L8}
  {f8:J7} {d8:L8}
  {f9:J7} {d9:L8}
  {f10:J7} {d10:L8}
  {f11:J7} {d11:L8}
  {f12:J7} {d12:L8}
  {f13:J7} {d13:L8}
  {f14:J7} {d14:L8}
  {f15:J7} {d15:L8}
  {f16:J7} {d16:L8}
  {f17:J7} {d17:L8}
  {f18:J7} {d18:L8}
  {f19:J7} {d19:L8}
  {f20:J7} {d20:L8}
  {f21:J7} {d21:L8}
  {f22:J7} {d22:L8}
  {f23:J7} {d23:L8}
  {f24:J7} {d24:L8}
  {f25:J7} {d25:L8}
  {f26:J7} {d26:L8}
  {f27:J7} {d27:L8}
  {f28:J7} {d28:L8}
  {f29:J7} {d29:L8}
  {f30:J7} {d30:L8}
  {f31:J7} {d31:L8}
  {f32:J7} {d32:L8}
  {f33:J7} {d33:L8}
  {f34:J7} {d34:L8}
  {f35:J7} {d35:L8}
  {f36:J7} {d36:L8}
  {f37:J7} {d37:L8}
  {tk_SMALL_LETTERS:Tok}
  {tk_MOST_LETTERS:Tok}
  {tk_SUMS:Tok}
  {tk_TRUTHS:Tok}
  {tk_MOST_SIZE:Tok}
  {tk_LEAST_OF_31_FIGURES:Tok}
  (x0:bR K "is_whole" fZ f0 d0)
  (x1:bR K "is_tuple_of" dQ f1 d1)
  (x2:bR K "is_short_word" cn f2 d2)
  (x3:bR K "marks_of" df f3 d3)
  (x4:bR K "product" gF f4 d4)
  (x5:bR K "greatest_divisor" cx f5 d5)
  (x6:bR K "is_how" iM f6 d6)
  (x7:bR K "_law_parts" jL f7 d7)
  (x8:bR K "_law_letters" eX f8 d8)
  (x9:bR K "_law_most" lu f9 d9)
  (x10:bR K "_law_matched" gL f10 d10)
  (x11:bR K "_law_cut" ow f11 d11)
  (x12:bR K "_law_kinds" g6 f12 d12)
  (x13:bR K "_law_marks" ig f13 d13)
  (x14:bR K "_law_low" oa f14 d14)
  (x15:bR K "_law_leaf" l9 f15 d15)
  (x16:bR K "_law_whole" jM f16 d16)
  (x17:bR K "_law_pair" lO f17 d17)
  (x18:bR K "is_mark" gO f18 d18)
  (x19:bR K "is_fraction" dP f19 d19)
  (x20:bR K "ways_to_give_indices" bx f20 d20)
  (x21:bR K "_law_signs" fu f21 d21)
  (x22:bR K "_law_sizes" gY f22 d22)
  (x23:bR K "_law_cells" jZ f23 d23)
  (x24:bR K "_law_good_sizes" bL f24 d24)
  (x25:bR K "_law_good_cell" fm f25 d25)
  (x26:bR K "is_size" gN f26 d26)
  (x27:bR K "are_cells" cN f27 d27)
  (x28:bR K "_law_sentence" dn f28 d28)
  (x29:bR K "_law_world" jG f29 d29)
  (x30:bR K "_law_good_cells" cY f30 d30)
  (x31:bR K "are_sizes" bO f31 d31)
  (x32:bR K "is_table" dU f32 d32)
  (x33:bR K "_law_good" jr f33 d33)
  (x34:bR K "are_tables" c9 f34 d34)
  (x35:bR K "is_world" dZ f35 d35)
  (x36:bR K "_law_bent" l7 f36 d36)
  (x37:bR K "law" tJ f37 d37)
  (z_isinstance:O5 K L3 "isinstance"=some none)
  (z_int:O5 K L3 "int"=some none)
  (z_bool:O5 K L3 "bool"=some none)
  (z_tuple:O5 K L3 "tuple"=some none)
  (z_len:O5 K L3 "len"=some none)
  (z_str:O5 K L3 "str"=some none)
  (z_all:O5 K L3 "all"=some none)
  (z_sorted:O5 K L3 "sorted"=some none)
  (z_set:O5 K L3 "set"=some none)
  (z_abs:O5 K L3 "abs"=some none)
  (z_zip:O5 K L3 "zip"=some none)
  (z_range:O5 K L3 "range"=some none)
  (z_list:O5 K L3 "list"=some none)
  (z_max:O5 K L3 "max"=some none)
  (z_min:O5 K L3 "min"=some none)
  (z_dict:O5 K L3 "dict"=some none)
  (z_sum:O5 K L3 "sum"=some none)
  (z_SMALL_LETTERS:O5 K L3 "SMALL_LETTERS"=some (some (.str "abcdefghijklmnopqrstuvwxyz" tk_SMALL_LETTERS)))
  (z_MOST_LETTERS:O5 K L3 "MOST_LETTERS"=some (some (.int 8 tk_MOST_LETTERS)))
  (z_SUMS:O5 K L3 "SUMS"=some (some (.str "sums" tk_SUMS)))
  (z_TRUTHS:O5 K L3 "TRUTHS"=some (some (.str "truths" tk_TRUTHS)))
  (z_MOST_SIZE:O5 K L3 "MOST_SIZE"=some (some (.int 3 tk_MOST_SIZE)))
  (z_LEAST_OF_31_FIGURES:O5 K L3 "LEAST_OF_31_FIGURES"=some (some (.int 1000000000000000000000000000000 tk_LEAST_OF_31_FIGURES)))
 :∃fd:L8,(∀(s:F4) (v:F3),ao6 s fd ⟨[v],[]⟩ [("_law_script",v)])/\∀base:K7,K.In base->base.Ns L3 mg->bA l.prog w K mg base CX0 8 fa fd ["_law_script"] (spD K 1 S_law):=by
 have T:Txt mg:=⟨N6 X G z_isinstance,N6 X G z_int,N6 X G z_bool,N6 X G z_tuple,N6 X G z_len,N6 X G z_str,N6 X G z_all,N6 X G z_sorted,N6 X G z_set,N6 X G z_abs,N6 X G z_zip,N6 X G z_range,N6 X G z_list,N6 X G z_max,N6 X G z_min,N6 X G z_dict,N6 X G z_sum,⟨_,Z1 X G z_SMALL_LETTERS⟩,⟨_,Z1 X G z_MOST_LETTERS⟩,⟨_,Z1 X G z_SUMS⟩,⟨_,Z1 X G z_TRUTHS⟩,⟨_,Z1 X G z_MOST_SIZE⟩,⟨_,Z1 X G z_LEAST_OF_31_FIGURES⟩⟩;refine BL X G hfa x37 (fun _ _ _ _ _ _ _=>rfl) fun base=>?_;have G4:=fg X G x0 (mC (P:=l.prog) (w:=w) (base:=base) x0.F T ) (bd1 x0.F fun _ _ _ _ _ _ _=>rfl);have G0:=fg X G x1 (jE (P:=l.prog) (w:=w) (base:=base) x1.F T ) (bd2 x1.F fun _ _ _ _ _ _ _ _=>rfl);have G9:=fg X G x2 (iN (P:=l.prog) (w:=w) (base:=base) x2.F T ) (bd1 x2.F fun _ _ _ _ _ _ _=>rfl);have ga3:=fg X G x3 (mS (P:=l.prog) (w:=w) (base:=base) x3.F T ) (bd1 x3.F fun _ _ _ _ _ _ _=>rfl);have ga7:=fg X G x4 (oB (P:=l.prog) (w:=w) (base:=base) x4.F T ) (bd1 x4.F fun _ _ _ _ _ _ _=>rfl);have G6:=fg X G x5 (gu (P:=l.prog) (w:=w) (base:=base) x5.F T ) (bd2 x5.F fun _ _ _ _ _ _ _ _=>rfl);have gb0:=fg X G x6 (p9 (P:=l.prog) (w:=w) (base:=base) x6.F T ) (bd1 x6.F fun _ _ _ _ _ _ _=>rfl);have Y1:=fg X G x7 (qS (P:=l.prog) (w:=w) (base:=base) x7.F T ) (bd2 x7.F fun _ _ _ _ _ _ _ _=>rfl);have Y8:=fg X G x8 (n9 (P:=l.prog) (w:=w) (base:=base) x8.F T ) (bd2 x8.F fun _ _ _ _ _ _ _ _=>rfl);have gb5:=fg X G x9 (uP (P:=l.prog) (w:=w) (base:=base) x9.F T ) (bd3 x9.F fun _ _ _ _ _ _ _ _ _=>rfl);have ga6:=fg X G x10 (oC (P:=l.prog) (w:=w) (base:=base) x10.F T ) (bd2 x10.F fun _ _ _ _ _ _ _ _=>rfl);have gb6:=fg X G x11 (vf (P:=l.prog) (w:=w) (base:=base) x11.F T ) (bd2 x11.F fun _ _ _ _ _ _ _ _=>rfl);have gb1:=fg X G x12 (rT (P:=l.prog) (w:=w) (base:=base) x12.F T ) (bd3 x12.F fun _ _ _ _ _ _ _ _ _=>rfl);have Y0:=fg X G x13 (rK (P:=l.prog) (w:=w) (base:=base) x13.F T ) (bd1 x13.F fun _ _ _ _ _ _ _=>rfl);have ga1:=fg X G x14 (wj (P:=l.prog) (w:=w) (base:=base) x14.F T ) (bd2 x14.F fun _ _ _ _ _ _ _ _=>rfl);have G7:=fg X G x15 (uH (P:=l.prog) (w:=w) (base:=base) x15.F T ) (bd2 x15.F fun _ _ _ _ _ _ _ _=>rfl);have G8:=fg X G x16 (rL (P:=l.prog) (w:=w) (base:=base) x16.F T ) (bd1 x16.F fun _ _ _ _ _ _ _=>rfl);have Y7:=fg X G x17 (ux (P:=l.prog) (w:=w) (base:=base) x17.F T ) (bd1 x17.F fun _ _ _ _ _ _ _=>rfl);have ga9:=fg X G x18 (oK (P:=l.prog) (w:=w) (base:=base) x18.F T G9) (bd1 x18.F fun _ _ _ _ _ _ _=>rfl);have Y2:=fg X G x19 (jS (P:=l.prog) (w:=w) (base:=base) x19.F T G0 G4 G6) (bd1 x19.F fun _ _ _ _ _ _ _=>rfl);have G5:=fg X G x20 (eW (P:=l.prog) (w:=w) (base:=base) x20.F T ga7) (bd2 x20.F fun _ _ _ _ _ _ _ _=>rfl);have gb4:=fg X G x21 (sC (P:=l.prog) (w:=w) (base:=base) x21.F T gb5) (bd5 x21.F fun _ _ _ _ _ _ _ _ _ _ _=>rfl);have gb3:=fg X G x22 (rP (P:=l.prog) (w:=w) (base:=base) x22.F T Y0) (bd3 x22.F fun _ _ _ _ _ _ _ _ _=>rfl);have gb2:=fg X G x23 (rf (P:=l.prog) (w:=w) (base:=base) x23.F T ga1) (bd4 x23.F fun _ _ _ _ _ _ _ _ _ _=>rfl);have Y5:=fg X G x24 (kE (P:=l.prog) (w:=w) (base:=base) x24.F T Y0 Y7 G8) (bd2 x24.F fun _ _ _ _ _ _ _ _=>rfl);have G3:=fg X G x25 (mq (P:=l.prog) (w:=w) (base:=base) x25.F T Y7 G8 ga1) (bd2 x25.F fun _ _ _ _ _ _ _ _=>rfl);have ga8:=fg X G x26 (o3 (P:=l.prog) (w:=w) (base:=base) x26.F T G0 ga9 G4) (bd1 x26.F fun _ _ _ _ _ _ _=>rfl);have Y9:=fg X G x27 (ma (P:=l.prog) (w:=w) (base:=base) x27.F T G0 Y2) (bd3 x27.F fun _ _ _ _ _ _ _ _ _=>rfl);have ga2:=fg X G x28 (mO (P:=l.prog) (w:=w) (base:=base) x28.F T Y1 ga6 gb4 gb6 Y8 gb1) (bd1 x28.F fun _ _ _ _ _ _ _=>rfl);have ga5:=fg X G x29 (rC (P:=l.prog) (w:=w) (base:=base) x29.F T gb3 gb2) (bd4 x29.F fun _ _ _ _ _ _ _ _ _ _=>rfl);have Y6:=fg X G x30 (kK (P:=l.prog) (w:=w) (base:=base) x30.F T G3) (bd4 x30.F fun _ _ _ _ _ _ _ _ _ _=>rfl);have ga0:=fg X G x31 (kX (P:=l.prog) (w:=w) (base:=base) x31.F T ga3 ga8) (bd2 x31.F fun _ _ _ _ _ _ _ _=>rfl);have ga4:=fg X G x32 (mP (P:=l.prog) (w:=w) (base:=base) x32.F T G0 Y9 G5) (bd4 x32.F fun _ _ _ _ _ _ _ _ _ _=>rfl);have G2:=fg X G x33 (uC (P:=l.prog) (w:=w) (base:=base) x33.F T Y5 Y6) (bd2 x33.F fun _ _ _ _ _ _ _ _=>rfl);have Y4:=fg X G x34 (kC (P:=l.prog) (w:=w) (base:=base) x34.F T G0 ga4) (bd4 x34.F fun _ _ _ _ _ _ _ _ _ _=>rfl);have Y3:=fg X G x35 (mV (P:=l.prog) (w:=w) (base:=base) x35.F T Y4 G0 gb0 ga0) (bd2 x35.F fun _ _ _ _ _ _ _ _=>rfl);have G1:FnD l.prog w K mg base "_law_bent" (0+1) 2 (jo 0):=fg X G x36 xx (bd2 x36.F fun _ _ _ _ _ _ _ _=>rfl);replace G1:=fg X G x36 (eF (P:=l.prog) (w:=w) (base:=base) x36.F T G7 G1) (bd2 x36.F fun _ _ _ _ _ _ _ _=>rfl);replace G1:=fg X G x36 (eF (P:=l.prog) (w:=w) (base:=base) x36.F T G7 G1) (bd2 x36.F fun _ _ _ _ _ _ _ _=>rfl);replace G1:=fg X G x36 (eF (P:=l.prog) (w:=w) (base:=base) x36.F T G7 G1) (bd2 x36.F fun _ _ _ _ _ _ _ _=>rfl);replace G1:=fg X G x36 (eF (P:=l.prog) (w:=w) (base:=base) x36.F T G7 G1) (bd2 x36.F fun _ _ _ _ _ _ _ _=>rfl);replace G1:=fg X G x36 (eF (P:=l.prog) (w:=w) (base:=base) x36.F T G7 G1) (bd2 x36.F fun _ _ _ _ _ _ _ _=>rfl);replace G1:=fg X G x36 (eF (P:=l.prog) (w:=w) (base:=base) x36.F T G7 G1) (bd2 x36.F fun _ _ _ _ _ _ _ _=>rfl);exact B0 x37.F T ga2 Y1 ga5 Y3 G2 G1
end My
namespace PySem.W.Fast
def tw10065214173846863873:=Nat
def tw10125607625253393650:=Nat
def tw10156203681797167207:=Nat
def tw10352875911336978286:=Nat
def tw10377074499346763557:=Nat
def tw10385510020923770783:=Nat
def tw10393111123633682144:=Nat
def tw10462158017916683938:=Nat
def tw10508257959045463513:=Nat
def tw10516671298163469673:=Nat
def tw10606293292680052766:=Nat
def tw1069236726301819221:=Nat
def tw10752299794578404202:=Nat
def tw1084416142586890939:=Nat
def tw11165586758452715666:=Nat
def tw11263020187203601765:=Nat
def tw11364287172420209711:=Nat
def tw11548921582759685756:=Nat
def tw11769467209026891005:=Nat
def tw11802989001912341100:=Nat
def tw11804845676907045400:=Nat
def tw11807661368427516519:=Nat
def tw11907188467286471638:=Nat
def tw11942726530626378685:=Nat
def tw11970282779933105423:=Nat
def tw11971693368144461666:=Nat
def tw12241300217608424744:=Nat
def tw12478334653046132004:=Nat
def tw12509096904790059655:=Nat
def tw13120754913686276163:=Nat
def tw13157258862854386584:=Nat
def tw1320778448497651386:=Nat
def tw13267527690334357821:=Nat
def tw13300578585055830670:=Nat
def tw13328638571394806045:=Nat
def tw13421529726893200391:=Nat
def tw13481579038600712658:=Nat
def tw13606320158579479093:=Nat
def tw13742614331509708091:=Nat
def tw13765880877234024825:=Nat
def tw13900194283543600565:=Nat
def tw14031771745900854924:=Nat
def tw14067873850307818136:=Nat
def tw14235008967397825236:=Nat
def tw14365310317144329080:=Nat
def tw14569071959974034587:=Nat
def tw14649049673541835506:=Nat
def tw14741247489321596601:=Nat
def tw1476813069755688365:=Nat
def tw1520315146087784279:=Nat
def tw15217934459411698702:=Nat
def tw15391128525366726432:=Nat
def tw15500463413882994968:=Nat
def tw15634618383000180167:=Nat
def tw15760976517483814294:=Nat
def tw15956384527782083888:=Nat
def tw16208700124891615165:=Nat
def tw1632961405966552805:=Nat
def tw16370822492922333753:=Nat
def tw16575197944615916585:=Nat
def tw16864092574159947649:=Nat
def tw16932208280507108296:=Nat
def tw16992190398079091440:=Nat
def tw17116042045231682074:=Nat
def tw17170394005694229547:=Nat
def tw17272524523139226066:=Nat
def tw17300962075570010995:=Nat
def tw17493455466288127100:=Nat
def tw1758965189814439898:=Nat
def tw17640343710552645962:=Nat
def tw17654309886330571422:=Nat
def tw1769125203979655245:=Nat
def tw17852089353000681834:=Nat
def tw17865028410728978060:=Nat
def tw17874811837848713598:=Nat
def tw17945365686464758564:=Nat
def tw18053790098115522698:=Nat
def tw18193235983112602399:=Nat
def tw18219100519721550343:=Nat
def tw18235469246518601157:=Nat
def tw1872613868774160007:=Nat
def tw1896882953405466490:=Nat
def tw1951891451860199294:=Nat
def tw2298193950635417544:=Nat
def tw2885002020781377014:=Nat
def tw2961103190596384826:=Nat
def tw3000883894724620506:=Nat
def tw302568974836796131:=Nat
def tw3038611966051265220:=Nat
def tw3079070805376799641:=Nat
def tw3209289738846655071:=Nat
def tw3296278816523319103:=Nat
def tw3380388218172468815:=Nat
def tw3440774202327882729:=Nat
def tw3488959174850403534:=Nat
def tw350857266116264827:=Nat
def tw3614740308829607402:=Nat
def tw3675058247864955241:=Nat
def tw3688355219342204539:=Nat
def tw3808097311453781666:=Nat
def tw3850782468865877529:=Nat
def tw3889878681970253341:=Nat
def tw3995940425492260597:=Nat
def tw4039073754770155336:=Nat
def tw4217702427203522746:=Nat
def tw4332584051365374662:=Nat
def tw4425932484169097514:=Nat
def tw4493108401551036301:=Nat
def tw4530052312747802535:=Nat
def tw4628119978648846755:=Nat
def tw4714207206213853724:=Nat
def tw476132169918631128:=Nat
def tw4968460105592441654:=Nat
def tw5427914889290094088:=Nat
def tw5755327733086082209:=Nat
def tw6274097205559063657:=Nat
def tw6473482334741850571:=Nat
def tw6565425769781535648:=Nat
def tw6582179327597541134:=Nat
def tw6677091566271963691:=Nat
def tw6791038977984252315:=Nat
def tw6805745636552221351:=Nat
def tw683931247590508153:=Nat
def tw684903386837201432:=Nat
def tw6920230131606781139:=Nat
def tw7028844946186113869:=Nat
def tw7039318865760863999:=Nat
def tw7047273520425899632:=Nat
def tw7165319769083133103:=Nat
def tw7166021506675941648:=Nat
def tw7335712144797559690:=Nat
def tw7343966246943610318:=Nat
def tw7710446215849339606:=Nat
def tw7884931399157794189:=Nat
def tw8077886625452088315:=Nat
def tw814311618633936145:=Nat
def tw8179237199151145235:=Nat
def tw8268392978529764764:=Nat
def tw8314392098766196046:=Nat
def tw8368497109938389794:=Nat
def tw8519287282360405082:=Nat
def tw8557324780705219819:=Nat
def tw8602774202659632470:=Nat
def tw8659136064985481881:=Nat
def tw8664319200014432160:=Nat
def tw8809832752176634064:=Nat
def tw8844931841949614252:=Nat
def tw8866728892947838220:=Nat
def tw8904838619925706575:=Nat
def tw9012913210700348423:=Nat
def tw9198465488801182155:=Nat
def tw9309459266425598812:=Nat
def tw9682215743651453450:=Nat
def tw9808337596441830341:=Nat
def tw9975758228284759598:=Nat
def tw9998006489661601239:=Nat
end PySem.W.Fast
open PySem PySem.W PyProof.Rows
set_option maxRecDepth 100000 in
set_option maxHeartbeats 0 in
theorem PySem.Challenge.cw_wordwishes_k43_worlds_holds : PySem.Challenge.rw_wordwishes_k43_worlds.Holds := by
 w_on;o_law;z_head;(case hw=>w_witness2)
 k_fill
 refine L2.xP (fun _=>rfl) ?_;refine L2.CP (S:=My.S_law) My.D4 (k:=8) (x:="_law_script") (l:=PySem.Challenge.rw_wordwishes_k43_worlds) ⟨rfl,by decide,by decide⟩ rfl rfl (fun w h Y=>Y) ?F
 case F =>
  intro w mg fa h KX G hmg
  refine' My.Bm KX G hmg ?_ ?_ ?_ ?_ ?_ ?_ ?_ ?_ ?_ ?_ ?_ ?_ ?_ ?_ ?_ ?_ ?_ ?_ ?_ ?_ ?_ ?_ ?_ ?_ ?_ ?_ ?_ ?_ ?_ ?_ ?_ ?_ ?_ ?_ ?_ ?_ ?_ ?_ ?_ ?_ ?_ ?_ ?_ ?_ ?_ ?_ ?_ ?_ ?_ ?_ ?_ ?_ ?_ ?_ ?_ ?_ ?_ ?_ ?_ ?_ ?_
  all_goals try first|exact L2.CM (by k_is) (by k_is) (by k_is) (by k_is)|exact L2.vy (by k_is) (by k_is) (by k_is)|k_is|exact rfl
